import PyProof.Rows.All
import Wide.All
import OpenK.AllK
import Wide.FinOn
import HandS.ForMost
import HandS.Evl
import HandS.Steps
import HandS.Wide
import HandS.IsInst
import HandS.Defaults
import HandS.Style
import HandS.Codes
import HandS.Walk
import HandS.Flow
import HandS.TupAny
import KE.KxText
import HandS.DictComp
import HandS.Zip
import HandS.Conv
import HandS.Deep
import PyProof.AutoSeq1
import PyProof.Rows.StrDouble
import KE.KStrOpen
import KE.KExcSuper
import KE.KSuper
import HandS.ExcInit
import HandS.NestedK
import HandS.FStr
import HandS.ExcValue
import HandS.ExcField
import HandS.ExcIs
import KE.KExcIs
import HandS.ExcOwn
import HandS.WordsExc
import HandS.TryOnly
import HandS.SetFor
import HandS.MakeKwOnly
import HandS.FStrTup
import PyProof.ReprLen
import KE.KIntText
import KE.OsRunLaw
import PySem.Challenge.RW_claimworlds_k09_errors_made
set_option Elab.async false
set_option linter.all false
set_option maxRecDepth 100000
set_option maxHeartbeats 1000000
namespace CW
open PySem PySem.Spec PyProof.Rows L2

/-! heaps that grow -/
abbrev Xt (H H' : Hp) : Prop := ∀ a o, H a = some o → H' a = some o
theorem xrefl (H : Hp) : Xt H H := fun _ _ h => h
theorem xtr {H H1 H2 : Hp} (a : Xt H H1) (b : Xt H1 H2) : Xt H H2 := fun x o h => b x o (a x o h)
theorem xnew {H : Hp} {p : Addr} {o : HO} (h : H p = none) : Xt H (upd H p o) := fun a u e => by
  rw [upd_ne (ne_of_none e h)]; exact e
theorem xmut {H H' : Hp} {p : Addr} {o : HO} (e : Xt H H') (h : H p = none) : Xt H (upd H' p o) := fun a u ha => by
  rw [upd_ne (ne_of_none ha h)]; exact e a u ha
theorem xfree {H H' : Hp} {p : Addr} (e : Xt H H') (h : H' p = none) : H p = none := by
  cases h1 : H p with
  | none => rfl
  | some o => rw [e p o h1] at h; cases h
theorem xl {K : PySem.W.Frag} {H H' : Hp} {a : Addr} {xs : List V} (e : Xt H H') (h : SqL K H a xs) : SqL K H' a xs := by
  rcases h with (h | ⟨o, h⟩) | h
  · exact .inl (.inl (e _ _ h))
  · exact .inl (.inr ⟨o, e _ _ h⟩)
  · exact .inr h
theorem xt {K : PySem.W.Frag} {H H' : Hp} {a : Addr} {xs : List V} (e : Xt H H') (h : SqT K H a xs) : SqT K H' a xs := by
  rcases h with (h | ⟨o, h⟩) | h
  · exact .inl (.inl (e _ _ h))
  · exact .inl (.inr ⟨o, e _ _ h⟩)
  · exact .inr h
theorem sql {K : PySem.W.Frag} {H : Hp} {a : Addr} {xs : List V} (h : H a = some (.lst xs)) : SqL K H a xs := .inl (.inl h)
theorem sqt {K : PySem.W.Frag} {H : Hp} {a : Addr} {xs : List V} (h : H a = some (.tup xs)) : SqT K H a xs := .inl (.inl h)
theorem szle {n : Nat} (h : n ≤ 100000) : n ≤ sizeLine := Nat.le_trans h (by decide)
theorem szlt {n : Nat} (h : n < 100000) : n < sizeLine := Nat.lt_of_lt_of_le h (by decide)

/-! steps -/
section
variable {K : PySem.W.Frag} {σ : L2.St} {H : Hp} {Q : VK} {D : Ends} {t u : TS} {te ta tb tc : TE} {tt tw : TT} {g : TG} {i : Nat} {v x y : V} {r : R2}
theorem k_seq (h : t { D with nx := u D } σ H) : tSeq t u D σ H := h
theorem k_next (h : D.nx σ H) : tNext D σ H := h
theorem k_asg (h : te σ H fun x H1 => g x σ H1 D.nx) : tAsg te g D σ H := h
theorem k_name {R : L2.St → Hp → Prop} (h : R (σ.set i (some v)) H) : gName i v σ H R := h
theorem k_drop (h : te σ H fun _ H1 => D.nx σ H1) : tDrop te D σ H := h
theorem k_ret (h : te σ H D.rt) : tRet te D σ H := h
theorem k_ifs (h : tt σ H fun b H1 => if b = true then t D σ H1 else u D σ H1) : tIfS tt t u D σ H := h
theorem k_var (h : σ[i]? = some (some v)) (q : Q v H) : tVar i σ H Q := ⟨v, h, q⟩
theorem k_c (q : Q v H) : tC v σ H Q := q
theorem k_op (h : ta σ H fun x H1 => tb σ H1 fun y H2 => r x y H2 Q) : tOp r ta tb σ H Q := h
theorem k_un {r : V → Hp → VK → Prop} (h : ta σ H fun x H1 => r x H1 Q) : tUn r ta σ H Q := h
theorem k_cons {tr : TA} {R : List V → Hp → Prop} (h : ta σ H fun x H1 => tr σ H1 fun xs H2 => R (x :: xs) H2) : tCons ta tr σ H R := h
theorem k_nil {R : List V → Hp → Prop} (h : R [] H) : tNil σ H R := h
theorem k_cb {rr : List V → Hp → VK → Prop} {ts : TA} (h : ts σ H fun vs H1 => rr vs H1 Q) : tCB rr ts σ H Q := h
theorem k_call {sp : Sp} {dvs : List V} {E : XK} {ts : TA} (h : ts σ H fun vs H1 => sp (vs ++ dvs) H1 Q E) : tCall sp dvs E ts σ H Q := h
theorem k_callN {n m : Nat} {sp : Sp} {gV : List V → List V → List V} {E : XK} {ts tk : TA} (h : ts σ H fun vs H1 => tk σ H1 fun zs H2 => vs.length = n ∧ zs.length = m ∧ sp (gV vs zs) H2 Q E) : tCallN n m sp gV E ts tk σ H Q := h
theorem k_test {R : Bool → Hp → Prop} (h : te σ H fun x H' => ∃ k, x = .bl k ∧ R k H') : tTest te σ H R := h
theorem k_tb {R : Bool → Hp → Prop} (h : te σ H fun x H' => ∃ k, x = .bl k ∧ R k H') : tB te σ H R := h
theorem k_not {R : Bool → Hp → Prop} (h : tt σ H fun c H1 => R (!c) H1) : tNot tt σ H R := h
theorem k_and {R : Bool → Hp → Prop} (h : tt σ H fun c H1 => if c = true then tw σ H1 R else R false H1) : tAnd tt tw σ H R := h
theorem k_or {R : Bool → Hp → Prop} (h : tt σ H fun c H1 => if c = true then R true H1 else tw σ H1 R) : tOr tt tw σ H R := h
theorem k_andV (h : ta σ H fun x H1 => ∃ c, x = .bl c ∧ if c = true then tb σ H1 Q else Q (.bl false) H1) : tAndV ta tb σ H Q := h
theorem k_orV (h : ta σ H fun x H1 => ∃ c, x = .bl c ∧ if c = true then Q (.bl true) H1 else tb σ H1 Q) : tOrV ta tb σ H Q := h
theorem k_notV (h : ta σ H fun x H1 => ∃ c, x = .bl c ∧ Q (.bl (!c)) H1) : tNotV ta σ H Q := h
theorem k_ife (h : tt σ H fun c H1 => if c = true then ta σ H1 Q else tb σ H1 Q) : tIf tt ta tb σ H Q := h
theorem k_chain {r' : R2} (h : ta σ H fun x H1 => tb σ H1 fun y H2 => r x y H2 fun z H3 => ∃ k, z = .bl k ∧ (if k = true then tc σ H3 fun w' H4 => r' y w' H4 Q else Q (.bl false) H3)) : tChain r r' ta tb tc σ H Q := h
theorem k_lst {ts : TA} (h : ts σ H fun xs H1 => xs.length ≤ sizeLine ∧ ∀ p H2, H1 p = none → Xt H1 H2 → H2 p = some (.lst xs) → Q (.ref p) H2) (mono : ∀ R R' : List V → Hp → Prop, (∀ xs H1, R xs H1 → R' xs H1) → ts σ H R → ts σ H R') : tLst ts σ H Q :=
  mono _ _ (fun xs H1 ⟨h1, h2⟩ => ⟨h1, fun p hp => h2 p _ hp (xnew hp) upd_same⟩) h
/-- a literal true test -/
theorem k_bl {b : Bool} {R : Bool → Hp → Prop} (h : R b H) : ∃ k, V.bl b = .bl k ∧ R k H := ⟨b, rfl, h⟩
theorem k_yes {A B : Prop} (h : A) : if true = true then A else B := iteT h
theorem k_no {A B : Prop} (h : B) : if false = true then A else B := iteF h
theorem k_if {c : Prop} [Decidable c] {A B : Prop} (h1 : c → A) (h2 : ¬ c → B) : if decide c = true then A else B := by
  by_cases h : c
  · rw [decide_eq_true h]; exact iteT (h1 h)
  · rw [decide_eq_false h]; exact iteF (h2 h)
theorem k_ifn {c : Prop} [Decidable c] {A B : Prop} (h1 : ¬ c → A) (h2 : c → B) : if (!decide c) = true then A else B := by
  by_cases h : c
  · rw [decide_eq_true h]; exact iteF (h2 h)
  · rw [decide_eq_false h]; exact iteT (h1 h)
theorem k_ifb {c : Bool} {A B : Prop} (h1 : c = true → A) (h2 : c = false → B) : if c = true then A else B := by
  cases c with
  | true => exact iteT (h1 rfl)
  | false => exact iteF (h2 rfl)
/-! value operations -/
theorem v_I0 {gg : Int → Int → V} {i j : Int} (q : Q (gg i j) H) : rI0 gg (.int i) (.int j) H Q := ⟨i, j, rfl, rfl, q⟩
theorem v_I {C : Int → Int → Prop} {gg : Int → Int → V} {i j : Int} (hc : C i j) (q : Q (gg i j) H) : rI C gg (.int i) (.int j) H Q := ⟨i, j, rfl, rfl, hc, q⟩
theorem v_neg {i : Int} (q : Q (.int (-i)) H) : rU (fun i => .int (-i)) (.int i) H Q := ⟨i, rfl, q⟩
theorem v_eq (h : scal x y = true) (q : Q (.bl (decide (x = y))) H) : rEq x y H Q := ⟨h, q⟩
theorem v_ne (h : scal x y = true) (q : Q (.bl (!decide (x = y))) H) : rNe x y H Q := ⟨h, q⟩
/-- + -/
def rPlus (K : PySem.W.Frag) : R2 := fun x y H Q => rI0 (fun i j => .int (i + j)) x y H Q ∨ ((∃ i j, x = .str i ∧ y = .str j ∧ i.length + j.length ≤ sizeLine ∧ Q (.str (i ++ j)) H) ∨ (rCat x y H Q ∨ rCatA K x y H Q))
theorem v_plus_int {i j : Int} (q : Q (.int (i + j)) H) : rPlus K (.int i) (.int j) H Q := .inl ⟨i, j, rfl, rfl, q⟩
theorem v_plus_str {a b : Str} (hz : a.length + b.length ≤ sizeLine) (q : Q (.str (a ++ b)) H) : rPlus K (.str a) (.str b) H Q := .inr (.inl ⟨a, b, rfl, rfl, hz, q⟩)
theorem v_plus_lst {a b : Addr} {xs ys : List V} (ha : H a = some (.lst xs)) (hb : H b = some (.lst ys)) (hz : xs.length + ys.length ≤ sizeLine) (q : ∀ p H', H p = none → Xt H H' → H' p = some (.lst (xs ++ ys)) → Q (.ref p) H') : rPlus K (.ref a) (.ref b) H Q :=
  .inr (.inr (.inl ⟨a, b, xs, ys, rfl, rfl, ha, hb, hz, fun p hp => q p _ hp (xnew hp) upd_same⟩))
theorem v_plus_tup {a b : Addr} {xs ys : List V} (ha : SqT K H a xs) (hb : SqT K H b ys) (hz : xs.length + ys.length ≤ sizeLine) (q : ∀ p H', Xt H H' → SqT K H' p (xs ++ ys) → Q (.ref p) H') : rPlus K (.ref a) (.ref b) H Q := by
  refine .inr (.inr (.inr ⟨a, b, xs, ys, rfl, rfl, ha, hb, hz, fun e => ?_, fun _ e => ?_, fun _ _ p hp => q p _ (xnew hp) (sqt upd_same)⟩))
  · subst e; exact q b H (xrefl H) hb
  · subst e; exact q a H (xrefl H) (by rw [List.append_nil]; exact ha)
/-- * -/
def rTimes : R2 := fun x y H Q => rI CMul (fun i j => .int (i * j)) x y H Q ∨ (∃ (a : Str) (n : Int), x = .str a ∧ y = .int n ∧ 0 ≤ n ∧ n ≤ 1000 ∧ a.length ≤ 1000 ∧ ∀ z : Str, z.length = a.length * n.toNat → Q (.str z) H)
theorem v_times_int {i j : Int} (h : CMul i j) (q : Q (.int (i * j)) H) : rTimes (.int i) (.int j) H Q := .inl ⟨i, j, rfl, rfl, h, q⟩
end

theorem rep_len (xs : Array Nat) : ∀ n : Nat, ((List.replicate n xs).foldl (· ++ ·) #[]).size = xs.size * n := by
  have h : ∀ (n : Nat) (acc : Array Nat), ((List.replicate n xs).foldl (· ++ ·) acc).size = acc.size + xs.size * n := by
    intro n
    induction n with
    | zero => intro acc; simp
    | succ n ih =>
      intro acc
      rw [List.replicate_succ, List.foldl_cons, ih, Array.size_append, Nat.mul_succ]
      omega
  intro n
  rw [h n #[]]
  simp
section
variable {X : Cx}
theorem op_plus : OpR X (binaryOp .Add) (rPlus X.K) := OpR.or op_add (OpR.or op_add_str (OpR.or op_cat op_catA))
theorem op_mul_str : OpR X (binaryOp .Mult) (fun x y H Q => ∃ (a : Str) (n : Int), x = .str a ∧ y = .int n ∧ 0 ≤ n ∧ n ≤ 1000 ∧ a.length ≤ 1000 ∧ ∀ z : Str, z.length = a.length * n.toNat → Q (.str z) H) := by
  intro pins s σ H x y v u Q I rx ry h
  obtain ⟨a, n, rfl, rfl, h0, h1, h2, q⟩ := h
  obtain ⟨t, rfl⟩ := rx
  obtain ⟨t', rfl⟩ := ry
  have hm : a.length * n.toNat ≤ 1000 * 1000 := Nat.mul_le_mul h2 (by omega)
  refine PySem.P.mul_str ?_ ?_ ?_ ?_
  · rw [decide_eq_false (by omega), decide_eq_false (by omega)]; rfl
  · intro hn _ hgt
    have : (1000 : Int) ≤ (2 ^ 63 - 1) / n := Int.le_ediv_of_mul_le (by omega) (by omega)
    omega
  · intro _ _
    have e : (PySem.Builtin.Str.tooLong (a.length * n.toNat)) = false := by
      unfold PySem.Builtin.Str.tooLong
      apply decide_eq_false
      have : (1000 * 1000 : Nat) ≤ sizeLine := by decide
      first | omega | skip
    exact e
  · by_cases hn : n < 1
    · rw [if_pos hn]
      have e0 : n.toNat = 0 := by omega
      exact ⟨by decide, ⟨.str Str.empty, H, I.tok _, ⟨_, rfl⟩, q _ (by rw [e0, Nat.mul_zero]; rfl)⟩⟩
    · rw [if_neg hn]
      by_cases h3 : (n == 1 || a.length == 0) = true
      · rw [if_pos h3]
        refine ⟨.str a, H, I, ⟨_, rfl⟩, q _ ?_⟩
        rw [Bool.or_eq_true] at h3
        rcases h3 with h3 | h3
        · have : n = 1 := eq_of_beq h3
          subst this; simp
        · have : a.length = 0 := eq_of_beq h3
          rw [this]; simp
      · rw [if_neg h3]
        refine ⟨?_, ⟨.str _, H, I.tok _, ⟨_, rfl⟩, q _ ?_⟩⟩
        · show ((List.replicate n.toNat a.cps).foldl (· ++ ·) #[]).size ≤ sizeLine
          rw [rep_len]
          exact Nat.le_trans hm (by decide)
        · exact rep_len a.cps n.toNat
theorem op_times : OpR X (binaryOp .Mult) rTimes := OpR.or op_mul op_mul_str
/-- f(k = v, ..) -/
theorem pe_callN0 {CX : CXT} {k : Nat} {f : Addr} {fd : FuncData} {ps ks : List Str} {sp : Sp} {E : XK} {x : Str} {p pos : Pos} {kws : List Keyword} {tk : TA} {g : List Value → List Value → List Value} {gV : List V → List V → List V}
    (F : FnOk X.prog X.w X.K X.mg X.base CX k f fd ps sp) (hr : Room k X.A) (hg : Gl X x) (hm : X.mg x = some (.ref f)) (hk : PySem.W.keepIn X.K (.ref f) = true) (hb : KBn X.K fd ps 0 ks g gV) (hx : Passes CX X E)
    (hkw : PK X kws tk) (hall : (backToKw pos (keywordEach kws X.env)).all (·.1.isSome) = true := by rfl) (hks : (backToKw pos (keywordEach kws X.env)).filterMap (·.1) = ks := by rfl)
    (hdb : (x == ("__debug__" : Str)) = false := by decide)
    (hpl : ((backTo pos (starEach [] X.env)).any (·.1) || (backToKw pos (keywordEach kws X.env)).any (·.1.isNone)) = false := by rfl) :
    PE X (.Call (.Name x p) [] kws pos) (tCallN 0 ks.length sp gV E tNil tk) := by
  refine ⟨fun pins s σ H Q I h => ?_⟩
  refine wpAny_Call_Name_kw (ld_glob I hg hm ?_ hdb)
  refine PySem.W.callWith_KW0 (h₀ := X.base) I.ok.mod.kin hk hall ?_ hpl
  refine thn (hkw.run pos pins s σ H _ I h) fun ws s2 ⟨zs, H2, I2, rz, l1, l2, q2⟩ => ⟨I2.kIn, ?_⟩
  rw [hks]
  exact run_fnN (us := []) (vs := []) F hr hb hx I2 .nil rz rfl l2 q2
end
end CW

set_option Elab.async false
set_option linter.all false
set_option maxRecDepth 100000
set_option maxHeartbeats 1000000
namespace CW
open PySem PySem.Spec PyProof.Rows L2
section
variable {X : Cx}
def rLenU (K : PySem.W.Frag) : List V → Hp → VK → Prop := fun xs H Q => (∃ p ys, xs = [.ref p] ∧ (SqL K H p ys ∨ SqT K H p ys) ∧ Q (.int ys.length) H) ∨ ∃ z : Str, xs = [.str z] ∧ z.length ≤ sizeLine ∧ Q (.int z.length) H
theorem call_lenU : CallR X (.builtin "len") (rLenU X.K) := CallR.or call_len_seq call_len_str
def rInt1 : List V → Hp → VK → Prop := fun xs H Q => (∃ i, xs = [.int i] ∧ Q (.int i) H) ∨ ∃ k, xs = [.bl k] ∧ Q (.int (if k then 1 else 0)) H
theorem call_intU : CallR X (.type "int") rInt1 := call_int1
def rSlU (K : PySem.W.Frag) : V → Option Int → Option Int → Hp → VK → Prop := fun x lo hi H Q => rSlL K x lo hi H Q ∨ (rSlS x lo hi H Q ∨ rSlA K x lo hi H Q)
theorem sl_any : SlR X (rSlU X.K) := SlR.or sl_list (SlR.or sl_str sl_tupA)
def rInU (K : PySem.W.Frag) : R2 := fun x y H Q => rInS x y H Q ∨ rIn K false x y H Q
theorem op_inU : OpR X (compareOp .In) (rInU X.K) := OpR.or op_inS op_in_seq
def rNotInU (K : PySem.W.Frag) : R2 := fun x y H Q => rNotInS x y H Q ∨ rIn K true x y H Q
theorem op_notInU : OpR X (compareOp .NotIn) (rNotInU X.K) := OpR.or op_notInS op_notIn_seq
end
section
variable {K : PySem.W.Frag} {σ : L2.St} {H : Hp} {Q : VK} {D : Ends} {te ta tb : TE} {a : Addr} {xs : List V} {z : Str} {i : Int} {v x : V} {c : Nat}
theorem v_len_l (h : SqL K H a xs) (q : Q (.int xs.length) H) : rLenU K [.ref a] H Q := .inl ⟨a, xs, rfl, .inl h, q⟩
theorem v_len_t (h : SqT K H a xs) (q : Q (.int xs.length) H) : rLenU K [.ref a] H Q := .inl ⟨a, xs, rfl, .inr h, q⟩
theorem v_len_s (h : z.length ≤ sizeLine) (q : Q (.int z.length) H) : rLenU K [.str z] H Q := .inr ⟨z, rfl, h, q⟩
theorem v_int (q : Q (.int i) H) : rInt1 [.int i] H Q := .inl ⟨i, rfl, q⟩
theorem v_ix_l (h : SqL K H a xs) (ha : atI xs i = some v) (q : Q v H) : rIx K (.ref a) (.int i) H Q := .inl ⟨a, xs, i, v, rfl, rfl, h, ha, q⟩
theorem v_ix_t (h : SqT K H a xs) (ha : atI xs i = some v) (q : Q v H) : rIx K (.ref a) (.int i) H Q := .inr (.inl ⟨a, xs, i, v, rfl, rfl, h, ha, q⟩)
theorem v_ix_s (h : z.length ≤ sizeLine) (ha : atI z.cps.toList i = some c) (q : Q (.str ⟨#[c]⟩) H) : rIx K (.str z) (.int i) H Q := .inr (.inr ⟨z, i, c, rfl, rfl, h, ha, q⟩)
theorem k_sl {r : V → Option Int → Option Int → Hp → VK → Prop} {tl th : TO} (h : te σ H fun x H1 => tl σ H1 fun lo H2 => th σ H2 fun hi H3 => r x lo hi H3 Q) : tSl r te tl th σ H Q := h
theorem k_nopart {R : Option Int → Hp → Prop} (h : R none H) : tNoPart σ H R := h
theorem k_part {R : Option Int → Hp → Prop} (h : te σ H fun x H1 => ∃ i, x = .int i ∧ R (some i) H1) : tPart te σ H R := h
theorem v_sl_l {lo hi : Option Int} (h : SqL K H a xs) (q : ∀ p H', H p = none → Xt H H' → H' p = some (.lst (cutV xs lo hi)) → Q (.ref p) H') : rSlU K (.ref a) lo hi H Q :=
  .inl ⟨a, xs, rfl, h, fun p hp => q p _ hp (xnew hp) upd_same⟩
theorem v_sl_s {lo hi : Option Int} (h : z.length ≤ sizeLine) (q : Q (.str (cutS z lo hi)) H) : rSlU K (.str z) lo hi H Q := .inr (.inl ⟨z, rfl, h, q⟩)
theorem v_in_s {w : Str} (q : Q (.bl (decide (c ∈ w.cps.toList))) H) : rInU K (.str ⟨#[c]⟩) (.str w) H Q := .inl ⟨c, w, rfl, rfl, q⟩
theorem v_notin_s {w : Str} (q : Q (.bl (!decide (c ∈ w.cps.toList))) H) : rNotInU K (.str ⟨#[c]⟩) (.str w) H Q := .inl ⟨c, w, rfl, rfl, q⟩
theorem v_in_q (h : SqL K H a xs ∨ SqT K H a xs) (hx : flatV x = true) (hf : xs.all flatV = true) (q : Q (.bl (inV x xs)) H) : rInU K x (.ref a) H Q := .inr ⟨a, xs, rfl, h, hx, hf, q⟩
theorem v_notin_q (h : SqL K H a xs ∨ SqT K H a xs) (hx : flatV x = true) (hf : xs.all flatV = true) (q : Q (.bl (!inV x xs)) H) : rNotInU K x (.ref a) H Q := .inr ⟨a, xs, rfl, h, hx, hf, q⟩
theorem k_m0 {r : V → List V → Hp → VK → Prop} (h : te σ H fun x H1 => (∃ a, x = .str a) ∧ r x [] H1 Q) : tM0 r te σ H Q := h
theorem k_m1 {r : V → List V → Hp → VK → Prop} (h : te σ H fun x H1 => (∃ a, x = .str a) ∧ ta σ H1 fun y H2 => r x [y] H2 Q) : tM1 r te ta σ H Q := h
def LcB (J : It) (g : TG) (tt : TT) (te : TE) (vs : List Nat) (σ : L2.St) (Q : VK) (H1 : Hp) : Prop := ∀ D, H1 D = none → ∃ W : Nat → Nat → Hp → Prop, (∃ m, W 0 m (upd H1 D (.lst []))) ∧ ∀ i m H, W i m H →
  (J.stop i H ∧ Q (.ref D) H) ∨ (J.go i H ∧ ∃ Nx : Hp → Prop, (∀ H', Nx H' → ∃ m', m' < m ∧ W (i + 1) m' H') ∧ ∀ x H', J.yld i H x H' → g x (wipe σ vs) H' fun σ2 H2 => wipe σ2 vs = wipe σ vs ∧ tt σ2 H2 fun b H3 =>
    if b = true then te σ2 H3 fun y H4 => ∃ acc, H4 D = some (.lst acc) ∧ acc.length < sizeLine ∧ Nx (upd H4 D (.lst (acc ++ [y]))) else Nx H3)
theorem k_lcl {g : TG} {tt : TT} {vs : List Nat} {wi : TI} (h : wi σ H fun J H1 => LcB J g tt te vs σ Q H1) : tLc wi g tt te vs σ H Q := h
end
/-- what a comprehension without a test gathers: P of the turn, the value and the heap -/
structure LcW (P : Nat → V → Hp → Prop) (H1 : Hp) (Dl : Addr) (i : Nat) (H : Hp) : Prop where
  x : Xt H1 H
  ys : ∃ ys, H Dl = some (.lst ys) ∧ ys.length = i ∧ ∀ j y, ys[j]? = some y → P j y H
theorem LcW.turn {P : Nat → V → Hp → Prop} (mono : ∀ i y H H', Xt H H' → P i y H → P i y H') (hup : ∀ i y H b xs ys, H b = some (.lst xs) → P i y H → P i y (upd H b (.lst ys))) {H1 H H4 : Hp} {Dl : Addr} {i : Nat} {y : V} (hD : H1 Dl = none) (w : LcW P H1 Dl i H) (hx : Xt H H4) (hp : P i y H4) (hi : i < 100000) :
    ∃ acc, H4 Dl = some (.lst acc) ∧ acc.length < sizeLine ∧ LcW P H1 Dl (i + 1) (upd H4 Dl (.lst (acc ++ [y]))) := by
  obtain ⟨x, ys, e, l, h⟩ := w
  refine ⟨ys, hx _ _ e, by rw [l]; exact szlt hi, ⟨xmut (xtr x hx) hD, ys ++ [y], upd_same, by simp [l], fun j z hz => ?_⟩⟩
  refine hup _ _ _ _ ys _ (hx _ _ e) ?_
  by_cases hj : j < ys.length
  · rw [List.getElem?_append_left hj] at hz
    exact mono _ _ _ _ hx (h j z hz)
  · have : j = ys.length := by
      have := (List.getElem?_eq_some_iff.mp hz).1
      simp at this; omega
    subst this
    simp at hz
    subst hz
    rw [l]; exact hp
section
variable {K : PySem.W.Frag} {σ : L2.St} {H : Hp} {Q : VK} {te : TE} {vs : List Nat} {j : Nat} {Dl : Addr} {g : TG} {tt : TT}
theorem k_yesT {R : Bool → Hp → Prop} (h : R true H) : tYes σ H R := h
/-- a relation that does not look at the heap -/
abbrev PV0 (P : Nat → V → Prop) : Nat → V → Hp → Prop := fun i y _ => P i y
theorem lc_rng {n : Nat} {lo : Int} (P : Nat → V → Prop) (hD : H Dl = none) (hn : n < 100000) (hw : ∀ x, wipe ((wipe σ vs).set j (some x)) vs = wipe σ vs)
    (body : ∀ i H', i < n → Xt H H' → ∀ R : VK, (∀ y H2, Xt H' H2 → P i y → R y H2) → te ((wipe σ vs).set j (some (.int (lo + (i : Int))))) H' R)
    (k : ∀ ys H2, ys.length = n → (∀ (i : Nat) (y : V), ys[i]? = some y → P i y) → Xt H H2 → H2 Dl = some (.lst ys) → Q (.ref Dl) H2) :
    ∃ W : Nat → Nat → Hp → Prop, (∃ m, W 0 m (upd H Dl (.lst []))) ∧ ∀ i m H, W i m H →
      ((Itr lo n).stop i H ∧ Q (.ref Dl) H) ∨ ((Itr lo n).go i H ∧ ∃ Nx : Hp → Prop, (∀ H', Nx H' → ∃ m', m' < m ∧ W (i + 1) m' H') ∧ ∀ x H', (Itr lo n).yld i H x H' → gName j x (wipe σ vs) H' fun σ2 H2 => wipe σ2 vs = wipe σ vs ∧ tYes σ2 H2 fun b H3 =>
        if b = true then te σ2 H3 fun y H4 => ∃ acc, H4 Dl = some (.lst acc) ∧ acc.length < sizeLine ∧ Nx (upd H4 Dl (.lst (acc ++ [y]))) else Nx H3) :=
  lc_range (g := gName j) (tt := tYes) (te := te) (σ := σ) (vs := vs) (fun i H' => LcW (PV0 P) H Dl i H') ⟨xnew hD, [], upd_same, rfl, fun _ _ e => by simp at e⟩
    (fun i H' hi w => ⟨hw _, by refine k_yesT ?_; rw [if_pos rfl]; exact (body i H' hi w.x _ fun y H2 x2 hp => w.turn (fun _ _ _ _ _ h => h) (fun _ _ _ _ _ _ _ h => h) hD x2 hp (by omega))⟩)
    (fun H' w => by obtain ⟨x, ys, e, l, h⟩ := w; exact k ys H' l h x e)
theorem lc_lst {a : Addr} {xs : List V} (P : Nat → V → Prop) (hs : SqL K H a xs) (hD : H Dl = none) (hn : xs.length < 100000) (hw : ∀ x, wipe ((wipe σ vs).set j (some x)) vs = wipe σ vs)
    (body : ∀ i x H', xs[i]? = some x → Xt H H' → ∀ R : VK, (∀ y H2, Xt H' H2 → P i y → R y H2) → te ((wipe σ vs).set j (some x)) H' R)
    (k : ∀ ys H2, ys.length = xs.length → (∀ (i : Nat) (y : V), ys[i]? = some y → P i y) → Xt H H2 → H2 Dl = some (.lst ys) → Q (.ref Dl) H2) :
    ∃ W : Nat → Nat → Hp → Prop, (∃ m, W 0 m (upd H Dl (.lst []))) ∧ ∀ i m H, W i m H →
      ((Itl K a).stop i H ∧ Q (.ref Dl) H) ∨ ((Itl K a).go i H ∧ ∃ Nx : Hp → Prop, (∀ H', Nx H' → ∃ m', m' < m ∧ W (i + 1) m' H') ∧ ∀ x H', (Itl K a).yld i H x H' → gName j x (wipe σ vs) H' fun σ2 H2 => wipe σ2 vs = wipe σ vs ∧ tYes σ2 H2 fun b H3 =>
        if b = true then te σ2 H3 fun y H4 => ∃ acc, H4 Dl = some (.lst acc) ∧ acc.length < sizeLine ∧ Nx (upd H4 Dl (.lst (acc ++ [y]))) else Nx H3) :=
  lc_list (g := gName j) (tt := tYes) (te := te) (σ := σ) (vs := vs) (fun i H' => LcW (PV0 P) H Dl i H') ⟨xnew hD, [], upd_same, rfl, fun _ _ e => by simp at e⟩ (fun i H' _ w => xl w.x hs)
    (fun i x H' hi w => ⟨hw _, by refine k_yesT ?_; rw [if_pos rfl]; exact (body i x H' hi w.x _ fun y H2 x2 hp => w.turn (fun _ _ _ _ _ h => h) (fun _ _ _ _ _ _ _ h => h) hD x2 hp (by have := (List.getElem?_eq_some_iff.mp hi).1; omega))⟩)
    (fun H' w => by obtain ⟨x, ys, e, l, h⟩ := w; exact k ys H' l h x e)
theorem walk_text (z : Str) : Walk (Its z) z.cps.size (fun _ => True) (fun i H v H' => H' = H ∧ ∃ c, z.cps[i]? = some c ∧ v = .str ⟨#[c]⟩) :=
  ⟨fun _ _ h _ => h, fun _ _ => Nat.le_refl _, fun _ _ _ _ _ _ h => h⟩
theorem lc_txt {z : Str} (P : Nat → V → Prop) (hD : H Dl = none) (hn : z.length < 100000) (hw : ∀ x, wipe ((wipe σ vs).set j (some x)) vs = wipe σ vs)
    (body : ∀ i c H', z.cps[i]? = some c → Xt H H' → ∀ R : VK, (∀ y H2, Xt H' H2 → P i y → R y H2) → te ((wipe σ vs).set j (some (.str ⟨#[c]⟩))) H' R)
    (k : ∀ ys H2, ys.length = z.length → (∀ (i : Nat) (y : V), ys[i]? = some y → P i y) → Xt H H2 → H2 Dl = some (.lst ys) → Q (.ref Dl) H2) :
    ∃ W : Nat → Nat → Hp → Prop, (∃ m, W 0 m (upd H Dl (.lst []))) ∧ ∀ i m H, W i m H →
      ((Its z).stop i H ∧ Q (.ref Dl) H) ∨ ((Its z).go i H ∧ ∃ Nx : Hp → Prop, (∀ H', Nx H' → ∃ m', m' < m ∧ W (i + 1) m' H') ∧ ∀ x H', (Its z).yld i H x H' → gName j x (wipe σ vs) H' fun σ2 H2 => wipe σ2 vs = wipe σ vs ∧ tYes σ2 H2 fun b H3 =>
        if b = true then te σ2 H3 fun y H4 => ∃ acc, H4 Dl = some (.lst acc) ∧ acc.length < sizeLine ∧ Nx (upd H4 Dl (.lst (acc ++ [y]))) else Nx H3) :=
  lc_it (walk_text z) (g := gName j) (tt := tYes) (te := te) (σ := σ) (vs := vs) (fun i H' => LcW (PV0 P) H Dl i H') ⟨xnew hD, [], upd_same, rfl, fun _ _ e => by simp at e⟩ (fun _ _ _ _ => trivial)
    (fun i x H' H2 hi w hy => by
      obtain ⟨e, c, hc, e2⟩ := hy
      subst e; subst e2
      exact ⟨hw _, by refine k_yesT ?_; rw [if_pos rfl]; exact (body i c H2 hc w.x _ fun y H2 x2 hp => w.turn (fun _ _ _ _ _ h => h) (fun _ _ _ _ _ _ _ h => h) hD x2 hp (by
        have h2 : z.cps.size < 100000 := hn
        omega))⟩)
    (fun H' w => by obtain ⟨x, ys, e, l, h⟩ := w; exact k ys H' l h x e)
/-- the signs that pass a test, in order -/
theorem lc_txtF {z : Str} (f : Nat → Bool) (hD : H Dl = none) (hn : z.length < 100000) (hw : ∀ x, wipe ((wipe σ vs).set j (some x)) vs = wipe σ vs)
    (test : ∀ c H', Xt H H' → ∀ R : Bool → Hp → Prop, R (f c) H' → tt ((wipe σ vs).set j (some (.str ⟨#[c]⟩))) H' R)
    (body : ∀ c H', Xt H H' → ∀ R : VK, R (.str ⟨#[c]⟩) H' → te ((wipe σ vs).set j (some (.str ⟨#[c]⟩))) H' R)
    (k : ∀ H2, Xt H H2 → H2 Dl = some (.lst ((z.cps.toList.filter f).map fun c => V.str ⟨#[c]⟩)) → Q (.ref Dl) H2) :
    ∃ W : Nat → Nat → Hp → Prop, (∃ m, W 0 m (upd H Dl (.lst []))) ∧ ∀ i m H, W i m H →
      ((Its z).stop i H ∧ Q (.ref Dl) H) ∨ ((Its z).go i H ∧ ∃ Nx : Hp → Prop, (∀ H', Nx H' → ∃ m', m' < m ∧ W (i + 1) m' H') ∧ ∀ x H', (Its z).yld i H x H' → gName j x (wipe σ vs) H' fun σ2 H2 => wipe σ2 vs = wipe σ vs ∧ tt σ2 H2 fun b H3 =>
        if b = true then te σ2 H3 fun y H4 => ∃ acc, H4 Dl = some (.lst acc) ∧ acc.length < sizeLine ∧ Nx (upd H4 Dl (.lst (acc ++ [y]))) else Nx H3) := by
  refine lc_it (walk_text z) (g := gName j) (tt := tt) (te := te) (σ := σ) (vs := vs) (fun i H' => Xt H H' ∧ H' Dl = some (.lst (((z.cps.toList.take i).filter f).map fun c => V.str ⟨#[c]⟩))) ⟨xnew hD, upd_same⟩ (fun _ _ _ _ => trivial)
    (fun i x H' H2 hi w hy => ?_) (fun H' w => ?_)
  · obtain ⟨e, c, hc, e2⟩ := hy
    subst e; subst e2
    have hc' : z.cps.toList[i]? = some c := by rw [Array.getElem?_toList]; exact hc
    have et : z.cps.toList.take (i + 1) = z.cps.toList.take i ++ [c] := by rw [List.take_add_one, hc']; rfl
    refine ⟨hw _, test c H2 w.1 _ ?_⟩
    cases hf : f c with
    | true =>
      refine iteT (body c H2 w.1 _ ⟨_, w.2, szlt ?_, xmut w.1 hD, ?_⟩)
      · rw [List.length_map]
        have h1 := List.length_filter_le f (z.cps.toList.take i)
        have h2 : (z.cps.toList.take i).length ≤ z.cps.toList.length := by rw [List.length_take]; omega
        have h3 : z.cps.toList.length < 100000 := by rw [Array.length_toList]; exact hn
        omega
      · rw [upd_same, et, List.filter_append, List.map_append]
        have : [c].filter f = [c] := by rw [List.filter_cons, if_pos hf]; rfl
        rw [this]; rfl
    | false =>
      refine iteF ⟨w.1, ?_⟩
      rw [et, List.filter_append]
      have : [c].filter f = [] := by rw [List.filter_cons, if_neg (by rw [hf]; decide)]; rfl
      rw [this, List.append_nil]; exact w.2
  · refine k H' w.1 ?_
    have e := w.2
    rw [List.take_of_length_le (by rw [Array.length_toList]; exact Nat.le_refl _)] at e
    exact e
theorem b_rng {n : Nat} {lo : Int} (P : Nat → V → Prop) (hn : n < 100000) (hw : ∀ x, wipe ((wipe σ vs).set j (some x)) vs = wipe σ vs)
    (body : ∀ i H', i < n → Xt H H' → ∀ R : VK, (∀ y H2, Xt H' H2 → P i y → R y H2) → te ((wipe σ vs).set j (some (.int (lo + (i : Int))))) H' R)
    (k : ∀ Dl ys H2, H Dl = none → ys.length = n → (∀ (i : Nat) (y : V), ys[i]? = some y → P i y) → Xt H H2 → H2 Dl = some (.lst ys) → Q (.ref Dl) H2) : LcB (Itr lo n) (gName j) tYes te vs σ Q H :=
  fun Dl hD => lc_rng P hD hn hw body fun ys H2 l h x e => k Dl ys H2 hD l h x e
theorem b_lst {a : Addr} {xs : List V} (P : Nat → V → Prop) (hs : SqL K H a xs) (hn : xs.length < 100000) (hw : ∀ x, wipe ((wipe σ vs).set j (some x)) vs = wipe σ vs)
    (body : ∀ i x H', xs[i]? = some x → Xt H H' → ∀ R : VK, (∀ y H2, Xt H' H2 → P i y → R y H2) → te ((wipe σ vs).set j (some x)) H' R)
    (k : ∀ Dl ys H2, H Dl = none → ys.length = xs.length → (∀ (i : Nat) (y : V), ys[i]? = some y → P i y) → Xt H H2 → H2 Dl = some (.lst ys) → Q (.ref Dl) H2) : LcB (Itl K a) (gName j) tYes te vs σ Q H :=
  fun Dl hD => lc_lst P hs hD hn hw body fun ys H2 l h x e => k Dl ys H2 hD l h x e
theorem b_txt {z : Str} (P : Nat → V → Prop) (hn : z.length < 100000) (hw : ∀ x, wipe ((wipe σ vs).set j (some x)) vs = wipe σ vs)
    (body : ∀ i c H', z.cps[i]? = some c → Xt H H' → ∀ R : VK, (∀ y H2, Xt H' H2 → P i y → R y H2) → te ((wipe σ vs).set j (some (.str ⟨#[c]⟩))) H' R)
    (k : ∀ Dl ys H2, H Dl = none → ys.length = z.length → (∀ (i : Nat) (y : V), ys[i]? = some y → P i y) → Xt H H2 → H2 Dl = some (.lst ys) → Q (.ref Dl) H2) : LcB (Its z) (gName j) tYes te vs σ Q H :=
  fun Dl hD => lc_txt P hD hn hw body fun ys H2 l h x e => k Dl ys H2 hD l h x e
theorem b_txtF {z : Str} (f : Nat → Bool) (hn : z.length < 100000) (hw : ∀ x, wipe ((wipe σ vs).set j (some x)) vs = wipe σ vs)
    (test : ∀ c H', Xt H H' → ∀ R : Bool → Hp → Prop, R (f c) H' → tt ((wipe σ vs).set j (some (.str ⟨#[c]⟩))) H' R)
    (body : ∀ c H', Xt H H' → ∀ R : VK, R (.str ⟨#[c]⟩) H' → te ((wipe σ vs).set j (some (.str ⟨#[c]⟩))) H' R)
    (k : ∀ Dl H2, H Dl = none → Xt H H2 → H2 Dl = some (.lst ((z.cps.toList.filter f).map fun c => V.str ⟨#[c]⟩)) → Q (.ref Dl) H2) : LcB (Its z) (gName j) tt te vs σ Q H :=
  fun Dl hD => lc_txtF f hD hn hw test body fun H2 x e => k Dl H2 hD x e
end
end CW

set_option Elab.async false
set_option linter.all false
set_option maxRecDepth 100000
set_option maxHeartbeats 1000000
namespace CW
open PySem PySem.Spec PyProof.Rows L2
section
variable {K : PySem.W.Frag} {σ : L2.St} {H : Hp} {Q : VK} {D : Ends} {te to : TE} {a l : Addr} {xs : List V} {z : Str} {i : Int} {v x : V} {c : Nat} {t : TA}
def NewL (xs : List V) (H : Hp) (Q : VK) : Prop := xs.length ≤ sizeLine ∧ ∀ p, H p = none → Q (.ref p) (upd H p (.lst xs))
def NewT (xs : List V) (H : Hp) (Q : VK) : Prop := xs.length ≤ sizeLine ∧ ∀ p, H p = none → Q (.ref p) (upd H p (.tup xs))
theorem k_lst0 (h : t σ H fun xs H1 => NewL xs H1 Q) : tLst t σ H Q := h
theorem k_tup0 (h : t σ H fun xs H1 => NewT xs H1 Q) : tTup t σ H Q := h
theorem v_new (hz : xs.length ≤ 100000) (q : ∀ p H2, H p = none → Xt H H2 → H2 p = some (.lst xs) → Q (.ref p) H2) : NewL xs H Q :=
  ⟨szle hz, fun p hp => q p _ hp (xnew hp) upd_same⟩
theorem v_newT (hz : xs.length ≤ 100000) (q : ∀ p H2, H p = none → Xt H H2 → H2 p = some (.tup xs) → Q (.ref p) H2) : NewT xs H Q :=
  ⟨szle hz, fun p hp => q p _ hp (xnew hp) upd_same⟩
theorem k_cut {t' u' : TS} (Mid : L2.St → Hp → Prop) (h1 : t' { D with nx := Mid } σ H) (h2 : ∀ σ' H', Mid σ' H' → u' D σ' H') : Evl.tCut t' u' D σ H := ⟨Mid, h1, h2⟩
theorem v_times_str {n : Int} (h : 0 ≤ n ∧ n ≤ 1000 ∧ z.length ≤ 1000) (q : ∀ w : Str, w.length = z.length * n.toNat → Q (.str w) H) : rTimes (.str z) (.int n) H Q := .inr ⟨z, n, rfl, rfl, h.1, h.2.1, h.2.2, q⟩
theorem k_bm {T : String} {r : V → List V → Hp → VK → Prop} (h : to σ H fun x H1 => tyV K T x H1 ∧ t σ H1 fun xs H2 => r x xs H2 Q) : tBM K T r to t σ H Q := h
theorem v_app (e : H l = some (.lst xs)) (hz : xs.length < 100000) (q : Q .non (upd H l (.lst (xs ++ [v])))) : rAppend (.ref l) [v] H Q := ⟨l, xs, v, rfl, rfl, e, szlt hz, q⟩
theorem ty_l (e : H l = some (.lst xs)) : tyV K "list" (.ref l) H := .inl ⟨rfl, xs, sql e⟩
theorem k_for {wi : TI} {g : TG} {tb : TS} (h : wi σ H fun J H1 => ∃ W : Nat → Nat → L2.St → Hp → Prop, (∃ m, W 0 m σ H1) ∧ ∀ i m σ H, W i m σ H →
  (J.stop i H ∧ D.nx σ H) ∨ (J.go i H ∧ ∃ N : L2.St → Hp → Prop, (∀ σ' H', N σ' H' → ∃ m', m' < m ∧ W (i + 1) m' σ' H') ∧ ∀ x H', J.yld i H x H' → g x σ H' fun σ2 H2 => tb { D with nx := N, ct := N, bk := D.nx } σ2 H2)) : tFor wi g tb D σ H := h
theorem k_ilist {R : It → Hp → Prop} (h : te σ H fun x H1 => ∃ a, x = .ref a ∧ (∃ xs, SqL K H1 a xs) ∧ R (Itl K a) H1) : iList K te σ H R := h
theorem k_itup {R : It → Hp → Prop} (h : te σ H fun x H1 => ∃ a, x = .ref a ∧ (∃ xs, SqT K H1 a xs) ∧ R (Itt K a) H1) : iTup K te σ H R := h
theorem k_istr {R : It → Hp → Prop} (h : te σ H fun v H1 => ∃ x, v = .str x ∧ R (Its x) H1) : iStr te σ H R := h
theorem k_irng1 {R : It → Hp → Prop} (h : t σ H fun vs H1 => ∃ j : Int, vs = [.int j] ∧ -(2 ^ 62) ≤ j ∧ j < 2 ^ 62 ∧ R (Itr 0 j.toNat) H1) : iRng1 t σ H R := h
theorem k_irng2 {R : It → Hp → Prop} (h : t σ H fun vs H1 => ∃ i j : Int, vs = [.int i, .int j] ∧ (-(2 ^ 62) ≤ i ∧ i < 2 ^ 62 ∧ -(2 ^ 62) ≤ j ∧ j < 2 ^ 62) ∧ R (Itr i (j - i).toNat) H1) : iRng2 t σ H R := h
def rRevL (K : PySem.W.Frag) : V → Hp → VK → Prop := fun x H Q => ∃ a xs, x = .ref a ∧ SqL K H a xs ∧ ∀ p, H p = none → Q (.ref p) (upd H p (.lst xs.reverse))
theorem k_rev (h : te σ H fun x H1 => rRevL K x H1 Q) : tRevL K te σ H Q := h
theorem v_rev (h : SqL K H a xs) (q : ∀ p H2, H p = none → Xt H H2 → H2 p = some (.lst xs.reverse) → Q (.ref p) H2) : rRevL K (.ref a) H Q :=
  ⟨a, xs, rfl, h, fun p hp => q p _ hp (xnew hp) upd_same⟩
theorem v_isi_str (q : Q (.bl true) H) : rIsi K [.str z, .ty "str"] H Q := ⟨.str z, .ty "str", .type "str", .type "str", true, rfl, .ty "str", .base (.str z), kit_ty (by decide +kernel), q⟩
theorem v_isi_bool {b : Bool} (q : Q (.bl true) H) : rIsi K [.bl b, .ty "bool"] H Q := ⟨.bl b, .ty "bool", .type "bool", .type "bool", true, rfl, .ty "bool", .base (.bl b), kit_ty (by decide +kernel), q⟩
theorem v_all {bs : List Bool} (h : SqL K H a (bs.map V.bl)) (q : Q (.bl (bs.all id)) H) : rAll K [.ref a] H Q := ⟨a, bs, rfl, h, q⟩
def rJoin (K : PySem.W.Frag) : V → List V → Hp → VK → Prop := fun x xs H Q => ∃ a p, ∃ ys : List Str, x = .str a ∧ xs = [.ref p] ∧ (SqL K H p (ys.map V.str) ∨ SqT K H p (ys.map V.str)) ∧
      (ys.map (·.length)).sum + ys.length * a.length ≤ 16777216 ∧ Q (.str (Txt.join a ys)) H
def rUpper : V → List V → Hp → VK → Prop := fun x xs H Q => ∃ a, x = .str a ∧ xs = [] ∧ a.length ≤ 5592405 ∧ Q (.str (Txt.upper a)) H
theorem v_join {ys : List Str} {s : Str} (h : SqL K H a (ys.map V.str)) (hz : (ys.map (·.length)).sum + ys.length * s.length ≤ 16777216) (q : Q (.str (Txt.join s ys)) H) : rJoin K (.str s) [.ref a] H Q :=
  ⟨s, a, ys, rfl, rfl, .inl h, hz, q⟩
theorem v_upper (hz : z.length ≤ 100000) (q : Q (.str (Txt.upper z)) H) : rUpper (.str z) [] H Q := ⟨z, rfl, rfl, Nat.le_trans hz (by decide), q⟩
theorem k_m0s {r : V → List V → Hp → VK → Prop} (h : te σ H fun x H1 => (∃ a, x = .str a) ∧ r x [] H1 Q) : tM0 r te σ H Q := h
theorem v_isstr {A : Prop} (h : A) : (∃ a, V.str z = .str a) ∧ A := ⟨⟨z, rfl⟩, h⟩
end
section
variable {X : Cx} {o e : Expr} {to te : TE}
theorem pe_joinN {apos pos : Pos} (ho : PE X o to) (he : PE X e te) (hs : starEach [e] X.env = [(false, eval e X.env)] := by rfl) (hbase : attributeBase o "join" X.env (eval o X.env) = eval o X.env := by rfl) (hline : (apos.endLine == pos.line) = true := by rfl) :
    PE X (.Call (.Attribute o "join" apos) [e] [] pos) (tM1 (rJoin X.K) to te) := pe_join ho he hs hbase hline
theorem pe_upperN {apos pos : Pos} (ho : PE X o to) (hbase : attributeBase o "upper" X.env (eval o X.env) = eval o X.env := by rfl) (hline : (apos.endLine == pos.line) = true := by rfl) :
    PE X (.Call (.Attribute o "upper" apos) [] [] pos) (tM0 rUpper to) := pe_upper ho hbase hline
end
/-! places -/
theorem atI_ok {α : Type} {l : List α} {i : Int} (h0 : 0 ≤ i) (h1 : i < (l.length : Int)) : ∃ c, atI l i = some c ∧ l[i.toNat]? = some c := by
  have h : i.toNat < l.length := by omega
  obtain ⟨j, rfl⟩ : ∃ j : Nat, i = (j : Int) := ⟨i.toNat, by omega⟩
  exact ⟨l[j]'(by omega), atI_nat (List.getElem?_eq_getElem (by omega)), by rw [Int.toNat_natCast]; exact List.getElem?_eq_getElem (by omega)⟩
theorem atI_int {ns : List Int} {i : Int} (h0 : 0 ≤ i) (h1 : i < (ns.length : Int)) : ∃ n, atI (ns.map V.int) i = some (.int n) ∧ ns[i.toNat]? = some n := by
  obtain ⟨c, e1, e2⟩ := atI_ok (l := ns.map V.int) h0 (by rw [List.length_map]; exact h1)
  rw [List.getElem?_map] at e2
  cases q : ns[i.toNat]? with
  | none => rw [q] at e2; cases e2
  | some n => rw [q] at e2; cases e2; exact ⟨n, e1, rfl⟩
theorem atI_mod {α : Type} {l : List α} {i : Int} (h : 0 < l.length) : ∃ c, atI l (i % (l.length : Int)) = some c := by
  obtain ⟨c, e, _⟩ := atI_ok (l := l) (i := i % (l.length : Int)) (Int.emod_nonneg _ (by omega)) (Int.emod_lt_of_pos _ (by omega))
  exact ⟨c, e⟩
theorem map_int_at {ns : List Int} {i : Nat} {x : V} (h : (ns.map V.int)[i]? = some x) : ∃ n, x = .int n ∧ ns[i]? = some n := by
  rw [List.getElem?_map] at h
  cases q : ns[i]? with
  | none => rw [q] at h; cases h
  | some n => rw [q] at h; cases h; exact ⟨n, rfl, rfl⟩
/-! digits -/
def DigOk (ds ss : List Int) : Prop := ds.length = ss.length ∧ ∀ (j : Nat) (d s : Int), ds[j]? = some d → ss[j]? = some s → 0 ≤ d ∧ d < s
theorem DigOk.nil : DigOk [] [] := ⟨rfl, fun _ _ _ h => by simp at h⟩
theorem DigOk.snoc {ds ss : List Int} {i : Nat} {d s : Int} (h : DigOk ds (ss.take i)) (hs : ss[i]? = some s) (h0 : 0 ≤ d) (h1 : d < s) : DigOk (ds ++ [d]) (ss.take (i + 1)) := by
  have hi : i < ss.length := (List.getElem?_eq_some_iff.mp hs).1
  have hl : ds.length = i := by rw [h.1, List.length_take]; omega
  refine ⟨by rw [List.length_append, hl, List.length_take, List.length_singleton]; omega, fun j e t he ht => ?_⟩
  by_cases hj : j < i
  · rw [List.getElem?_append_left (by omega)] at he
    rw [List.getElem?_take_of_lt (by omega)] at ht
    exact h.2 j e t he (by rw [List.getElem?_take_of_lt hj]; exact ht)
  · have : j = i := by
      have := (List.getElem?_eq_some_iff.mp he).1
      rw [List.length_append, List.length_singleton] at this; omega
    subst this
    rw [List.getElem?_take_of_lt (by omega), hs] at ht
    rw [List.getElem?_append_right (by omega), hl] at he
    simp at he
    cases ht
    subst he
    exact ⟨h0, h1⟩
/-! texts -/
theorem len_app (a b : Str) : (a ++ b).length = a.length + b.length := Array.size_append
theorem len_cut (z : Str) (lo hi : Option Int) : (cutS z lo hi).length ≤ z.length := by
  show (((z.cps.toList.drop (HT.sIx z.length 0 lo)).take (HT.sIx z.length z.length hi - HT.sIx z.length 0 lo)).toArray).size ≤ z.cps.size
  rw [List.size_toArray, List.length_take, List.length_drop, Array.length_toList]
  omega
theorem len_one (c : Nat) : (⟨#[c]⟩ : Str).length = 1 := rfl
theorem len_up (x : Str) : (Txt.upper x).length ≤ 3 * x.length := PyProof.Rows.len_upper x
theorem cut_from1 (z : Str) : (cutS z (some 1) none).cps.toList = z.cps.toList.drop 1 := by
  show ((z.cps.toList.drop (HT.sIx z.length 0 (some 1))).take (HT.sIx z.length z.length none - HT.sIx z.length 0 (some 1))).toArray.toList = _
  have e : HT.sIx z.length 0 (some 1) = min 1 z.length := HT.sIx_nat z.length 0 1
  rw [e, HT.sIx_none]
  have hl : z.cps.toList.length = z.length := by rw [Array.length_toList]; rfl
  by_cases h : z.length = 0
  · have : z.cps.toList = [] := List.length_eq_zero_iff.mp (by omega)
    rw [this]; simp
  · rw [show min 1 z.length = 1 by omega]
    exact List.take_of_length_le (by rw [List.length_drop]; omega)
/-! lengths -/
theorem lb_app {a b : Str} {n m : Nat} (h1 : a.length ≤ n) (h2 : b.length ≤ m) : (a ++ b).length ≤ n + m := by rw [len_app]; exact Nat.add_le_add h1 h2
theorem lb_cut {z : Str} {lo hi : Option Int} {n : Nat} (h : z.length ≤ n) : (cutS z lo hi).length ≤ n := Nat.le_trans (len_cut z lo hi) h
theorem lb_one {c : Nat} : (⟨#[c]⟩ : Str).length ≤ 1 := Nat.le_refl 1
theorem lb_up {z : Str} {n : Nat} (h : z.length ≤ n) : (Txt.upper z).length ≤ 3 * n := Nat.le_trans (len_up z) (Nat.mul_le_mul_left 3 h)
/-! lists of values told one by one -/
theorem list_map_of {α : Type} {ys : List V} {l : List α} {f : α → V} (hl : ys.length = l.length) (h : ∀ (i : Nat) (y : V), ys[i]? = some y → ∃ c, l[i]? = some c ∧ y = f c) : ys = l.map f := by
  apply List.ext_getElem?
  intro i
  rw [List.getElem?_map]
  cases e : ys[i]? with
  | none =>
    have : l.length ≤ i := by rw [← hl]; exact List.getElem?_eq_none_iff.mp e
    rw [List.getElem?_eq_none_iff.mpr this]; rfl
  | some y =>
    obtain ⟨c, h1, h2⟩ := h i y e
    rw [h1, h2]; rfl
theorem list_const {ys : List V} {v : V} {n : Nat} (hl : ys.length = n) (h : ∀ (i : Nat) (y : V), ys[i]? = some y → y = v) : ys = List.replicate n v := by
  rw [List.eq_replicate_iff]
  refine ⟨hl, fun b hb => ?_⟩
  obtain ⟨i, hi⟩ := List.getElem?_of_mem hb
  exact h i b hi
theorem list_ex {α : Type} {f : α → V} : ∀ {ys : List V}, (∀ (i : Nat) (y : V), ys[i]? = some y → ∃ c, y = f c) → ∃ cs : List α, ys = cs.map f
  | [], _ => ⟨[], rfl⟩
  | y :: r, h => by
    obtain ⟨c, e⟩ := h 0 y rfl
    obtain ⟨cs, e2⟩ := list_ex (ys := r) fun i z hz => h (i + 1) z hz
    exact ⟨c :: cs, by rw [e, e2]; rfl⟩
theorem atI_mem {α : Type} {l : List α} {i : Int} {c : α} (h : atI l i = some c) : c ∈ l := by
  unfold atI at h
  cases e : ixN l.length i with
  | none => rw [e] at h; cases h
  | some j => rw [e] at h; exact List.mem_of_getElem? h
theorem cutV_mem {xs : List V} {lo hi : Option Int} {v : V} (h : v ∈ cutV xs lo hi) : v ∈ xs := List.mem_of_mem_drop (List.mem_of_mem_take h)
theorem DigOk.get {ds ss : List Int} (h : DigOk ds ss) {s : Int} (k : Nat) (i : Int) (hi : i = (k : Int)) (hs : ss[k]? = some s) : ∃ d, atI (ds.map V.int) i = some (.int d) ∧ 0 ≤ d ∧ d < s := by
  have hk : k < ss.length := (List.getElem?_eq_some_iff.mp hs).1
  have hk2 : k < ds.length := by rw [h.1]; exact hk
  refine ⟨ds[k], ?_, h.2 k _ s (List.getElem?_eq_getElem hk2) hs⟩
  rw [hi]
  exact atI_nat (by rw [List.getElem?_map, List.getElem?_eq_getElem hk2]; rfl)
theorem cutV_at {xs : List V} {k i : Nat} {hi : Option Int} {x : V} (hk : k ≤ xs.length) (h : (cutV xs (some (k : Int)) hi)[i]? = some x) : xs[k + i]? = some x := by
  unfold cutV at h
  rw [HT.sIx_nat, show min k xs.length = k by omega] at h
  rw [List.getElem?_take] at h
  split at h
  · rw [List.getElem?_drop] at h; exact h
  · cases h
theorem DigOk.at {ds ss : List Int} (h : DigOk ds ss) {j : Nat} {d : Int} (hd : ds[j]? = some d) : ∃ s, ss[j]? = some s ∧ 0 ≤ d ∧ d < s := by
  have hj : j < ss.length := by rw [← h.1]; exact (List.getElem?_eq_some_iff.mp hd).1
  exact ⟨ss[j], List.getElem?_eq_getElem hj, h.2 j d _ hd (List.getElem?_eq_getElem hj)⟩
/-- signs glued -/
theorem sum_ones : ∀ cs : List Nat, ((cs.map fun c => (⟨#[c]⟩ : Str)).map (·.length)).sum = cs.length
  | [] => rfl
  | c :: r => by
    show 1 + ((r.map fun c => (⟨#[c]⟩ : Str)).map (·.length)).sum = r.length + 1
    rw [sum_ones r]; omega
theorem v_joinC {K : PySem.W.Frag} {H : Hp} {Q : VK} {a : Addr} {ys : List V} (e : H a = some (.lst ys)) (h : ∀ (i : Nat) (y : V), ys[i]? = some y → ∃ c : Nat, y = V.str ⟨#[c]⟩) (hz : ys.length ≤ 100000) (q : ∀ z : Str, z.length = ys.length → Q (.str z) H) :
    rJoin K (.str (Str.ofString "")) [.ref a] H Q := by
  obtain ⟨cs, rfl⟩ := list_ex (f := fun c : Nat => V.str ⟨#[c]⟩) h
  have e2 : (cs.map fun c : Nat => V.str ⟨#[c]⟩) = (cs.map fun c => (⟨#[c]⟩ : Str)).map V.str := by rw [List.map_map]; rfl
  rw [List.length_map] at hz
  refine v_join (ys := cs.map fun c => (⟨#[c]⟩ : Str)) (sql (by rw [← e2]; exact e)) ?_ (q _ ?_)
  · rw [sum_ones, show (Str.ofString "").length = 0 by decide, Nat.mul_zero]; omega
  · rw [PySem.W.KT.join_ones _ (fun z hz => by
      obtain ⟨c, _, rfl⟩ := List.mem_map.mp hz
      rfl), List.length_map, List.length_map]
end CW

set_option Elab.async false
set_option linter.all false
set_option maxRecDepth 100000
set_option maxHeartbeats 1000000
namespace CW
open PySem PySem.Spec PyProof.Rows L2
theorem abs_rel {u : Value} {x : V} (h : absV u = some x) : RelV x u := by
  cases u <;> simp [absV] at h <;> subst h <;> first | rfl | exact ⟨_, rfl⟩
theorem abs_vals : ∀ {us : List Value} {xs : List V}, us.map absV = xs.map some → Vals xs us
  | [], [], _ => .nil
  | [], _ :: _, h => by cases h
  | _ :: _, [], h => by cases h
  | u :: us, x :: xs, h => by
    rw [List.map_cons, List.map_cons] at h
    injection h with h1 h2
    exact .cons (abs_rel h1) (abs_vals h2)
section
variable {K : PySem.W.Frag} {x qual : Str} {st : Stmt} {f : Addr} {fd : FuncData} {ps ks : List Str}
theorem fun_kbn (F : Fun K x qual st f fd) (h : ∀ (kV doc pm : Value) (an : Option Addr) (cdv ct : Value) (ws : List Value), ws.length = ks.length → bindArgs (PySem.W.fnOf x qual (defArgs st) (defBody st) (defScope st) .none kV doc pm an cdv ct) ⟨[], ks.zip ws⟩ = pure (ps.zip ws)) :
    KBn K fd ps 0 ks (fun _ ws => ws) (fun _ zs => zs) := by
  obtain ⟨oc, od, kV, doc, pm, an, cdv, ct, osl, rfl, lk, hcd⟩ := F.ex
  refine ⟨fun s us ws _ h0 h1 => ?_, fun _ r => r⟩
  cases us with
  | cons _ _ => cases h0
  | nil => exact BindsTo.of_eq (h kV doc pm an cdv ct ws h1)
theorem sqt_K {a : Addr} {oc : Value} {od : Option Addr} {its : Array Value} {n : Nat} {sl : Array (Option Value)} {xs : List V} (l : K.lookup a = some ⟨oc, od, .seq its n, sl⟩) (c : oc = .type "tuple") (z : its.size ≤ sizeLine) (h : its.toList.map absV = xs.map some) (H : Hp) : SqT K H a xs :=
  .inr ⟨_, its, n, l, c, rfl, z, abs_vals h⟩
end
end CW

set_option Elab.async false
set_option linter.all false
set_option maxRecDepth 100000
set_option maxHeartbeats 1000000
/-! nested data -/
namespace CW
open PySem PySem.Spec PyProof.Rows L2
theorem szL {n : Nat} (h : n ≤ 10000000) : n ≤ sizeLine := Nat.le_trans h (by decide)
theorem szL2 {n : Nat} (h : n < 10000000) : n < sizeLine := Nat.lt_of_lt_of_le h (by decide)
end CW
namespace L2
open PySem PySem.Spec PyProof.Rows CW
mutual
theorem Dp.mono {K : PySem.W.Frag} {H H' : Hp} (e : Xt H H') : ∀ {v : V} {d : PyData}, Dp K H v d → Dp K H' v d
  | _, _, .non => .non
  | _, _, .bl b => .bl b
  | _, _, .int i => .int i
  | _, _, .str x => .str x
  | _, _, .lst hs ha => .lst (xl e hs) (DpAll.mono e ha)
  | _, _, .tup hs ha => .tup (xt e hs) (DpAll.mono e ha)
theorem DpAll.mono {K : PySem.W.Frag} {H H' : Hp} (e : Xt H H') : ∀ {vs : List V} {ds : List PyData}, DpAll K H vs ds → DpAll K H' vs ds
  | _, _, .nil => .nil
  | _, _, .cons h1 h2 => .cons (Dp.mono e h1) (DpAll.mono e h2)
end
section
variable {K : PySem.W.Frag} {H H' : Hp} {v : V} {vs ws : List V} {d : PyData} {ds es : List PyData} {a : Addr}
theorem DpAll.len : ∀ {vs : List V} {ds : List PyData}, DpAll K H vs ds → vs.length = ds.length
  | _, _, .nil => rfl
  | _, _, .cons _ h => congrArg Nat.succ (DpAll.len h)
theorem DpAll.get : ∀ {vs : List V} {ds : List PyData} {i : Nat} {d : PyData}, DpAll K H vs ds → ds[i]? = some d → ∃ v, vs[i]? = some v ∧ Dp K H v d
  | _, _, _, _, .nil, e => by simp at e
  | _, _, 0, _, .cons h _, e => by simp at e; subst e; exact ⟨_, rfl, h⟩
  | _, _, i + 1, d, .cons _ h, e => by
    obtain ⟨v, h1, h2⟩ := DpAll.get (i := i) (d := d) h (by simpa using e)
    exact ⟨v, by simpa using h1, h2⟩
theorem DpAll.getV : ∀ {vs : List V} {ds : List PyData} {i : Nat} {v : V}, DpAll K H vs ds → vs[i]? = some v → ∃ d, ds[i]? = some d ∧ Dp K H v d
  | _, _, _, _, .nil, e => by simp at e
  | _, _, 0, _, .cons h _, e => by simp at e; subst e; exact ⟨_, rfl, h⟩
  | _, _, i + 1, d, .cons _ h, e => by
    obtain ⟨v, h1, h2⟩ := DpAll.getV (i := i) (v := d) h (by simpa using e)
    exact ⟨v, by simpa using h1, h2⟩
theorem DpAll.app : ∀ {vs ws : List V} {ds es : List PyData}, DpAll K H vs ds → DpAll K H ws es → DpAll K H (vs ++ ws) (ds ++ es)
  | _, _, _, _, .nil, h => h
  | _, _, _, _, .cons h1 h2, h => .cons h1 (DpAll.app h2 h)
theorem DpAll.drop : ∀ (n : Nat) {vs : List V} {ds : List PyData}, DpAll K H vs ds → DpAll K H (vs.drop n) (ds.drop n)
  | 0, _, _, h => h
  | _ + 1, _, _, .nil => .nil
  | n + 1, _, _, .cons _ h => DpAll.drop n h
theorem DpAll.take : ∀ (n : Nat) {vs : List V} {ds : List PyData}, DpAll K H vs ds → DpAll K H (vs.take n) (ds.take n)
  | 0, _, _, _ => .nil
  | _ + 1, _, _, .nil => .nil
  | n + 1, _, _, .cons h h2 => .cons h (DpAll.take n h2)
theorem DpAll.rev : ∀ {vs : List V} {ds : List PyData}, DpAll K H vs ds → DpAll K H vs.reverse ds.reverse
  | _, _, .nil => .nil
  | _, _, .cons h h2 => by
    rw [List.reverse_cons, List.reverse_cons]
    exact DpAll.app (DpAll.rev h2) (.cons h .nil)
/-- t[lo:hi] of data -/
def cutP (ds : List PyData) (lo hi : Option Int) : List PyData := (ds.drop (HT.sIx ds.length 0 lo)).take (HT.sIx ds.length ds.length hi - HT.sIx ds.length 0 lo)
theorem DpAll.cut {lo hi : Option Int} (h : DpAll K H vs ds) : DpAll K H (cutV vs lo hi) (cutP ds lo hi) := by
  unfold cutV cutP
  rw [h.len]
  exact DpAll.take _ (DpAll.drop _ h)
theorem Dp.tup_inv {ds : List PyData} (h : Dp K H v (.tuple ds)) : ∃ a xs, v = .ref a ∧ SqT K H a xs ∧ DpAll K H xs ds := by
  cases h with
  | tup hs ha => exact ⟨_, _, rfl, hs, ha⟩
theorem Dp.lst_inv {ds : List PyData} (h : Dp K H v (.list ds)) : ∃ a xs, v = .ref a ∧ SqL K H a xs ∧ DpAll K H xs ds := by
  cases h with
  | lst hs ha => exact ⟨_, _, rfl, hs, ha⟩
theorem Dp.str_inv {z : Str} (h : Dp K H v (.str z)) : v = .str z := by cases h; rfl
theorem Dp.int_inv {z : Int} (h : Dp K H v (.int z)) : v = .int z := by cases h; rfl
theorem Dp.non_inv (h : Dp K H v .none) : v = .non := by cases h; rfl
theorem Dp.bl_inv {z : Bool} (h : Dp K H v (.bool z)) : v = .bl z := by cases h; rfl
theorem DpAll.nil_inv (h : DpAll K H vs []) : vs = [] := by cases h; rfl
theorem DpAll.cons_inv (h : DpAll K H vs (d :: ds)) : ∃ w ws, vs = w :: ws ∧ Dp K H w d ∧ DpAll K H ws ds := by
  cases h with
  | cons h1 h2 => exact ⟨_, _, rfl, h1, h2⟩
theorem DpAll.strs : ∀ (zs : List Str), DpAll K H (zs.map V.str) (zs.map PyData.str)
  | [] => .nil
  | z :: r => .cons (.str z) (DpAll.strs r)
theorem DpAll.strs_inv : ∀ {zs : List Str} {vs : List V}, DpAll K H vs (zs.map PyData.str) → vs = zs.map V.str
  | [], _, h => by cases h; rfl
  | z :: r, _, h => by
    obtain ⟨w, ws, rfl, h1, h2⟩ := DpAll.cons_inv h
    rw [Dp.str_inv h1, DpAll.strs_inv h2]; rfl
theorem DpAll.ints_inv : ∀ {zs : List Int} {vs : List V}, DpAll K H vs (zs.map PyData.int) → vs = zs.map V.int
  | [], _, h => by cases h; rfl
  | z :: r, _, h => by
    obtain ⟨w, ws, rfl, h1, h2⟩ := DpAll.cons_inv h
    rw [Dp.int_inv h1, DpAll.ints_inv h2]; rfl
theorem DpAll.ints : ∀ (zs : List Int), DpAll K H (zs.map V.int) (zs.map PyData.int)
  | [] => .nil
  | z :: r => .cons (.int z) (DpAll.ints r)
theorem Dp.of_tup (e : H a = some (.tup vs)) (h : DpAll K H vs ds) : Dp K H (.ref a) (.tuple ds) := .tup (sqt e) h
theorem Dp.of_lst (e : H a = some (.lst vs)) (h : DpAll K H vs ds) : Dp K H (.ref a) (.list ds) := .lst (sql e) h
end
end L2
namespace CW
open PySem PySem.Spec PyProof.Rows L2
section
variable {K : PySem.W.Frag} {σ : L2.St} {H : Hp} {Q : VK} {a b : Addr} {xs ys : List V} {ds es : List PyData} {v x y : V} {d e : PyData} {i : Int}
/-! steps over data -/
theorem d_ix (h : Dp K H x (.tuple ds)) (ha : atI ds i = some d) (q : ∀ v, Dp K H v d → Q v H) : rIx K x (.int i) H Q := by
  obtain ⟨a, xs, rfl, hs, hd⟩ := Dp.tup_inv h
  unfold atI at ha
  cases e : ixN ds.length i with
  | none => rw [e] at ha; cases ha
  | some j =>
    rw [e] at ha
    obtain ⟨v, hv, hd2⟩ := DpAll.get hd (show ds[j]? = some d from ha)
    exact v_ix_t hs (by unfold atI; rw [hd.len, e]; exact hv) (q v hd2)
theorem d_ixl (h : Dp K H x (.list ds)) (ha : atI ds i = some d) (q : ∀ v, Dp K H v d → Q v H) : rIx K x (.int i) H Q := by
  obtain ⟨a, xs, rfl, hs, hd⟩ := Dp.lst_inv h
  unfold atI at ha
  cases e : ixN ds.length i with
  | none => rw [e] at ha; cases ha
  | some j =>
    rw [e] at ha
    obtain ⟨v, hv, hd2⟩ := DpAll.get hd (show ds[j]? = some d from ha)
    exact v_ix_l hs (by unfold atI; rw [hd.len, e]; exact hv) (q v hd2)
theorem d_len (h : Dp K H x (.tuple ds)) (q : Q (.int ds.length) H) : rLenU K [x] H Q := by
  obtain ⟨a, xs, rfl, hs, hd⟩ := Dp.tup_inv h
  exact v_len_t hs (by rw [hd.len]; exact q)
theorem d_lenl (h : Dp K H x (.list ds)) (q : Q (.int ds.length) H) : rLenU K [x] H Q := by
  obtain ⟨a, xs, rfl, hs, hd⟩ := Dp.lst_inv h
  exact v_len_l hs (by rw [hd.len]; exact q)
theorem d_plus (h1 : Dp K H x (.tuple ds)) (h2 : Dp K H y (.tuple es)) (hz : ds.length + es.length ≤ 10000000) (q : ∀ v H', Xt H H' → Dp K H' v (.tuple (ds ++ es)) → Q v H') : rPlus K x y H Q := by
  obtain ⟨a, xs, rfl, hs, hd⟩ := Dp.tup_inv h1
  obtain ⟨b, ys, rfl, hs2, hd2⟩ := Dp.tup_inv h2
  exact v_plus_tup hs hs2 (by rw [hd.len, hd2.len]; exact szL hz) fun p H' x' hp => q _ _ x' (.tup hp (DpAll.mono x' (DpAll.app hd hd2)))
theorem d_newT (h : DpAll K H xs ds) (hz : ds.length ≤ 100000) (q : ∀ v H', Xt H H' → Dp K H' v (.tuple ds) → Q v H') : NewT xs H Q :=
  v_newT (by rw [h.len]; exact hz) fun p H2 _ x2 e => q _ _ x2 (.of_tup e (DpAll.mono x2 h))
theorem d_newL (h : DpAll K H xs ds) (hz : ds.length ≤ 100000) (q : ∀ p H', H p = none → Xt H H' → H' p = some (.lst xs) → Dp K H' (.ref p) (.list ds) → Q (.ref p) H') : NewL xs H Q :=
  v_new (by rw [h.len]; exact hz) fun p H2 n x2 e => q _ _ n x2 e (.of_lst e (DpAll.mono x2 h))
theorem d_cut {lo hi : Option Int} (h : Dp K H x (.tuple ds)) (q : ∀ v H', Xt H H' → Dp K H' v (.tuple (cutP ds lo hi)) → Q v H') : rSlU K x lo hi H Q := by
  obtain ⟨a, xs, rfl, hs, hd⟩ := Dp.tup_inv h
  refine .inr (.inr ⟨a, xs, rfl, hs, fun he => q _ _ (xrefl H) (.tup hs ?_), fun _ p hp => q _ _ (xnew hp) (.of_tup upd_same (DpAll.mono (xnew hp) (DpAll.cut hd)))⟩)
  have e2 : cutP ds lo hi = ds := by
    unfold cutP
    rw [← hd.len, he.1, he.2, List.drop_zero, Nat.sub_zero, hd.len]
    exact List.take_length
  rw [e2]; exact hd
theorem d_cutl {lo hi : Option Int} (h : Dp K H x (.list ds)) (q : ∀ p H', H p = none → Xt H H' → Dp K H' (.ref p) (.list (cutP ds lo hi)) → Q (.ref p) H') : rSlU K x lo hi H Q := by
  obtain ⟨a, xs, rfl, hs, hd⟩ := Dp.lst_inv h
  exact v_sl_l hs fun p H' n x' e => q p H' n x' (.of_lst e (DpAll.mono x' (DpAll.cut hd)))
end
end CW

set_option Elab.async false
set_option linter.all false
set_option maxRecDepth 100000
set_option maxHeartbeats 1000000
/-! data that never changes; comprehensions over data; objects and dicts -/
namespace CW
open PySem PySem.Spec PyProof.Rows L2
mutual
def Im : PyData → Bool
  | .none => true
  | .bool _ => true
  | .int _ => true
  | .str _ => true
  | .list _ => false
  | .dict _ => false
  | .tuple ds => ImAll ds
def ImAll : List PyData → Bool
  | [] => true
  | d :: ds => Im d && ImAll ds
end
theorem imAll_iff : ∀ {ds : List PyData}, ImAll ds = true ↔ ∀ d ∈ ds, Im d = true
  | [] => by simp [ImAll]
  | d :: ds => by
    rw [ImAll, Bool.and_eq_true, imAll_iff (ds := ds)]
    simp
end CW
namespace L2
open PySem PySem.Spec PyProof.Rows CW
theorem SqT.upd {K : PySem.W.Frag} {H : Hp} {a b : Addr} {xs zs : List V} {o : HO} (hb : H b = some (.lst zs)) (h : SqT K H a xs) : SqT K (L2.upd H b o) a xs := by
  rcases h with (h | ⟨u, h⟩) | h
  · refine .inl (.inl ?_)
    rw [upd_ne (ne_of h hb (by intro z; cases z))]; exact h
  · refine .inl (.inr ⟨u, ?_⟩)
    rw [upd_ne (ne_of h hb (by intro z; cases z))]; exact h
  · exact .inr h
theorem SqT.updD {K : PySem.W.Frag} {H : Hp} {a b : Addr} {xs : List V} {zs : List (Key × V)} {o : HO} (hb : H b = some (.dK zs)) (h : SqT K H a xs) : SqT K (L2.upd H b o) a xs := by
  rcases h with (h | ⟨u, h⟩) | h
  · refine .inl (.inl ?_)
    rw [upd_ne (ne_of h hb (by intro z; cases z))]; exact h
  · refine .inl (.inr ⟨u, ?_⟩)
    rw [upd_ne (ne_of h hb (by intro z; cases z))]; exact h
  · exact .inr h
mutual
theorem Dp.im {K : PySem.W.Frag} {H H' : Hp} (f : ∀ a xs, SqT K H a xs → SqT K H' a xs) : ∀ {v : V} {d : PyData}, Im d = true → Dp K H v d → Dp K H' v d
  | _, _, _, .non => .non
  | _, _, _, .bl b => .bl b
  | _, _, _, .int i => .int i
  | _, _, _, .str x => .str x
  | _, _, im, .lst hs ha => by simp [Im] at im
  | _, _, im, .tup hs ha => .tup (f _ _ hs) (DpAll.im f (by simpa [Im] using im) ha)
theorem DpAll.im {K : PySem.W.Frag} {H H' : Hp} (f : ∀ a xs, SqT K H a xs → SqT K H' a xs) : ∀ {vs : List V} {ds : List PyData}, ImAll ds = true → DpAll K H vs ds → DpAll K H' vs ds
  | _, _, _, .nil => .nil
  | _, _, im, .cons h1 h2 => by
    rw [ImAll, Bool.and_eq_true] at im
    exact .cons (Dp.im f im.1 h1) (DpAll.im f im.2 h2)
end
end L2
namespace CW
open PySem PySem.Spec PyProof.Rows L2
section
variable {K : PySem.W.Frag} {σ : L2.St} {H : Hp} {Q : VK} {te : TE} {vs : List Nat} {Dl : Addr} {g : TG} {tt : TT} {xs : List V} {ds : List PyData} {J : It} {G : Hp → Prop}
/-- a comprehension over data that gives data -/
theorem b_dat (w : Walk J xs.length G (YAt xs)) (hG : ∀ H', Xt H H' → G H') (hds : DpAll K H xs ds) (f : PyData → PyData) (hf : ∀ d ∈ ds, Im (f d) = true) (hn : ds.length < 10000000)
    (body : ∀ v d H', Dp K H' v d → d ∈ ds → Xt H H' → ∀ R : VK, (∀ y H2, Xt H' H2 → Dp K H2 y (f d) → R y H2) → g v (wipe σ vs) H' fun σ2 H2 => wipe σ2 vs = wipe σ vs ∧ te σ2 H2 R)
    (k : ∀ Dl ys H2, H Dl = none → Xt H H2 → H2 Dl = some (.lst ys) → DpAll K H2 ys (ds.map f) → Q (.ref Dl) H2)
    (gm : ∀ v σ H R R', (∀ σ2 H2, R σ2 H2 → R' σ2 H2) → g v σ H R → g v σ H R') : LcB J g tYes te vs σ Q H := fun Dl hD => by
  have hl := hds.len
  refine lc_it w (g := g) (tt := tYes) (te := te) (σ := σ) (vs := vs) (fun i H' => Xt H H' ∧ ∃ ys, H' Dl = some (.lst ys) ∧ DpAll K H' ys ((ds.map f).take i))
    ⟨xnew hD, [], upd_same, by rw [List.take_zero]; exact .nil⟩ (fun i H' _ p => hG H' p.1) (fun i x H' H2 hi p hy => ?_) (fun H' p => ?_)
  · obtain ⟨hx, ys, e, hys⟩ := p
    obtain ⟨rfl, hxi⟩ := hy
    obtain ⟨d, hd, hdp⟩ := DpAll.getV hds hxi
    have hmem : d ∈ ds := List.mem_of_getElem? hd
    have hb := body x d H2 (Dp.mono hx hdp) hmem hx (fun y H4 => ∃ acc, H4 Dl = some (.lst acc) ∧ acc.length < sizeLine ∧ (Xt H (upd H4 Dl (.lst (acc ++ [y]))) ∧ ∃ ys, (upd H4 Dl (.lst (acc ++ [y]))) Dl = some (.lst ys) ∧ DpAll K (upd H4 Dl (.lst (acc ++ [y]))) ys ((ds.map f).take (i + 1)))) (fun y H4 x4 hy => by
      have e4 := x4 _ _ e
      have hys4 := DpAll.mono x4 hys
      have yl : ys.length ≤ i := by rw [hys.len, List.length_take]; omega
      refine ⟨ys, e4, szL2 (by omega), xmut (xtr hx x4) hD, ys ++ [y], upd_same, ?_⟩
      have et : (ds.map f).take (i + 1) = (ds.map f).take i ++ [f d] := by rw [List.take_add_one, List.getElem?_map, hd]; rfl
      rw [et]
      have im1 : ImAll ((ds.map f).take i) = true := imAll_iff.mpr fun z hz => by
        obtain ⟨c, hc, rfl⟩ := List.mem_map.mp (List.mem_of_mem_take hz)
        exact hf c hc
      exact DpAll.app (DpAll.im (fun a zs h => SqT.upd e4 h) im1 hys4) (.cons (Dp.im (fun a zs h => SqT.upd e4 h) (hf d hmem) hy) .nil))
    exact gm _ _ _ _ _ (fun σ2 H3 h => ⟨h.1, by refine k_yesT ?_; rw [if_pos rfl]; exact h.2⟩) hb
  · obtain ⟨hx, ys, e, hys⟩ := p
    rw [List.take_of_length_le (by rw [List.length_map, hl]; exact Nat.le_refl _)] at hys
    exact k Dl ys H' hD hx e hys
theorem gm_name {j : Nat} : ∀ (v : V) (σ : L2.St) (H : Hp) (R R' : L2.St → Hp → Prop), (∀ σ2 H2, R σ2 H2 → R' σ2 H2) → gName j v σ H R → gName j v σ H R' := fun _ _ _ _ _ h q => h _ _ q
def GsM (t : TGs) : Prop := ∀ vs σ H R R', (∀ σ2 H2, R σ2 H2 → R' σ2 H2) → t vs σ H R → t vs σ H R'
theorem gsm_nil : GsM gNil := fun _ _ _ _ _ h q => ⟨q.1, h _ _ q.2⟩
theorem gsm_cons {j : Nat} {t : TGs} (ht : GsM t) : GsM (gCons (gName j) t) := fun _ _ _ _ _ h ⟨v, r, e, q⟩ => ⟨v, r, e, ht _ _ _ _ _ h q⟩
theorem gm_tup {n : Nat} {t : TGs} (ht : GsM t) : ∀ (v : V) (σ : L2.St) (H : Hp) (R R' : L2.St → Hp → Prop), (∀ σ2 H2, R σ2 H2 → R' σ2 H2) → gTup K n t v σ H R → gTup K n t v σ H R' :=
  fun _ _ _ _ _ h ⟨a, xs, e, hs, hl, q⟩ => ⟨a, xs, e, hs, hl, ht _ _ _ _ _ h q⟩
/-! targets -/
theorem k_gtup {n : Nat} {t : TGs} {v : V} {R : L2.St → Hp → Prop} (h : Dp K H v (.tuple ds)) (hl : ds.length = n) (q : ∀ xs, DpAll K H xs ds → t xs σ H R) : gTup K n t v σ H R := by
  obtain ⟨a, xs, rfl, hs, hd⟩ := Dp.tup_inv h
  exact ⟨a, xs, rfl, hs, by rw [hd.len]; exact hl, q xs hd⟩
theorem k_gcons {j : Nat} {t : TGs} {d : PyData} {R : L2.St → Hp → Prop} (h : DpAll K H xs (d :: ds)) (q : ∀ v ws, Dp K H v d → DpAll K H ws ds → t ws (σ.set j (some v)) H R) : gCons (gName j) t xs σ H R := by
  obtain ⟨w, ws, rfl, h1, h2⟩ := DpAll.cons_inv h
  exact ⟨w, ws, rfl, q w ws h1 h2⟩
theorem k_gnil {R : L2.St → Hp → Prop} (h : DpAll K H xs []) (q : R σ H) : gNil xs σ H R := ⟨DpAll.nil_inv h, q⟩
end
/-! dicts with text keys and data as values -/
section
variable {K : PySem.W.Frag} {H H' : Hp} {kvs : List (Key × V)} {F : Str → Option PyData}
def HasD (K : PySem.W.Frag) (H : Hp) (kvs : List (Key × V)) (F : Str → Option PyData) : Prop := ∀ z : Str, match F z with
  | some d => Im d = true ∧ ∃ v, valV kvs (Sum.inr z : Key) = some v ∧ Dp K H v d
  | none => valV kvs (Sum.inr z : Key) = none
theorem HasD.nil : HasD K H [] (fun _ => none) := fun _ => rfl
theorem HasD.put {v : V} {d : PyData} {x : Str} (h : HasD K H kvs F) (im : Im d = true) (hd : Dp K H v d) : HasD K H (putK kvs (Sum.inr x : Key) v) (fun z => if z = x then some d else F z) := fun z => by
  by_cases e : z = x
  · subst e
    simp only [if_true]
    refine ⟨im, v, ?_, hd⟩
    rw [valV_put, if_pos rfl]
  · simp only [if_neg e]
    have hz := h z
    have e2 : ¬ (Sum.inr z : Key) = Sum.inr x := fun q => e (Sum.inr.inj q)
    cases hF : F z with
    | none =>
      rw [hF] at hz
      show valV _ _ = none
      rw [valV_put, if_neg e2]; exact hz
    | some d2 =>
      rw [hF] at hz
      obtain ⟨i2, w, h1, h2⟩ := hz
      exact ⟨i2, w, by rw [valV_put, if_neg e2]; exact h1, h2⟩
theorem HasD.mono (e : Xt H H') (h : HasD K H kvs F) : HasD K H' kvs F := fun z => by
  have hz := h z
  cases hF : F z with
  | none => rw [hF] at hz; exact hz
  | some d => rw [hF] at hz; obtain ⟨i, v, h1, h2⟩ := hz; exact ⟨i, v, h1, Dp.mono e h2⟩
theorem HasD.im (f : ∀ a xs, SqT K H a xs → SqT K H' a xs) (h : HasD K H kvs F) : HasD K H' kvs F := fun z => by
  have hz := h z
  cases hF : F z with
  | none => rw [hF] at hz; exact hz
  | some d => rw [hF] at hz; obtain ⟨i, v, h1, h2⟩ := hz; exact ⟨i, v, h1, Dp.im f i h2⟩
def tabF (l : List (Str × PyData)) : Str → Option PyData := l.foldl (fun F p z => if z = p.1 then some p.2 else F z) (fun _ => none)
theorem tabF_snoc (l : List (Str × PyData)) (p : Str × PyData) : tabF (l ++ [p]) = fun z => if z = p.1 then some p.2 else tabF l z := by
  unfold tabF
  rw [List.foldl_append]
  rfl
end
section
variable {K : PySem.W.Frag} {σ : L2.St} {H : Hp} {Q : VK} {tk tv : TE} {vs : List Nat} {g : TG} {tt : TT} {xs : List V} {ds : List PyData} {J : It} {n : Nat} {G : Hp → Prop} {Y : Nat → Hp → V → Hp → Prop}
theorem dc_it (w : Walk J n G Y) {H1 : Hp} {D : Addr} {Qd : Hp → Prop} (Pv : Nat → Hp → Prop) (h0 : Pv 0 (upd H1 D (.dK []))) (hG : ∀ i H, i ≤ n → Pv i H → G H)
    (hs : ∀ i x H H', i < n → Pv i H → Y i H x H' → g x (wipe σ vs) H' fun σ2 H2 => wipe σ2 vs = wipe σ vs ∧ tt σ2 H2 fun b H3 =>
      if b = true then tk σ2 H3 fun y H4 => tv σ2 H4 fun z H5 => ∃ kvs k, y = kV k ∧ H5 D = some (.dK kvs) ∧ kvs.length < sizeLine ∧ Pv (i + 1) (upd H5 D (.dK (putK kvs k z))) else Pv (i + 1) H3) (hd : ∀ H, Pv n H → Qd H) :
    ∃ W : Nat → Nat → Hp → Prop, (∃ m, W 0 m (upd H1 D (.dK []))) ∧ ∀ i m H, W i m H →
      (J.stop i H ∧ Qd H) ∨ (J.go i H ∧ ∃ Nx : Hp → Prop, (∀ H', Nx H' → ∃ m', m' < m ∧ W (i + 1) m' H') ∧ ∀ x H', J.yld i H x H' → g x (wipe σ vs) H' fun σ2 H2 => wipe σ2 vs = wipe σ vs ∧ tt σ2 H2 fun b H3 =>
        if b = true then tk σ2 H3 fun y H4 => tv σ2 H4 fun z H5 => ∃ kvs k, y = kV k ∧ H5 D = some (.dK kvs) ∧ kvs.length < sizeLine ∧ Nx (upd H5 D (.dK (putK kvs k z))) else Nx H3) := by
  refine ⟨fun i m H => m = n - i ∧ i ≤ n ∧ Pv i H, ⟨n, by simp, Nat.zero_le _, h0⟩, ?_⟩
  rintro i m H ⟨rfl, hi, p⟩
  have q := hG i H hi p
  by_cases hlt : i < n
  · exact .inr ⟨w.goes i H hlt q, Pv (i + 1), fun H' p' => ⟨n - (i + 1), by omega, rfl, hlt, p'⟩, fun x H' y => hs i x H H' hlt p (w.yields i H x H' hlt q y)⟩
  · have e : i = n := by omega
    subst e
    exact .inl ⟨w.stops H q, hd H p⟩
def DcB (J : It) (g : TG) (tt : TT) (tk tv : TE) (vs : List Nat) (σ : L2.St) (Q : VK) (H1 : Hp) : Prop := ∀ D, H1 D = none → ∃ W : Nat → Nat → Hp → Prop, (∃ m, W 0 m (upd H1 D (.dK []))) ∧ ∀ i m H, W i m H →
  (J.stop i H ∧ Q (.ref D) H) ∨ (J.go i H ∧ ∃ Nx : Hp → Prop, (∀ H', Nx H' → ∃ m', m' < m ∧ W (i + 1) m' H') ∧ ∀ x H', J.yld i H x H' → g x (wipe σ vs) H' fun σ2 H2 => wipe σ2 vs = wipe σ vs ∧ tt σ2 H2 fun b H3 =>
    if b = true then tk σ2 H3 fun y H4 => tv σ2 H4 fun z H5 => ∃ kvs k, y = kV k ∧ H5 D = some (.dK kvs) ∧ kvs.length < sizeLine ∧ Nx (upd H5 D (.dK (putK kvs k z))) else Nx H3)
theorem k_dc {wi : TI} (h : wi σ H fun J H1 => DcB J g tt tk tv vs σ Q H1) : tDc wi g tt tk tv vs σ H Q := h
/-- {k: v for .. in data}: kf and vf tell the key and the value -/
theorem b_dic (w : Walk J xs.length G (YAt xs)) (hG : ∀ H', Xt H H' → G H') (hds : DpAll K H xs ds) (kf : PyData → Str) (vf : PyData → PyData) (hf : ∀ d ∈ ds, Im (vf d) = true) (hn : ds.length < 10000000)
    (body : ∀ v d H', Dp K H' v d → d ∈ ds → Xt H H' → ∀ R : V → V → Hp → Prop, (∀ y H3, Xt H' H3 → Dp K H3 y (vf d) → R (.str (kf d)) y H3) → g v (wipe σ vs) H' fun σ2 H2 => wipe σ2 vs = wipe σ vs ∧ tk σ2 H2 fun a H3 => tv σ2 H3 fun b H4 => R a b H4)
    (k : ∀ Dl kvs H2, H Dl = none → Xt H H2 → H2 Dl = some (.dK kvs) → kvs.length ≤ ds.length → HasD K H2 kvs (tabF (ds.map fun d => (kf d, vf d))) → Q (.ref Dl) H2)
    (gm : ∀ v σ H R R', (∀ σ2 H2, R σ2 H2 → R' σ2 H2) → g v σ H R → g v σ H R') : DcB J g tYes tk tv vs σ Q H := fun Dl hD => by
  have hl := hds.len
  refine dc_it w (g := g) (tt := tYes) (tk := tk) (tv := tv) (σ := σ) (vs := vs) (fun i H' => Xt H H' ∧ ∃ kvs, H' Dl = some (.dK kvs) ∧ kvs.length ≤ i ∧ HasD K H' kvs (tabF ((ds.map fun d => (kf d, vf d)).take i)))
    ⟨xnew hD, [], upd_same, Nat.le_refl _, fun _ => rfl⟩ (fun i H' _ p => hG H' p.1) (fun i x H' H2 hi p hy => ?_) (fun H' p => ?_)
  · obtain ⟨hx, kvs, e, hkl, hk⟩ := p
    obtain ⟨rfl, hxi⟩ := hy
    obtain ⟨d, hd, hdp⟩ := DpAll.getV hds hxi
    have hmem : d ∈ ds := List.mem_of_getElem? hd
    have hb := body x d H2 (Dp.mono hx hdp) hmem hx (fun y z H5 => ∃ kvs k, y = kV k ∧ H5 Dl = some (.dK kvs) ∧ kvs.length < sizeLine ∧ (Xt H (upd H5 Dl (.dK (putK kvs k z))) ∧ ∃ kvs', (upd H5 Dl (.dK (putK kvs k z))) Dl = some (.dK kvs') ∧ kvs'.length ≤ i + 1 ∧ HasD K (upd H5 Dl (.dK (putK kvs k z))) kvs' (tabF ((ds.map fun d => (kf d, vf d)).take (i + 1))))) (fun y H4 x4 hy => by
      have e4 := x4 _ _ e
      have hk4 := (HasD.mono x4 hk).put (x := kf d) (hf d hmem) hy
      have et : (ds.map fun d => (kf d, vf d)).take (i + 1) = (ds.map fun d => (kf d, vf d)).take i ++ [(kf d, vf d)] := by rw [List.take_add_one, List.getElem?_map, hd]; rfl
      refine ⟨kvs, Sum.inr (kf d), rfl, e4, szL2 (by omega), xmut (xtr hx x4) hD, putK kvs (Sum.inr (kf d)) y, upd_same, ?_, ?_⟩
      · unfold putK
        split
        · rw [List.length_map]; omega
        · rw [List.length_append, List.length_singleton]; omega
      · rw [et, tabF_snoc]
        exact HasD.im (fun a zs h => SqT.updD e4 h) hk4)
    exact gm _ _ _ _ _ (fun σ2 H3 h => ⟨h.1, by refine k_yesT ?_; rw [if_pos rfl]; exact h.2⟩) hb
  · obtain ⟨hx, kvs, e, hkl, hk⟩ := p
    rw [List.take_of_length_le (by rw [List.length_map, hl]; exact Nat.le_refl _)] at hk
    exact k Dl kvs H' hD hx e (by omega) hk
end
end CW

set_option Elab.async false
set_option linter.all false
set_option maxRecDepth 100000
set_option maxHeartbeats 1000000
/-! tuple(..), list(..), objects, dicts by keys -/
namespace CW
open PySem PySem.Spec PyProof.Rows L2
section
variable {X : Cx}
def rTup (K : PySem.W.Frag) : List V → Hp → VK → Prop := fun xs H Q => ∃ p ys, xs = [.ref p] ∧ ((SqL K H p ys ∧ ∀ l, H l = none → Q (.ref l) (upd H l (.tup ys))) ∨ (SqT K H p ys ∧ Q (.ref p) H))
theorem call_tupU : CallR X (.type "tuple") (rTup X.K) := call_tuple_of
def rLst (K : PySem.W.Frag) : List V → Hp → VK → Prop := fun xs H Q => ∃ p ys, xs = [.ref p] ∧ (SqL K H p ys ∨ SqT K H p ys) ∧ ∀ l, H l = none → Q (.ref l) (upd H l (.lst ys))
theorem call_lstU : CallR X (.type "list") (rLst X.K) := call_list_of
end
section
variable {K : PySem.W.Frag} {σ : L2.St} {H : Hp} {Q : VK} {D : Ends} {te ta tv td ty : TE} {a : Addr} {x y v : V} {ds : List PyData} {f m : Str} {C dx : Addr} {fs : List (Str × V)} {t : TA} {xs : List V}
theorem d_tupl (h : Dp K H x (.list ds)) (q : ∀ v H', Xt H H' → Dp K H' v (.tuple ds) → Q v H') : rTup K [x] H Q := by
  obtain ⟨a, xs, rfl, hs, hd⟩ := Dp.lst_inv h
  exact ⟨a, xs, rfl, .inl ⟨hs, fun l hl => q _ _ (xnew hl) (.of_tup upd_same (DpAll.mono (xnew hl) hd))⟩⟩
theorem d_tupt (h : Dp K H x (.tuple ds)) (q : Q x H) : rTup K [x] H Q := by
  obtain ⟨a, xs, rfl, hs, hd⟩ := Dp.tup_inv h
  exact ⟨a, xs, rfl, .inr ⟨hs, q⟩⟩
theorem v_tupl (h : SqL K H a xs) (q : ∀ p H', H p = none → Xt H H' → H' p = some (.tup xs) → Q (.ref p) H') : rTup K [.ref a] H Q :=
  ⟨a, xs, rfl, .inl ⟨h, fun l hl => q l _ hl (xnew hl) upd_same⟩⟩
theorem d_lstl (h : Dp K H x (.list ds) ∨ Dp K H x (.tuple ds)) (q : ∀ p xs H', H p = none → Xt H H' → H' p = some (.lst xs) → DpAll K H' xs ds → Q (.ref p) H') : rLst K [x] H Q := by
  rcases h with h | h
  · obtain ⟨a, xs, rfl, hs, hd⟩ := Dp.lst_inv h
    exact ⟨a, xs, rfl, .inl hs, fun l hl => q l xs _ hl (xnew hl) upd_same (DpAll.mono (xnew hl) hd)⟩
  · obtain ⟨a, xs, rfl, hs, hd⟩ := Dp.tup_inv h
    exact ⟨a, xs, rfl, .inr hs, fun l hl => q l xs _ hl (xnew hl) upd_same (DpAll.mono (xnew hl) hd)⟩
/-! fields -/
def rFld (K : PySem.W.Frag) (f : Str) : V → Hp → VK → Prop := fun x H Q => ∃ a C dx fs v, x = .ref a ∧ H a = some (.ins C dx fs) ∧ Cls K C ∧ NoAttr K C f ∧ fs.lookup f = some v ∧ Q v H
theorem k_fld (h : ta σ H fun x H1 => rFld K f x H1 Q) : tFld K ta f σ H Q := h
theorem v_fld (e : H a = some (.ins C dx fs)) (c : Cls K C) (n : NoAttr K C f) (l : fs.lookup f = some v) (q : Q v H) : rFld K f (.ref a) H Q := ⟨a, C, dx, fs, v, rfl, e, c, n, l, q⟩
def rSFld (K : PySem.W.Frag) (f : Str) (D : Ends) (σ : L2.St) : V → V → Hp → Prop := fun y x H => ∃ a C dx fs, x = .ref a ∧ H a = some (.ins C dx fs) ∧ Cls K C ∧ NoAttr K C f ∧ fs.length < 1000 ∧ D.nx σ (upd H a (.ins C dx (putF f y fs)))
theorem k_sfld (h : tv σ H fun y H1 => ta σ H1 fun x H2 => rSFld K f D σ y x H2) : sFld K ta tv f D σ H := h
theorem v_sfld (e : H a = some (.ins C dx fs)) (c : Cls K C) (n : NoAttr K C f) (l : fs.length < 1000) (q : D.nx σ (upd H a (.ins C dx (putF f y fs)))) : rSFld K f D σ y (.ref a) H := ⟨a, C, dx, fs, rfl, e, c, n, l, q⟩
/-! dicts -/
def rDGet (ty : TE) (σ : L2.St) : V → Hp → VK → Prop := fun x H1 Q => ∃ a, x = .ref a ∧ IsD H1 a ∧ ty σ H1 fun y H2 => ∃ o, DGet H2 a y o ∧ Q (o.getD .non) H2
theorem k_dget (h : td σ H fun x H1 => rDGet ty σ x H1 Q) : tDGet1 td ty σ H Q := h
theorem k_din {R : VK} (h : ty σ H fun y H1 => td σ H1 fun x H2 => ∃ a o, x = .ref a ∧ DGet H2 a y o ∧ R (.bl o.isSome) H2) : tDIn ty td σ H R := h
theorem k_dput (h : tv σ H fun v H1 => td σ H1 fun x H2 => ty σ H2 fun y H3 => ∃ a H4, x = .ref a ∧ DPut H3 a y v H4 ∧ D.nx σ H4) : sDPut td ty tv D σ H := h
theorem v_dput {kvs : List (Key × V)} {z : Str} (e : H a = some (.dK kvs)) (hl : kvs.length < 10000000) (q : D.nx σ (upd H a (.dK (putK kvs (Sum.inr z : Key) v)))) : ∃ a' H4, V.ref a = .ref a' ∧ DPut H a' (.str z) v H4 ∧ D.nx σ H4 :=
  ⟨a, _, rfl, DPut.k (k := Sum.inr z) e (szL2 hl), q⟩
theorem v_din {kvs : List (Key × V)} {z : Str} {R : VK} (e : H a = some (.dK kvs)) (q : R (.bl (valV kvs (Sum.inr z : Key)).isSome) H) : ∃ a' o, V.ref a = .ref a' ∧ DGet H a' (.str z) o ∧ R (.bl o.isSome) H :=
  ⟨a, _, rfl, DGet.k (k := Sum.inr z) e, q⟩
theorem k_dnew (q : ∀ p H2, H p = none → Xt H H2 → H2 p = some (.dK []) → Q (.ref p) H2) : tDNewK σ H Q := fun p hp => q p _ hp (xnew hp) upd_same
/-! methods, makings -/
theorem k_meth {sp : Sp} {dvs : List V} {E : XK} (h : ta σ H fun x H1 => ∃ a dx fs, x = .ref a ∧ H1 a = some (.ins C dx fs) ∧ fs.lookup m = none ∧ t σ H1 fun vs H2 => sp (x :: (vs ++ dvs)) H2 Q E) : tMeth C m sp dvs E ta t σ H Q := h
theorem k_make {sp : Sp} {dvs : List V} {E : XK} (h : t σ H fun vs H1 => ∀ x dx, H1 x = none → H1 dx = none → dx ≠ x → sp (.ref x :: (vs ++ dvs)) (upd (upd H1 dx (.own x)) x (.ins C dx [])) (fun v H2 => v = .non ∧ Q (.ref x) H2) E) : tMake C sp dvs E t σ H Q := h
theorem k_bm0 {T : String} {r : V → List V → Hp → VK → Prop} {to : TE} (h : to σ H fun x H1 => tyV K T x H1 ∧ r x [] H1 Q) : tBM0 K T r to σ H Q := h
theorem v_pop {l : Addr} {zs : List V} (e : H l = some (.lst (zs ++ [v]))) (q : Q v (upd H l (.lst zs))) : rPop (.ref l) [] H Q :=
  ⟨l, zs ++ [v], v, rfl, rfl, e, by simp, by rw [List.dropLast_concat]; exact q⟩
/-! lists that change -/
theorem v_ext {l b : Addr} {zs : List V} (e : H l = some (.lst xs)) (e2 : H b = some (.lst zs)) (hz : xs.length + zs.length ≤ 10000000) (q : Q .non (upd H l (.lst (xs ++ zs)))) : rExtend (.ref l) [.ref b] H Q := ⟨l, b, xs, zs, rfl, rfl, e, e2, szL hz, q⟩
end
def sw2 {α : Type} : List α → List α
  | [a, b] => [b, a]
  | l => l
/-! tables -/
theorem snoc_ind {α : Type} {P : List α → Prop} (h0 : P []) (hs : ∀ l a, P l → P (l ++ [a])) (l : List α) : P l := by
  have h : ∀ r : List α, P r.reverse := fun r => by
    induction r with
    | nil => exact h0
    | cons a r ih => rw [List.reverse_cons]; exact hs _ _ ih
  have := h l.reverse
  rwa [List.reverse_reverse] at this
theorem tabF_none {l : List (Str × PyData)} {z : Str} : z ∉ l.map (·.1) → tabF l z = none := by
  refine snoc_ind (P := fun l => z ∉ l.map (·.1) → tabF l z = none) (fun _ => rfl) (fun l p ih h => ?_) l
  rw [tabF_snoc]
  rw [List.map_append, List.mem_append] at h
  have h1 : z ≠ p.1 := fun e => h (.inr (by simp [e]))
  simp only [if_neg h1]
  exact ih fun q => h (.inl q)
theorem tabF_mem {l : List (Str × PyData)} {z : Str} {d : PyData} : tabF l z = some d → (z, d) ∈ l := by
  refine snoc_ind (P := fun l => tabF l z = some d → (z, d) ∈ l) (fun h => by cases h) (fun l p ih h => ?_) l
  rw [tabF_snoc] at h
  by_cases e : z = p.1
  · simp only [if_pos e] at h
    cases h
    subst e
    simp
  · simp only [if_neg e] at h
    exact List.mem_append_left _ (ih h)
theorem tabF_isSome {l : List (Str × PyData)} {z : Str} : z ∈ l.map (·.1) → ∃ d, tabF l z = some d := by
  refine snoc_ind (P := fun l => z ∈ l.map (·.1) → ∃ d, tabF l z = some d) (fun h => by cases h) (fun l p ih h => ?_) l
  rw [tabF_snoc]
  by_cases e : z = p.1
  · exact ⟨p.2, if_pos e⟩
  · rw [List.map_append, List.mem_append] at h
    rcases h with h | h
    · obtain ⟨d, hd⟩ := ih h
      exact ⟨d, by simp only [if_neg e]; exact hd⟩
    · simp at h; exact absurd h e
end CW

set_option Elab.async false
set_option linter.all false
set_option maxRecDepth 100000
set_option maxHeartbeats 1000000
namespace L2
open PySem PySem.Spec PyProof.Rows CW
theorem SqL.updD {K : PySem.W.Frag} {H : Hp} {a b : Addr} {xs : List V} {zs : List (Key × V)} {o : HO} (hb : H b = some (.dK zs)) (h : SqL K H a xs) : SqL K (L2.upd H b o) a xs := by
  rcases h with (h | ⟨u, h⟩) | h
  · refine .inl (.inl ?_)
    rw [upd_ne (ne_of h hb (by intro z; cases z))]; exact h
  · refine .inl (.inr ⟨u, ?_⟩)
    rw [upd_ne (ne_of h hb (by intro z; cases z))]; exact h
  · exact .inr h
end L2
namespace CW
open PySem PySem.Spec PyProof.Rows L2
theorem inV_str {z : Str} {S : List Str} : inV (.str z) (S.map V.str) = decide (z ∈ S) := by
  induction S with
  | nil => rfl
  | cons s r ih =>
    show (eqV (.str s) (.str z) || inV (.str z) (r.map V.str)) = _
    rw [ih]
    have e : eqV (.str s) (.str z) = decide (s = z) := by
      show (s == z) = _
      by_cases h : s = z
      · subst h; simp
      · rw [decide_eq_false h]; exact beq_false_of_ne h
    rw [e]
    by_cases h : s = z
    · subst h; simp
    · have h2 : ¬ z = s := fun q => h q.symm
      simp [h, h2]
theorem flat_strs (S : List Str) : (S.map V.str).all flatV = true := by
  rw [List.all_map]
  exact List.all_eq_true.mpr fun _ _ => rfl
section
variable {K : PySem.W.Frag} {H : Hp} {Q : VK} {x s : V} {z : Str} {S : List Str}
theorem d_notin (h : Dp K H s (.tuple (S.map PyData.str))) (q : Q (.bl (!decide (z ∈ S))) H) : rNotInU K (.str z) s H Q := by
  obtain ⟨a, xs, rfl, hs, hd⟩ := Dp.tup_inv h
  have e := DpAll.strs_inv hd
  subst e
  exact v_notin_q (.inr hs) rfl (flat_strs S) (by rw [inV_str]; exact q)
theorem d_in (h : Dp K H s (.tuple (S.map PyData.str))) (q : Q (.bl (decide (z ∈ S))) H) : rInU K (.str z) s H Q := by
  obtain ⟨a, xs, rfl, hs, hd⟩ := Dp.tup_inv h
  have e := DpAll.strs_inv hd
  subst e
  exact v_in_q (.inr hs) rfl (flat_strs S) (by rw [inV_str]; exact q)
end
end CW
namespace HT
open PySem PySem.Spec PyProof.Rows
section
variable {prog : Program} {w : World} {A : Around} {E : Value → Shared → Prop} {s : Shared}
theorem fm_congr {α β : Type} {f g : α → Option β} : ∀ {l : List α}, (∀ a ∈ l, f a = g a) → l.filterMap f = l.filterMap g
  | [], _ => rfl
  | a :: r, h => by
    rw [List.filterMap_cons, List.filterMap_cons, h a (List.mem_cons_self ..), fm_congr fun b hb => h b (List.mem_cons_of_mem _ hb)]
theorem tail_pick1 (xs : Array Value) (h : 1 ≤ xs.size) : ((List.range (xs.size - 1)).filterMap fun (m : Nat) => xs[(((xs.size : Int) - 1) + (m : Int) * (-1)).toNat]?) = (xs.toList.drop 1).reverse := by
  have e1 : ((List.range (xs.size - 1)).filterMap fun (m : Nat) => xs[(((xs.size : Int) - 1) + (m : Int) * (-1)).toNat]?) = ((List.range (xs.size - 1)).map (fun m => 1 + (xs.size - 1 - 1 - m))).filterMap (xs[·]?) := by
    rw [List.filterMap_map]
    refine fm_congr fun m hm => ?_
    have := List.mem_range.mp hm
    have e : (((xs.size : Int) - 1) + (m : Int) * (-1)).toNat = 1 + (xs.size - 1 - 1 - m) := by omega
    rw [e]; rfl
  have e2 : (List.range (xs.size - 1)).map (fun m => 1 + (xs.size - 1 - 1 - m)) = ((List.range (xs.size - 1)).map (1 + ·)).reverse := by
    rw [← List.map_reverse, ← PySem.W.krv_range, List.map_map]
    rfl
  rw [e1, e2, List.filterMap_reverse, pick_run, List.take_of_length_le (by rw [List.length_drop, Array.length_toList]; exact Nat.le_refl _)]
theorem tail_pick (xs : Array Value) : ((List.range (xs.size - 1)).filterMap fun (m : Nat) => xs[(((xs.size : Int) - 1) + (m : Int) * (-1)).toNat]?) = (xs.toList.drop 1).reverse := by
  rcases Nat.eq_zero_or_pos xs.size with h | h
  · have e : xs.toList = [] := List.length_eq_zero_iff.mp (by rw [Array.length_toList]; exact h)
    rw [e, h]; rfl
  · exact tail_pick1 xs h
theorem adjust_tail (n : Nat) : Builtin.Slice.sliceAdjust none (some 0) (-1) (n : Int) = ((n : Int) - 1, min 0 ((n : Int) - 1)) := by
  unfold Builtin.Slice.sliceAdjust
  have h1 : ((-1 : Int) < 0) := by omega
  have h2 : ¬ ((0 : Int) < 0) := by omega
  simp only [h1, h2, if_true, if_false]
theorem places_tail (n : Nat) : Builtin.Slice.slicePlaces ((n : Int) - 1) (min 0 ((n : Int) - 1)) (-1) = n - 1 := by
  unfold Builtin.Slice.slicePlaces
  have h1 : ¬ ((-1 : Int) > 0) := by omega
  have h2 : (- -1 : Int) = 1 := by decide
  simp only [h1, if_false, h2, Int.ediv_one]
  split <;> omega
theorem getItem_tuple_tail {t sl : Addr} {items : Array Value} {vl vu vs : Value} {Q : Value → Shared → Prop} (ht : IsTup s.heap t items) (hs : s.heap.IsSliceOf sl vl vu vs) (pl : IsPart vl none) (pu : IsPart vu (some 0)) (ps : IsPart vs (some (-1)))
    (h : Q (.ref s.heap.objs.size) { s with heap := s.heap.push { cls := .type "tuple", data := .seq (items.toList.drop 1).reverse.toArray } })
    (hsz : items.size ≤ sizeLine) : wpAny (model prog w) A (getItem (.ref t) (.ref sl)) Q E s := by
  have htake : sizeOk (.seq (items.toList.drop 1).reverse.toArray) := by
    show (items.toList.drop 1).reverse.toArray.size ≤ sizeLine
    rw [List.size_toArray, List.length_reverse, List.length_drop, Array.length_toList]
    omega
  obtain ⟨os, hos, hcs, hds⟩ := id hs
  have hTs : s.TypeIs (.ref sl) "slice" := ⟨os, hos, hcs⟩
  unfold getItem
  try with_reducible refine wpAny_holding ?_
  first | refine wpAny_bind (wpAny_pure ?_) | skip
  refine wpAny_bind (wpAny_sequenceKey ht.typeIs (by decide) ?_)
  refine wpAny_bind (wpAny_callSpecial?_slot (name := Str.ofString "__getitem__") ht.typeIs PyProof.Rows.slot_tuple_getitem
    (wpAny_call_entry PyProof.Rows.slot_tuple_getitem ht.typeIs entry_tuple_getitem ?_ (args_tuple_getitem _ _)))
  show wpAny _ _ (Builtin.Tuple.tupleItemsOf (.ref t) >>= _) _ _ s
  refine wpAny_bind (tupleItemsOf_ ht ?_)
  refine wpAny_bind (wpAny_typeOf hTs ?_)
  rw [if_pos (by decide)]
  refine wpAny_bind ?_
  unfold Builtin.Slice.sliceApplied Builtin.Slice.sliceFields
  refine wpAny_bind (wpAny_bind (wpAny_field hos hds (x := vl) rfl (wpAny_bind (wpAny_field hos hds (x := vu) rfl (wpAny_bind (wpAny_field hos hds (x := vs) rfl (wpAny_pure ?_)))))))
  refine wpAny_bind (slicePart_ ps ?_)
  show wpAny _ _ (if ((-1 : Int) == 0) = true then _ else _) _ _ s
  rw [if_neg (by decide)]
  refine wpAny_bind (slicePart_ pl (wpAny_bind (slicePart_ pu (wpAny_bind (wpAny_pure ?_)))))
  show wpAny _ _ (match Builtin.Slice.sliceAdjust none (some 0) (-1) (items.size : Int) with | (lo, hi) => pure (lo, (-1 : Int), Builtin.Slice.slicePlaces lo hi (-1))) _ _ s
  rw [adjust_tail _]
  show wpAny _ _ (pure (((items.size : Int) - 1), (-1 : Int), Builtin.Slice.slicePlaces ((items.size : Int) - 1) (min 0 ((items.size : Int) - 1)) (-1))) _ _ s
  rw [places_tail _]
  refine wpAny_pure ?_
  have hno : ¬ (((((items.size : Int) - 1)) == 0 && (-1 : Int) == 1 && (items.size - 1) == items.size) = true) := by
    intro q
    rw [Bool.and_eq_true, Bool.and_eq_true] at q
    have q1 : (-1 : Int) = 1 := eq_of_beq q.1.2
    omega
  show wpAny _ _ (if ((((items.size : Int) - 1)) == 0 && (-1 : Int) == 1 && (items.size - 1) == items.size) = true then _ else _) _ _ s
  rw [if_neg hno]
  rw [tail_pick _]
  first
    | exact wpAny_bind (m := Builtin.Tuple.tupleExact _) (wpAny_newObj_type (wpAny_pure ⟨_, rfl, wpAny_pure h⟩) htake)
    | exact wpAny_bind (m := Builtin.Tuple.tupleExact _) (wpAny_newObj_type (wpAny_bind (wpAny_pure (wpAny_pure ⟨_, rfl, wpAny_pure h⟩))) htake)
    | exact wpAny_bind (wpAny_bind (m := Builtin.Tuple.tupleExact _) (wpAny_newObj_type (wpAny_pure (wpAny_pure ⟨_, rfl, wpAny_pure h⟩)) htake))
    | exact wpAny_bind (wpAny_bind (m := Builtin.Tuple.tupleExact _) (wpAny_newObj_type (wpAny_pure ⟨_, rfl, wpAny_pure h⟩) htake))
end
end HT
namespace CW
open PySem PySem.Spec PyProof.Rows L2
def rTR (K : PySem.W.Frag) : V → Hp → VK → Prop := fun x H Q => ∃ a xs, x = .ref a ∧ SqT K H a xs ∧ ∀ p, H p = none → Q (.ref p) (upd H p (.tup (xs.drop 1).reverse))
def tTR (K : PySem.W.Frag) (te : TE) : TE := fun σ H Q => te σ H fun x H1 => rTR K x H1 Q
theorem k_tr {K : PySem.W.Frag} {te : TE} {σ : L2.St} {H : Hp} {Q : VK} (h : te σ H fun x H1 => rTR K x H1 Q) : tTR K te σ H Q := h
theorem d_tr {K : PySem.W.Frag} {H : Hp} {Q : VK} {x : V} {d : PyData} {ds : List PyData} (h : Dp K H x (.tuple (d :: ds))) (q : ∀ p H' xs, H p = none → Xt H H' → H' p = some (.tup xs) → DpAll K H' xs ds.reverse → Q (.ref p) H') : rTR K x H Q := by
  obtain ⟨a, xs, rfl, hs, hd⟩ := Dp.tup_inv h
  refine ⟨a, xs, rfl, hs, fun p hp => q p _ _ hp (xnew hp) upd_same (DpAll.mono (xnew hp) (DpAll.rev ?_))⟩
  exact DpAll.drop 1 hd
theorem d_tr0 {K : PySem.W.Frag} {H : Hp} {Q : VK} {x : V} {ds : List PyData} (h : Dp K H x (.tuple ds)) (q : ∀ v H', Xt H H' → Dp K H' v (.tuple (ds.drop 1).reverse) → Q v H') : rTR K x H Q := by
  obtain ⟨a, xs, rfl, hs, hd⟩ := Dp.tup_inv h
  exact ⟨a, xs, rfl, hs, fun p hp => q _ _ (xnew hp) (.of_tup upd_same (DpAll.mono (xnew hp) (DpAll.rev (DpAll.drop 1 hd))))⟩
variable {X : Cx}
theorem pe_tailrev {e : Expr} {te : TE} {k k0 : Nat} {p0 p1 p2 p3 pos : Pos} (he : PE X e te) : PE X (.Subscript e (.Slice none (some (.Constant (.int 0) k0 p0)) (some (.UnaryOp .USub (.Constant (.int 1) k p1) p2)) p3) pos) (tTR X.K te) := by
  refine ⟨fun pins s σ H Q I h => ?_⟩
  refine Subscript_ (thn (he.run pins s σ H _ I h) fun v s1 ⟨x, H1, I1, r1, q1⟩ => ?_)
  obtain ⟨a, xs, ex, hx, q⟩ := q1
  subst ex
  cases r1
  have hst : PO X (some (.UnaryOp .USub (.Constant (.int 1) k p1) p2)) (tPart (tUn (rU fun i => .int (-i)) (tC (.int 1)))) := po_some (pe_un un_neg pe_int)
  have hz0 : PO X (some (.Constant (.int 0) k0 p0)) (tPart (tC (.int 0))) := po_some pe_int
  refine wpAny_Slice (thn (po_none.run pins s1 σ H1 (fun o H2 => o = none ∧ H2 = H1) I1 ⟨rfl, rfl⟩) fun vl s2 ⟨l, H2, I2, pl, el, e2⟩ => ?_)
  subst el e2
  refine thn (hz0.run pins s2 σ H2 (fun o H3 => o = some 0 ∧ H3 = H2) I2 ⟨0, rfl, rfl, rfl⟩) fun vu s3 ⟨u, H3, I3, pu, eu, e3⟩ => ?_
  subst eu e3
  refine thn (hst.run pins s3 σ H3 (fun o H4 => o = some (-1) ∧ H4 = H3) I3 ⟨1, rfl, -1, rfl, rfl, rfl⟩) fun vs s4 ⟨o, H4, I4, ps, eo, e4⟩ => ?_
  subst eo e4
  have I5 : Inv X pins σ H4 { s4 with heap := s4.heap.push { cls := .type "slice", data := .fields #[vl, vu, vs] } } := I4.kept (t' := s4.toks) fun b ob q => Heap.get?_push_of_some _ q
  obtain ⟨its, r, ht, hz⟩ := I5.tuple hx
  have hlen := r.length
  have hlen2 : its.toArray.size = xs.length := by rw [List.size_toArray]; exact hlen.symm
  show wpAny (model X.prog X.w) X.A (subscriptTail e (.Slice none (some (.Constant (.int 0) k0 p0)) (some (.UnaryOp .USub (.Constant (.int 1) k p1) p2)) p3) (.ref a) (.ref s4.heap.objs.size)) (EP X pins σ Q) X.xe { s4 with heap := s4.heap.push { cls := .type "slice", data := .fields #[vl, vu, vs] } }
  refine tail_any (ops := [.ref a, .ref s4.heap.objs.size]) ht.typeIs (PyProof.Rows.slot_tuple_getitem.lookup) ?_ (by with_unfolding_all rfl)
  refine HT.getItem_tuple_tail ht (Heap.IsSliceOf.new _ vl vu vs) pl pu ps ?_ (by rw [hlen2]; exact hz)
  refine ⟨.ref _, _, I5.laid (t' := s4.toks) (o := .tup (xs.drop 1).reverse) (fun b ob q => Heap.get?_push_of_some _ q) (Nat.le_refl _) ?_, rfl, q _ (I5.hok.fresh (Nat.le_refl _))⟩
  refine ⟨by rw [List.length_reverse, List.length_drop]; omega, _, (r.drop 1).reverse, ?_⟩
  exact IsTup.new _ _
end CW

set_option Elab.async false
set_option linter.all false
set_option maxRecDepth 100000
set_option maxHeartbeats 1000000
/-! data of signs below 128, tests on data of any kind -/
namespace CW
open PySem PySem.Spec PyProof.Rows L2
def ascS (z : Str) : Bool := z.cps.toList.all fun c => decide (c < 128)
mutual
def AsD : PyData → Bool
  | .none => true
  | .bool _ => true
  | .int _ => true
  | .str z => ascS z
  | .list _ => false
  | .dict _ => false
  | .tuple ds => AsAll ds
def AsAll : List PyData → Bool
  | [] => true
  | d :: ds => AsD d && AsAll ds
end
theorem asAll_iff : ∀ {ds : List PyData}, AsAll ds = true ↔ ∀ d ∈ ds, AsD d = true
  | [] => by simp [AsAll]
  | d :: ds => by
    rw [AsAll, Bool.and_eq_true, asAll_iff (ds := ds)]
    simp
theorem strOk_asc {z : Str} (h : ascS z = true) : PyData.strOk z = true := by
  unfold PyData.strOk
  rw [← Array.all_toList]
  exact List.all_eq_true.mpr fun c hc => decide_eq_true (Nat.lt_trans (of_decide_eq_true (List.all_eq_true.mp h c hc)) (by decide))
mutual
theorem as_im : ∀ {d : PyData}, AsD d = true → Im d = true
  | .none, _ => rfl
  | .bool _, _ => rfl
  | .int _, _ => rfl
  | .str _, _ => rfl
  | .list _, h => by simp [AsD] at h
  | .dict _, h => by simp [AsD] at h
  | .tuple ds, h => by
    have h2 : AsAll ds = true := by simpa [AsD] using h
    show ImAll ds = true
    exact as_imAll h2
theorem as_imAll : ∀ {ds : List PyData}, AsAll ds = true → ImAll ds = true
  | [], _ => rfl
  | d :: ds, h => by
    rw [AsAll, Bool.and_eq_true] at h
    rw [ImAll, as_im h.1, as_imAll h.2]; rfl
end
mutual
theorem as_lay : ∀ {d : PyData}, AsD d = true → d.canLay0 = true
  | .none, _ => by simp only [PyData.canLay0]
  | .bool _, _ => by simp only [PyData.canLay0]
  | .int _, _ => by simp only [PyData.canLay0]
  | .str z, h => by
    simp only [PyData.canLay0]
    exact strOk_asc (by simpa [AsD] using h)
  | .list _, h => by simp [AsD] at h
  | .dict _, h => by simp [AsD] at h
  | .tuple ds, h => by
    simp only [PyData.canLay0]
    exact as_layAll (by simpa [AsD] using h)
theorem as_layAll : ∀ {ds : List PyData}, AsAll ds = true → PyData.canLayAll0 ds = true
  | [], _ => by simp only [PyData.canLayAll0]
  | d :: ds, h => by
    rw [AsAll, Bool.and_eq_true] at h
    rw [PyData.canLayAll0, as_lay h.1, as_layAll h.2]; rfl
end
/-- small data -/
structure Sm (n : Nat) (d : PyData) : Prop where
  as : AsD d = true
  dp : d.depth ≤ n
  wt : d.weight ≤ 5000000
theorem Sm.shaped {n : Nat} {d : PyData} (h : Sm n d) (hn : n ≤ 64) : SeqAt.shaped d = true := by
  unfold SeqAt.shaped
  rw [as_lay h.as, decide_eq_true (Nat.le_trans h.dp hn)]; rfl
theorem Sm.im {n : Nat} {d : PyData} (h : Sm n d) : Im d = true := as_im h.as
theorem Sm.up {n m : Nat} {d : PyData} (h : Sm n d) (hm : n ≤ m) : Sm m d := ⟨h.as, Nat.le_trans h.dp hm, h.wt⟩
theorem depth_mem : ∀ {ds : List PyData} {d : PyData}, d ∈ ds → d.depth ≤ PyData.depthAll ds
  | [], _, h => by cases h
  | e :: ds, d, h => by
    rw [PyData.depthAll]
    rcases List.mem_cons.mp h with rfl | h
    · exact Nat.le_max_left _ _
    · exact Nat.le_trans (depth_mem h) (Nat.le_max_right _ _)
theorem weight_mem : ∀ {ds : List PyData} {d : PyData}, d ∈ ds → d.weight + 1 ≤ PyData.weightAll ds
  | [], _, h => by cases h
  | e :: ds, d, h => by
    rw [PyData.weightAll]
    rcases List.mem_cons.mp h with rfl | h
    · omega
    · have := weight_mem h; omega
theorem len_weight : ∀ {ds : List PyData}, ds.length ≤ PyData.weightAll ds
  | [] => Nat.zero_le _
  | e :: ds => by
    rw [PyData.weightAll, List.length_cons]
    have := len_weight (ds := ds); omega
theorem Sm.tup {n : Nat} {ds : List PyData} (h : Sm (n + 1) (.tuple ds)) : ∀ d ∈ ds, Sm n d := fun d hd => by
  have h1 : AsAll ds = true := by simpa [AsD] using h.as
  have h2 := h.dp
  have h3 := h.wt
  rw [PyData.depth] at h2
  rw [PyData.weight] at h3
  have := depth_mem hd
  have := weight_mem hd
  exact ⟨asAll_iff.mp h1 d hd, by omega, by omega⟩
theorem Sm.pos {n : Nat} {ds : List PyData} (h : Sm n (.tuple ds)) : ∃ m, n = m + 1 := by
  have h2 := h.dp
  rw [PyData.depth] at h2
  exact ⟨n - 1, by omega⟩
theorem Sm.len {n : Nat} {ds : List PyData} (h : Sm n (.tuple ds)) : ds.length ≤ 5000000 := by
  have h3 := h.wt
  rw [PyData.weight] at h3
  exact Nat.le_trans len_weight h3
theorem Sm.str {n : Nat} {z : Str} (h : Sm n (.str z)) : z.length ≤ 5000000 := by
  have h3 := h.wt
  rw [PyData.weight] at h3
  exact h3
theorem hu65 {k : Nat} {A : Around} (hr : Room k A) : A.units + 65 < cLine := by have := hr.un; omega
theorem hu64 {k : Nat} {A : Around} (hr : Room k A) : A.units + 64 < cLine := by have := hr.un; omega
section
variable {X : Cx}
def rInTD (K : PySem.W.Frag) (neg : Bool) : R2 := fun x y H Q => ∃ d ds, Dp K H x d ∧ Dp K H y (.tuple ds) ∧ SeqAt.shaped d = true ∧ PyData.canLayAll0 ds = true ∧ Q (.bl (if neg then !(ds.any fun z => PyData.eqv z d) else ds.any fun z => PyData.eqv z d)) H
theorem op_inTD (hu : X.A.units + 65 < cLine) : OpR X (compareOp .In) (rInTD X.K false) := by
  intro pins s σ H x y v u Q I rx ry h
  obtain ⟨d, ds, hd, he, sd, se, q⟩ := h
  obtain ⟨as, r1⟩ := Dp.reads I d x v hd rx
  obtain ⟨bs, r2⟩ := Dp.reads I (.tuple ds) y u he ry
  exact SeqAt.in_tuple_reads r2 r1 se (SeqAt.canLay_of_shaped sd) (room_in_shaped sd hu) ⟨.bl _, H, I, rfl, q⟩
theorem op_notInTD (hu : X.A.units + 65 < cLine) : OpR X (compareOp .NotIn) (rInTD X.K true) := by
  intro pins s σ H x y v u Q I rx ry h
  obtain ⟨d, ds, hd, he, sd, se, q⟩ := h
  obtain ⟨as, r1⟩ := Dp.reads I d x v hd rx
  obtain ⟨bs, r2⟩ := Dp.reads I (.tuple ds) y u he ry
  exact SeqAt.notIn_tuple_reads r2 r1 se (SeqAt.canLay_of_shaped sd) (room_in_shaped sd hu) ⟨.bl _, H, I, rfl, q⟩
def rInV (K : PySem.W.Frag) : R2 := fun x y H Q => rInU K x y H Q ∨ (rInTD K false x y H Q ∨ rInD K x y H Q)
def rNotInV (K : PySem.W.Frag) : R2 := fun x y H Q => rNotInU K x y H Q ∨ (rInTD K true x y H Q ∨ rNotInD K x y H Q)
theorem op_inV {k : Nat} (hr : Room k X.A) : OpR X (compareOp .In) (rInV X.K) := OpR.or op_inU (OpR.or (op_inTD (hu65 hr)) (op_inD (hu65 hr)))
theorem op_notInV {k : Nat} (hr : Room k X.A) : OpR X (compareOp .NotIn) (rNotInV X.K) := OpR.or op_notInU (OpR.or (op_notInTD (hu65 hr)) (op_notInD (hu65 hr)))
def rEqU (K : PySem.W.Frag) : R2 := fun x y H Q => rEq x y H Q ∨ rEqD K x y H Q
def rNeU (K : PySem.W.Frag) : R2 := fun x y H Q => rNe x y H Q ∨ rNeD K x y H Q
theorem op_eqU {k : Nat} (hr : Room k X.A) : OpR X (compareOp .Eq) (rEqU X.K) := OpR.or op_eq (op_eqD (hu64 hr))
theorem op_neU {k : Nat} (hr : Room k X.A) : OpR X (compareOp .NotEq) (rNeU X.K) := OpR.or op_ne (op_neD (hu64 hr))
def rLeS : R2 := fun x y H Q => ∃ i j, x = .str i ∧ y = .str j ∧ Q (.bl (!decide (j.cps.toList < i.cps.toList))) H
theorem op_leS : OpR X (compareOp .LtE) rLeS := op_le_str
end
section
variable {K : PySem.W.Frag} {H : Hp} {Q : VK} {x y s : V} {z w : Str} {S : List Str} {d e : PyData} {c : Nat} {a : Addr} {xs : List V}
theorem v_leS (q : Q (.bl (!decide (w.cps.toList < z.cps.toList))) H) : rLeS (.str z) (.str w) H Q := ⟨z, w, rfl, rfl, q⟩
theorem v_eqU (h : scal x y = true) (q : Q (.bl (decide (x = y))) H) : rEqU K x y H Q := .inl ⟨h, q⟩
theorem v_neU (h : scal x y = true) (q : Q (.bl (!decide (x = y))) H) : rNeU K x y H Q := .inl ⟨h, q⟩
theorem d_eq (h1 : Dp K H x d) (h2 : Dp K H y e) (s1 : SeqAt.shaped d = true) (s2 : SeqAt.shaped e = true) (q : Q (.bl (PyData.eqv d e)) H) : rEqU K x y H Q := .inr ⟨d, e, h1, h2, s1, s2, q⟩
theorem d_ne (h1 : Dp K H x d) (h2 : Dp K H y e) (s1 : SeqAt.shaped d = true) (s2 : SeqAt.shaped e = true) (q : Q (.bl (!PyData.eqv d e)) H) : rNeU K x y H Q := .inr ⟨d, e, h1, h2, s1, s2, q⟩
theorem w_in_s (q : Q (.bl (decide (c ∈ w.cps.toList))) H) : rInV K (.str ⟨#[c]⟩) (.str w) H Q := .inl (v_in_s q)
theorem w_notin_s (q : Q (.bl (!decide (c ∈ w.cps.toList))) H) : rNotInV K (.str ⟨#[c]⟩) (.str w) H Q := .inl (v_notin_s q)
theorem w_notin_q (h : SqL K H a xs ∨ SqT K H a xs) (hx : flatV x = true) (hf : xs.all flatV = true) (q : Q (.bl (!inV x xs)) H) : rNotInV K x (.ref a) H Q := .inl (v_notin_q h hx hf q)
theorem w_in_q (h : SqL K H a xs ∨ SqT K H a xs) (hx : flatV x = true) (hf : xs.all flatV = true) (q : Q (.bl (inV x xs)) H) : rInV K x (.ref a) H Q := .inl (v_in_q h hx hf q)
theorem w_notin (h : Dp K H s (.tuple (S.map PyData.str))) (q : Q (.bl (!decide (z ∈ S))) H) : rNotInV K (.str z) s H Q := .inl (d_notin h q)
theorem w_in (h : Dp K H s (.tuple (S.map PyData.str))) (q : Q (.bl (decide (z ∈ S))) H) : rInV K (.str z) s H Q := .inl (d_in h q)
theorem w_inl (h : Dp K H s (.list (S.map PyData.str))) (q : Q (.bl (decide (z ∈ S))) H) : rInV K (.str z) s H Q := by
  obtain ⟨a, xs, rfl, hs, hd⟩ := Dp.lst_inv h
  have e := DpAll.strs_inv hd
  subst e
  exact .inl (v_in_q (.inl hs) rfl (flat_strs S) (by rw [inV_str]; exact q))
/-- is that data one of these texts -/
def isIn (S : List Str) : PyData → Bool
  | .str z => decide (z ∈ S)
  | _ => false
theorem any_eqv (S : List Str) (d : PyData) : ((S.map PyData.str).any fun z => PyData.eqv z d) = isIn S d := by
  rw [List.any_map]
  induction S with
  | nil => cases d <;> rfl
  | cons t r ih =>
    rw [List.any_cons, ih]
    cases d with
    | str z =>
      show ((PyData.eqv (.str t) (.str z)) || decide (z ∈ r)) = decide (z ∈ t :: r)
      rw [PyData.eqv]
      by_cases h : t = z
      · subst h; simp
      · have h2 : ¬ z = t := fun q => h q.symm
        simp [h, h2]
    | none => rfl
    | bool b => rfl
    | int b => rfl
    | list b => rfl
    | tuple b => rfl
    | dict b => rfl
/-- data of any kind in a tuple of texts -/
theorem w_inD (h : Dp K H s (.tuple (S.map PyData.str))) (hx : Dp K H x d) (hd : SeqAt.shaped d = true) (hS : ∀ z ∈ S, ascS z = true) (q : Q (.bl (isIn S d)) H) : rInV K x s H Q := by
  refine .inr (.inl ⟨d, _, hx, h, hd, as_layAll (asAll_iff.mpr fun e he => ?_), ?_⟩)
  · obtain ⟨z, hz, rfl⟩ := List.mem_map.mp he
    simpa [AsD] using hS z hz
  · rw [any_eqv]; exact q
theorem w_inDl (h : Dp K H s (.list (S.map PyData.str))) (hx : Dp K H x d) (hd : SeqAt.shaped d = true) (hS : ∀ z ∈ S, ascS z = true) (hdep : True) (q : Q (.bl (isIn S d)) H) : rInV K x s H Q := by
  refine .inr (.inr ⟨d, _, hx, h, hd, ?_, ?_⟩)
  · unfold SeqAt.shaped
    rw [PyData.canLay0, as_layAll (asAll_iff.mpr fun e he => by
      obtain ⟨z, hz, rfl⟩ := List.mem_map.mp he
      simpa [AsD] using hS z hz), PyData.depth]
    have : PyData.depthAll (S.map PyData.str) = 0 := by
      clear h hS q
      induction S with
      | nil => rfl
      | cons t r ih => rw [List.map_cons, PyData.depthAll, ih, PyData.depth]; rfl
    rw [this]; rfl
  · rw [any_eqv]; exact q
/-! isinstance on data -/
def isTupD : PyData → Bool
  | .tuple _ => true
  | _ => false
def isStrD : PyData → Bool
  | .str _ => true
  | _ => false
theorem sqt_ty {xs : List V} (h : SqT K H a xs) : TyX K H (.ref a) (.type "tuple") := by
  rcases h with (h | ⟨u, h⟩) | ⟨o, its, n, l, c, _⟩
  · exact .base (.tup h)
  · exact .fTuple h
  · exact .kTuple l c
theorem d_isi {T : String} {r : Bool} (hx : Dp K H x d) (him : Im d = true) (hn : d = .none → kitB "NoneType" T = some r) (hb : ∀ b, d = .bool b → kitB "bool" T = some r) (hi : ∀ b, d = .int b → kitB "int" T = some r) (hs : ∀ b, d = .str b → kitB "str" T = some r)
    (ht : ∀ b, d = .tuple b → kitB "tuple" T = some r) (q : Q (.bl r) H) : rIsi K [x, .ty T] H Q := by
  cases hx with
  | non => exact ⟨_, _, .type "NoneType", .type T, r, rfl, .ty T, .base .non, kit_ty (hn rfl), q⟩
  | bl b => exact ⟨_, _, .type "bool", .type T, r, rfl, .ty T, .base (.bl b), kit_ty (hb _ rfl), q⟩
  | int b => exact ⟨_, _, .type "int", .type T, r, rfl, .ty T, .base (.int b), kit_ty (hi _ rfl), q⟩
  | str b => exact ⟨_, _, .type "str", .type T, r, rfl, .ty T, .base (.str b), kit_ty (hs _ rfl), q⟩
  | lst _ _ => simp [Im] at him
  | tup h1 h2 => exact ⟨_, _, .type "tuple", .type T, r, rfl, .ty T, sqt_ty h1, kit_ty (ht _ rfl), q⟩
theorem d_isTup (hx : Dp K H x d) (him : Im d = true) (q : Q (.bl (isTupD d)) H) : rIsi K [x, .ty "tuple"] H Q := d_isi hx him (fun e => by subst e; exact (by decide +kernel : kitB "NoneType" "tuple" = some false)) (fun b e => by subst e; exact (by decide +kernel : kitB "bool" "tuple" = some false)) (fun b e => by subst e; exact (by decide +kernel : kitB "int" "tuple" = some false)) (fun b e => by subst e; exact (by decide +kernel : kitB "str" "tuple" = some false)) (fun b e => by subst e; exact (by decide +kernel : kitB "tuple" "tuple" = some true)) q
theorem d_isStr (hx : Dp K H x d) (him : Im d = true) (q : Q (.bl (isStrD d)) H) : rIsi K [x, .ty "str"] H Q := d_isi hx him (fun e => by subst e; exact (by decide +kernel : kitB "NoneType" "str" = some false)) (fun b e => by subst e; exact (by decide +kernel : kitB "bool" "str" = some false)) (fun b e => by subst e; exact (by decide +kernel : kitB "int" "str" = some false)) (fun b e => by subst e; exact (by decide +kernel : kitB "str" "str" = some true)) (fun b e => by subst e; exact (by decide +kernel : kitB "tuple" "str" = some false)) q
theorem v_isi_int {i : Int} (q : Q (.bl true) H) : rIsi K [.int i, .ty "int"] H Q := ⟨_, _, .type "int", .type "int", true, rfl, .ty "int", .base (.int i), kit_ty (by decide +kernel), q⟩
theorem v_isi_intB {i : Int} (q : Q (.bl false) H) : rIsi K [.int i, .ty "bool"] H Q := ⟨_, _, .type "int", .type "bool", false, rfl, .ty "bool", .base (.int i), kit_ty (by decide +kernel), q⟩
theorem v_isN (q : Q (.bl (decide (x = .non))) H) : rIsN x .non H Q := ⟨rfl, q⟩
theorem v_notN (q : Q (.bl (!decide (x = .non))) H) : rNotN x .non H Q := ⟨rfl, q⟩
end
open RZ in
theorem k_izip {K : PySem.W.Frag} {σ : L2.St} {H : Hp} {ta : TA} {R : It → Hp → Prop} (h : ta σ H fun vs H1 => ∃ a b xs ys, vs = [.ref a, .ref b] ∧ ((SqL K H1 a xs ∧ SqL K H1 b ys ∧ R (Itz K a b) H1) ∨ (SqT K H1 a xs ∧ SqT K H1 b ys ∧ R (ItzT K a b) H1))) : RZ.iZipA K ta σ H R := h
end CW
namespace PySem
open AutoSeq1
theorem list_extend_tupD (l : Addr) (items : Array Value) (n : Nat) (b : Addr) (items2 : Array Value) (n2 : Nat) (dd : Option Addr) (sl : Array (Option Value)) (hs0 : ¬(!items.isEmpty && Builtin.List.listTooLong (items.size + items2.size)) = true) (hs1 : items.size ≤ sizeLine) (hs2 : items.size + items2.size ≤ sizeLine + 1) :
    Meets (Builtin.«list.extend» ⟨[.ref l, .ref b], []⟩) (fun _ R s => s.heap.get? l = some { cls := .type "list", dict := none, data := .seq items n, slots := #[] } ∧ s.heap.get? b = some { cls := .type "tuple", dict := dd, data := .seq items2 n2, slots := sl } ∧ R (.ok (.ret Value.none)) { s with heap := s.heap.update l (Obj.mapSeq fun x => x ++ items2), toks := s.toks }) :=
  .of_wp fun prog w A R s h => by
    obtain ⟨hp, g, d, tk, os⟩ := s; obtain ⟨hl, hb, h⟩ := h; have f1 := idx_int; have f2 := sub_tuple_tuple; have f3 := sub_list_list; have f4 := sub_tuple_list; have f5 := sub_list_tuple;
    have hz' : (items ++ items2).size ≤ sizeLine + 1 := by rw [Array.size_append]; exact hs2
    wp_walk using (wpAny_updateSeq hl rfl (hz := hs1) (_hz' := hz')), wpAny_loadPart' hl, wpAny_loadPart' hb; exact ⟨_, rfl, h⟩
end PySem
namespace CW
open PySem PySem.Spec PyProof.Rows L2
section
variable {X : Cx} {K : PySem.W.Frag} {H : Hp} {Q : VK} {l b : Addr} {xs zs : List V}
def rExtT (K : PySem.W.Frag) : V → List V → Hp → VK → Prop := fun x vs H Q => ∃ l b xs zs, x = .ref l ∧ vs = [.ref b] ∧ H l = some (.lst xs) ∧ SqT K H b zs ∧ xs.length + zs.length ≤ sizeLine ∧ Q .non (upd H l (.lst (xs ++ zs)))
theorem mt_extT : MtM X "list.extend" (rExtT X.K) := by
  intro pins s σ H x vs v us Q I rx rv h
  obtain ⟨l, b, xs, zs, rfl, rfl, hH, hB, hz, q⟩ := h
  cases rx
  obtain ⟨u, rfl, ru⟩ := rv.one
  cases ru
  obtain ⟨z, its, n, r, hl, e⟩ := I.lstM hH
  obtain ⟨its2, r2, ht2, hz2⟩ := I.tuple hB
  have hl2 := r2.length
  obtain ⟨⟨cls, dd, data, sl⟩, ho, hc, n2, hd⟩ := id ht2
  simp only at hc hd
  subst hc hd
  have hsz : its.toArray.size + its2.toArray.size ≤ sizeLine := by rw [List.size_toArray, List.size_toArray]; omega
  have hlong : ¬ (!its.toArray.isEmpty && Builtin.List.listTooLong (its.toArray.size + its2.toArray.size)) = true := by
    rw [notLongL hsz, Bool.and_false]
    exact Bool.false_ne_true
  refine call_meets F.slot_list_extend ⟨_, e, rfl⟩ F.entry_list_extend (F.args_list_extend_2 _ _)
    (PySem.list_extend_tupD l its.toArray n b its2.toArray n2 dd sl hlong (by rw [List.size_toArray]; omega) (by omega)) ⟨e, ho, ?_⟩
  refine ⟨.non, _, I.lset (its' := its ++ its2) hH e (by simp) (r.append r2) ?_, rfl, q⟩
  rw [List.length_append]
  omega
def rExtU (K : PySem.W.Frag) : V → List V → Hp → VK → Prop := fun x vs H Q => rExtend x vs H Q ∨ rExtT K x vs H Q
theorem mt_extU : MtM X "list.extend" (rExtU X.K) := MtR.or mt_extend mt_extT
theorem v_extU {zs : List V} (e : H l = some (.lst xs)) (e2 : H b = some (.lst zs)) (hz : xs.length + zs.length ≤ 10000000) (q : Q .non (upd H l (.lst (xs ++ zs)))) : rExtU K (.ref l) [.ref b] H Q := .inl ⟨l, b, xs, zs, rfl, rfl, e, e2, szL hz, q⟩
theorem v_extT (e : H l = some (.lst xs)) (e2 : SqT K H b zs) (hz : xs.length + zs.length ≤ 10000000) (q : Q .non (upd H l (.lst (xs ++ zs)))) : rExtU K (.ref l) [.ref b] H Q := .inr ⟨l, b, xs, zs, rfl, rfl, e, e2, szL hz, q⟩
end
end CW

/-! one object changes -/
namespace L2
open PySem PySem.Spec PyProof.Rows CW
mutual
theorem Dp.gen {K : PySem.W.Frag} {H H' : Hp} (f : ∀ a xs, SqT K H a xs → SqT K H' a xs) (g : ∀ a xs, SqL K H a xs → SqL K H' a xs) : ∀ {v : V} {d : PyData}, Dp K H v d → Dp K H' v d
  | _, _, .non => .non
  | _, _, .bl b => .bl b
  | _, _, .int i => .int i
  | _, _, .str x => .str x
  | _, _, .lst hs ha => .lst (g _ _ hs) (DpAll.gen f g ha)
  | _, _, .tup hs ha => .tup (f _ _ hs) (DpAll.gen f g ha)
theorem DpAll.gen {K : PySem.W.Frag} {H H' : Hp} (f : ∀ a xs, SqT K H a xs → SqT K H' a xs) (g : ∀ a xs, SqL K H a xs → SqL K H' a xs) : ∀ {vs : List V} {ds : List PyData}, DpAll K H vs ds → DpAll K H' vs ds
  | _, _, .nil => .nil
  | _, _, .cons h1 h2 => .cons (Dp.gen f g h1) (DpAll.gen f g h2)
end
end L2
namespace CW
open PySem PySem.Spec PyProof.Rows L2
def Xa (a : Addr) (H H' : Hp) : Prop := ∀ b o, b ≠ a → H b = some o → H' b = some o
theorem xa_of {a : Addr} {H H' : Hp} (e : Xt H H') : Xa a H H' := fun b o _ h => e b o h
theorem xa_tr {a : Addr} {H H1 H2 : Hp} (e : Xa a H H1) (f : Xa a H1 H2) : Xa a H H2 := fun b o n h => f b o n (e b o n h)
theorem xa_upd {a : Addr} {H : Hp} {o : HO} : Xa a H (upd H a o) := fun b u n h => by rw [upd_ne n]; exact h
theorem xa_free {a p : Addr} {H H' : Hp} {o : HO} (e : Xa a H H') (hi : H' a = some o) (h : H' p = none) : H p = none := by
  cases hp : H p with
  | none => rfl
  | some u =>
    have n : p ≠ a := fun q => by rw [q, hi] at h; cases h
    rw [e _ _ n hp] at h; cases h
theorem xa_mut {a p : Addr} {H H' : Hp} {o : HO} (e : Xa a H H') (h : H p = none) : Xa a H (upd H' p o) := fun b u n hb => by
  rw [upd_ne (ne_of_none hb h)]; exact e b u n hb
section
variable {K : PySem.W.Frag} {H H' : Hp} {a p C dx : Addr} {fs : List (Str × V)} {xs : List V} {v : V} {d : PyData}
theorem ne_ins {o : HO} (hi : H a = some (.ins C dx fs)) (h : H p = some o) (ho : ∀ C dx fs, o ≠ .ins C dx fs) : p ≠ a := fun e => by
  subst e; rw [hi] at h; cases h; exact ho _ _ _ rfl
theorem xat (hi : H a = some (.ins C dx fs)) (e : Xa a H H') (p : Addr) (xs : List V) (h : SqT K H p xs) : SqT K H' p xs := by
  rcases h with (h | ⟨o, h⟩) | h
  · exact .inl (.inl (e _ _ (ne_ins hi h (by intros; intro q; cases q)) h))
  · exact .inl (.inr ⟨o, e _ _ (ne_ins hi h (by intros; intro q; cases q)) h⟩)
  · exact .inr h
theorem xal (hi : H a = some (.ins C dx fs)) (e : Xa a H H') (p : Addr) (xs : List V) (h : SqL K H p xs) : SqL K H' p xs := by
  rcases h with (h | ⟨o, h⟩) | h
  · exact .inl (.inl (e _ _ (ne_ins hi h (by intros; intro q; cases q)) h))
  · exact .inl (.inr ⟨o, e _ _ (ne_ins hi h (by intros; intro q; cases q)) h⟩)
  · exact .inr h
theorem dpa (hi : H a = some (.ins C dx fs)) (e : Xa a H H') (h : Dp K H v d) : Dp K H' v d := Dp.gen (xat hi e) (xal hi e) h
end
end CW
namespace CW
open PySem PySem.Spec PyProof.Rows L2
section
variable {X : Cx}
theorem sw_trueD {kx vx : Expr} {gs : List Comprehension} {scope : Scope} {pos py : Pos} {y : Str} {l : Nat} {env : Env} (hk : env.scope.kind = .function) (hy : env.scope.names.lookup y = some .local) (hl : (py.line == pos.line) = true)
    (ha : (scope.names.any fun (n, k) => n == y && (k == .local || k == .cell)) = false) : swapsWith (.DictComp kx vx gs scope pos) (some (.Name y py)) l env = pure true := by
  have ky : env.kindOf y = some .local := hy
  have hb : env.blockKind = .function := by unfold Env.blockKind; rw [hk]; rfl
  unfold swapsWith
  simp only [hb, ky, ha, Expr.pos, hl]
  rfl
theorem ps_setDc {i : Nat} {y : Str} {py : Pos} {kx vx tg iter : Expr} {ifs : List Expr} {scope : Scope} {own : List (Str × Nat)} {pos spos : Pos} {wi : TI} {g : TG} {tt : TT} {tk tv : TE} (hc : X.calm = true) (hN : X.N.Nodup) (hy : X.N[i]? = some y) (hyl : X.env.scope.names.lookup y = some .local)
    (hsw : swapsWith (.DictComp kx vx [⟨tg, iter, ifs, 0⟩] scope pos) (some (.Name y py)) spos.line X.env = pure true) (hi : PI X tg iter wi) (ok : BlkOk X.N X.env.scope scope own)
    (hg : ∀ (s : Shared) (H : Hp) (C : Addr) (cl : List (Str × Addr)) (fp : List Addr), PG (X.blk s H scope (compEnvC scope cl C X.env) fp) tg g) (ht : ∀ (s : Shared) (H : Hp) (C : Addr) (cl : List (Str × Addr)) (fp : List Addr), PTs (X.blk s H scope (compEnvC scope cl C X.env) fp) ifs tt)
    (hk : ∀ (s : Shared) (H : Hp) (C : Addr) (cl : List (Str × Addr)) (fp : List Addr), PE (X.blk s H scope (compEnvC scope cl C X.env) fp) kx tk)
    (he : ∀ (s : Shared) (H : Hp) (C : Addr) (cl : List (Str × Addr)) (fp : List Addr), PE (X.blk s H scope (compEnvC scope cl C X.env) fp) vx tv) (hs : ∀ x, foldedSetIterable iter X.env x = pure x := by intro _; rfl) :
    PS X (.Assign [.Name y py] (.DictComp kx vx [⟨tg, iter, ifs, 0⟩] scope pos) spos) (tAsg (tDc wi g tt tk tv (own.map (·.2))) (gName i)) := by
  refine ⟨fun pins s σ H D I h => ?_⟩
  rw [exec_Assign_Name_used _ _ _ _ hsw]
  refine wpAny_bind (wpAny_standAt (wpAny_bind ?_))
  show wpAny _ X.A (do let _ ← comprehension (.DictComp kx vx [⟨tg, iter, ifs, 0⟩] scope pos) scope X.env (firstIterPos [⟨tg, iter, ifs, 0⟩] pos) newDict false (eval iter X.env) (some (assign (.Name y py) X.env))) _ _ s
  have h : tDc wi g tt tk tv (own.map (·.2)) σ H (fun x H1 => gName i x σ H1 D.nx) := h
  refine wpAny_bind (thn (dc_core (Qf := fun _ s' => SP X pins D .next s') hc hN I hi ok hg ht hk he hs h fun L C s' m H' I' q hn f => ?_) fun _ s' hq => wpAny_pure (wpAny_pure hq))
  show wpAny _ _ (assign (.Name y py) X.env (.ref L)) _ _ _
  refine wpAny_assign_Name (store_ok2 (v := V.ref L) I' hN hy (.inl hyl) rfl (fun s2 I2 ⟨a, sb, ha⟩ => ?_) (.inr hyl))
  obtain ⟨f0, f1, f2, f3, f4, f5⟩ := f
  have haC : C ≠ a := by
    rcases ha with z | z
    · rw [z]; exact f1
    · exact fun e => f4 y a z e.symm
  refine ⟨m, hn.sameBut sb haC, fun h3 sb3 => ?_⟩
  exact ⟨_, H', I2.turned (t' := s2.toks) (fun b o hb e => (sb3.2 b hb).trans e) f0 f1 f3 f4 f5, q⟩
end
end CW

set_option Elab.async false
set_option linter.all false
set_option maxRecDepth 100000
set_option maxHeartbeats 1000000
/-! texts by their signs -/
namespace CW
open PySem PySem.Spec PyProof.Rows L2
theorem app_l (a b : Str) : (a ++ b).cps.toList = a.cps.toList ++ b.cps.toList := Array.toList_append
theorem len_l (z : Str) : z.cps.toList.length = z.length := by rw [Array.length_toList]; rfl
theorem cut_l (z : Str) (lo hi : Option Int) : (cutS z lo hi).cps.toList = (z.cps.toList.drop (HT.sIx z.length 0 lo)).take (HT.sIx z.length z.length hi - HT.sIx z.length 0 lo) := rfl
theorem cut_to {z : Str} {n : Int} (h : 0 ≤ n) (h2 : n ≤ (z.length : Int)) : (cutS z none (some n)).cps.toList = z.cps.toList.take n.toNat := by
  obtain ⟨k, rfl⟩ : ∃ k : Nat, n = (k : Int) := ⟨n.toNat, by omega⟩
  rw [cut_l, HT.sIx_nat, HT.sIx_none, List.drop_zero, Nat.sub_zero, Int.toNat_natCast, show min k z.length = k by omega]
theorem cut_fr {z : Str} {n : Int} (h : 0 ≤ n) (h2 : n ≤ (z.length : Int)) : (cutS z (some n) none).cps.toList = z.cps.toList.drop n.toNat := by
  obtain ⟨k, rfl⟩ : ∃ k : Nat, n = (k : Int) := ⟨n.toNat, by omega⟩
  rw [cut_l, HT.sIx_nat, HT.sIx_none, Int.toNat_natCast, show min k z.length = k by omega]
  exact List.take_of_length_le (by rw [List.length_drop, len_l]; exact Nat.le_refl _)
theorem list_exP {α : Type} {f : α → V} {P : α → Prop} : ∀ {ys : List V}, (∀ (i : Nat) (y : V), ys[i]? = some y → ∃ c, y = f c ∧ P c) → ∃ cs : List α, ys = cs.map f ∧ ∀ c ∈ cs, P c
  | [], _ => ⟨[], rfl, fun _ h => by cases h⟩
  | y :: r, h => by
    obtain ⟨c, e, p⟩ := h 0 y rfl
    obtain ⟨cs, e2, p2⟩ := list_exP (ys := r) fun i z hz => h (i + 1) z hz
    exact ⟨c :: cs, by rw [e, e2]; rfl, fun d hd => by
      rcases List.mem_cons.mp hd with rfl | hd
      · exact p
      · exact p2 d hd⟩
theorem join_cs (cs : List Nat) : Txt.join (Str.ofString "") (cs.map fun c => (⟨#[c]⟩ : Str)) = ⟨cs.toArray⟩ := by
  show Builtin.Str.glued (Str.ofString "") _ = _
  rw [StrLaws.glued_eq_join]
  exact PyProof.Rows.join_ones cs
theorem v_joinP {K : PySem.W.Frag} {H : Hp} {Q : VK} {a : Addr} {ys : List V} {P : Nat → Prop} (e : H a = some (.lst ys)) (h : ∀ (i : Nat) (y : V), ys[i]? = some y → ∃ c : Nat, y = V.str ⟨#[c]⟩ ∧ P c) (hz : ys.length ≤ 100000)
    (q : ∀ cs : List Nat, cs.length = ys.length → (∀ c ∈ cs, P c) → Q (.str ⟨cs.toArray⟩) H) : rJoin K (.str (Str.ofString "")) [.ref a] H Q := by
  obtain ⟨cs, rfl, hP⟩ := list_exP (f := fun c : Nat => V.str ⟨#[c]⟩) h
  have e2 : (cs.map fun c : Nat => V.str ⟨#[c]⟩) = (cs.map fun c => (⟨#[c]⟩ : Str)).map V.str := by rw [List.map_map]; rfl
  rw [List.length_map] at hz
  refine v_join (ys := cs.map fun c => (⟨#[c]⟩ : Str)) (sql (by rw [← e2]; exact e)) ?_ ?_
  · rw [sum_ones, show (Str.ofString "").length = 0 by decide, Nat.mul_zero]; omega
  · rw [join_cs]
    exact q cs (by rw [List.length_map]) hP
theorem ofl_l (cs : List Nat) : (⟨cs.toArray⟩ : Str).cps.toList = cs := rfl
theorem ofl_len (cs : List Nat) : (⟨cs.toArray⟩ : Str).length = cs.length := by show cs.toArray.size = _; rw [List.size_toArray]
theorem one_l (c : Nat) : (⟨#[c]⟩ : Str).cps.toList = [c] := rfl
theorem str_ext {a b : Str} (h : a.cps.toList = b.cps.toList) : a = b := by
  cases a with | mk x => cases b with | mk y =>
  have : x = y := by
    apply Array.ext'
    exact h
  rw [this]
end CW
namespace CW
open PySem PySem.Spec PyProof.Rows L2
section
variable {X : Cx} {K : PySem.W.Frag} {H : Hp} {Q : VK} {a : Addr} {xs : List V}
/-- * of ints, of a text, of a list -/
def rTimesU : R2 := fun x y H Q => rTimes x y H Q ∨ rRep x y H Q
theorem op_timesU : OpR X (binaryOp .Mult) rTimesU := OpR.or op_times op_rep
theorem u_times_int {i j : Int} (h : CMul i j) (q : Q (.int (i * j)) H) : rTimesU (.int i) (.int j) H Q := .inl (v_times_int h q)
theorem u_times_str {z : Str} {n : Int} (h : 0 ≤ n ∧ n ≤ 1000 ∧ z.length ≤ 1000) (q : ∀ w : Str, w.length = z.length * n.toNat → Q (.str w) H) : rTimesU (.str z) (.int n) H Q := .inl (v_times_str h q)
theorem u_rep {n : Int} {ss : List Int} (e : H a = some (.lst (ss.map V.int))) (h0 : 0 ≤ n) (h1 : n ≤ 1000) (h2 : ss.length ≤ 1000) (q : ∀ p H', H p = none → Xt H H' → H' p = some (.lst ((List.replicate n.toNat ss).flatten.map V.int)) → Q (.ref p) H') : rTimesU (.ref a) (.int n) H Q := by
  refine .inr ⟨a, n, _, rfl, rfl, e, by omega, by omega, ?_, fun p hp => ?_⟩
  · rw [List.length_map]
    have : ss.length * n.toNat ≤ 1000 * 1000 := Nat.mul_le_mul h2 (by omega)
    exact szL (by omega)
  · have e2 : (List.replicate n.toNat (ss.map V.int)).flatten = (List.replicate n.toNat ss).flatten.map V.int := by
      rw [List.map_flatten, List.map_replicate]
    rw [e2]
    exact q p _ hp (xnew hp) upd_same
theorem flat_len (l : List Int) : ∀ n : Nat, (List.replicate n l).flatten.length = l.length * n
  | 0 => by simp
  | n + 1 => by rw [List.replicate_succ, List.flatten_cons, List.length_append, flat_len l n, Nat.mul_succ]; omega
theorem flat_at (l : List Int) : ∀ (n k j : Nat), k < n → j < l.length → (List.replicate n l).flatten[l.length * k + j]? = l[j]?
  | 0, _, _, h, _ => by omega
  | n + 1, 0, j, _, hj => by
    rw [List.replicate_succ, List.flatten_cons, Nat.mul_zero, Nat.zero_add, List.getElem?_append_left hj]
  | n + 1, k + 1, j, hk, hj => by
    rw [List.replicate_succ, List.flatten_cons, List.getElem?_append_right (by rw [Nat.mul_succ]; omega)]
    rw [show l.length * (k + 1) + j - l.length = l.length * k + j by rw [Nat.mul_succ]; omega]
    exact flat_at l n k j (by omega) hj
theorem flat_mem {l : List Int} {n : Nat} {x : Int} (h : x ∈ (List.replicate n l).flatten) : x ∈ l := by
  rw [List.mem_flatten] at h
  obtain ⟨m, hm, hx⟩ := h
  rw [List.mem_replicate] at hm
  rw [hm.2] at hx; exact hx
end
end CW

set_option Elab.async false
set_option linter.all false
set_option maxRecDepth 100000
set_option maxHeartbeats 1000000
/-! comprehensions over data with a test -/
namespace CW
open PySem PySem.Spec PyProof.Rows L2
section
variable {K : PySem.W.Frag} {σ : L2.St} {H : Hp} {Q : VK} {te : TE} {vs : List Nat} {Dl : Addr} {g : TG} {tt : TT} {xs : List V} {ds : List PyData} {J : It} {G : Hp → Prop}
theorem b_datF (w : Walk J xs.length G (YAt xs)) (hG : ∀ H', Xt H H' → G H') (hds : DpAll K H xs ds) (p : PyData → Bool) (f : PyData → PyData) (hf : ∀ d ∈ ds, Im (f d) = true) (hn : ds.length < 10000000)
    (body : ∀ v d H', Dp K H' v d → d ∈ ds → Xt H H' → ∀ (R : VK) (R0 : Hp → Prop), (p d = true → ∀ y H2, Xt H' H2 → Dp K H2 y (f d) → R y H2) → (p d = false → ∀ H2, Xt H' H2 → R0 H2) →
      g v (wipe σ vs) H' fun σ2 H2 => wipe σ2 vs = wipe σ vs ∧ tt σ2 H2 fun b H3 => if b = true then te σ2 H3 R else R0 H3)
    (k : ∀ Dl ys H2, H Dl = none → Xt H H2 → H2 Dl = some (.lst ys) → DpAll K H2 ys ((ds.filter p).map f) → Q (.ref Dl) H2) : LcB J g tt te vs σ Q H := fun Dl hD => by
  have hl := hds.len
  refine lc_it w (g := g) (tt := tt) (te := te) (σ := σ) (vs := vs) (fun i H' => Xt H H' ∧ ∃ ys, H' Dl = some (.lst ys) ∧ ys.length ≤ i ∧ DpAll K H' ys (((ds.take i).filter p).map f))
    ⟨xnew hD, [], upd_same, Nat.le_refl _, by rw [List.take_zero]; exact .nil⟩ (fun i H' _ p => hG H' p.1) (fun i x H' H2 hi q hy => ?_) (fun H' q => ?_)
  · obtain ⟨hx, ys, e, hyl, hys⟩ := q
    obtain ⟨rfl, hxi⟩ := hy
    obtain ⟨d, hd, hdp⟩ := DpAll.getV hds hxi
    have hmem : d ∈ ds := List.mem_of_getElem? hd
    have et : ds.take (i + 1) = ds.take i ++ [d] := by rw [List.take_add_one, hd]; rfl
    refine body x d H2 (Dp.mono hx hdp) hmem hx _ _ (fun hp y H4 x4 hy => ?_) (fun hp H4 x4 => ?_)
    · have e4 := x4 _ _ e
      have hys4 := DpAll.mono x4 hys
      refine ⟨ys, e4, szL2 (by omega), xmut (xtr hx x4) hD, ys ++ [y], upd_same, by rw [List.length_append, List.length_singleton]; omega, ?_⟩
      rw [et, List.filter_append, List.map_append]
      have e1 : [d].filter p = [d] := by rw [List.filter_cons, if_pos hp]; rfl
      rw [e1]
      have im1 : ImAll (((ds.take i).filter p).map f) = true := imAll_iff.mpr fun z hz => by
        obtain ⟨c, hc, rfl⟩ := List.mem_map.mp hz
        exact hf c (List.mem_of_mem_take ((List.mem_filter.mp hc).1))
      exact DpAll.app (DpAll.im (fun a zs h => SqT.upd e4 h) im1 hys4) (.cons (Dp.im (fun a zs h => SqT.upd e4 h) (hf d hmem) hy) .nil)
    · refine ⟨xtr hx x4, ys, x4 _ _ e, by omega, ?_⟩
      rw [et, List.filter_append, List.map_append]
      have e1 : [d].filter p = [] := by rw [List.filter_cons, if_neg (by rw [hp]; decide)]; rfl
      rw [e1, List.map_nil, List.append_nil]
      exact DpAll.mono x4 hys
  · obtain ⟨hx, ys, e, hyl, hys⟩ := q
    rw [List.take_of_length_le (by rw [hl]; exact Nat.le_refl _)] at hys
    exact k Dl ys H' hD hx e hys
end
theorem up_asc : ∀ cs : List Nat, (∀ c ∈ cs, c < 128) → ascS (Txt.upper ⟨cs.toArray⟩) = true ∧ (Txt.upper ⟨cs.toArray⟩).length = cs.length
  | [], _ => ⟨by decide +kernel, by decide +kernel⟩
  | c :: r, h => by
    have ih := up_asc r fun d hd => h d (List.mem_cons_of_mem _ hd)
    have hc := h c (List.mem_cons_self ..)
    have e : (⟨(c :: r).toArray⟩ : Str) = ⟨#[c]⟩ ++ ⟨r.toArray⟩ := str_ext (by rw [app_l]; rfl)
    rw [e, PySem.W.KOpn.upper_app, PySem.W.KOpn.upper_one hc]
    constructor
    · unfold ascS at ih ⊢
      rw [app_l, List.all_append, ih.1, Bool.and_true]
      show ((if 97 ≤ c ∧ c ≤ 122 then c - 32 else c) < 128 && true) = true
      rw [Bool.and_true]
      exact decide_eq_true (by split <;> omega)
    · rw [← len_l, app_l, List.length_append, len_l, len_l, ih.2, List.length_cons]
      show 1 + r.length = _
      omega
theorem upper_asc {z : Str} (h : ascS z = true) : ascS (Txt.upper z) = true ∧ (Txt.upper z).length = z.length := by
  have h2 : ∀ c ∈ z.cps.toList, c < 128 := fun c hc => of_decide_eq_true (List.all_eq_true.mp h c hc)
  have := up_asc z.cps.toList h2
  have e : (⟨z.cps.toList.toArray⟩ : Str) = z := str_ext rfl
  rw [e, len_l] at this
  exact this
end CW

set_option Elab.async false
set_option linter.all false
set_option maxRecDepth 100000
set_option maxHeartbeats 1000000
namespace CW
open PySem PySem.Spec PyProof.Rows L2
section
variable {K : PySem.W.Frag} {x qual : Str} {st : Stmt} {f : Addr} {fd : FuncData}
theorem fun_kbr {a b : Str} (F : Fun K x qual st f fd) (h : ∀ (kV doc pm : Value) (an : Option Addr) (cdv ct : Value) (u v : Value), bindArgs (PySem.W.fnOf x qual (defArgs st) (defBody st) (defScope st) .none kV doc pm an cdv ct) ⟨[], [(b, u), (a, v)]⟩ = pure [(a, v), (b, u)]) :
    KBn K fd [a, b] 0 [b, a] (fun _ ws => sw2 ws) (fun _ zs => sw2 zs) := by
  obtain ⟨oc, od, kV, doc, pm, an, cdv, ct, osl, rfl, lk, hcd⟩ := F.ex
  refine ⟨fun s us ws _ h0 h1 => ?_, fun {vs us zs ws} r1 r2 => ?_⟩
  · cases us with
    | cons _ _ => cases h0
    | nil =>
      match ws, h1 with
      | [u, v], _ => exact BindsTo.of_eq (h kV doc pm an cdv ct u v)
  · match zs, ws, r2 with
    | [], [], .nil => exact .nil
    | [_], [_], .cons h1 .nil => exact .cons h1 .nil
    | [_, _], [_, _], .cons h1 (.cons h2 .nil) => exact .cons h2 (.cons h1 .nil)
    | _ :: _ :: _ :: _, _ :: _ :: _ :: _, h => exact h
end
end CW

set_option Elab.async false
set_option linter.all false
set_option maxRecDepth 100000
set_option maxHeartbeats 2000000
/-! errors of the program: super().__init__(text) in an own __init__ over ValueError -/
namespace CW
open PySem PySem.Spec PyProof.Rows L2 PySem.W PySem.F PyProof.V PySem.Calls
/-- what the written part says of an __init__ at f, with the cell cc for __class__, of the class at C -/
structure SupK (K : PySem.W.Frag) (prog : Program) (C f cc cda : Addr) (fd : FuncData) : Prop where
  fn : ∃ oc od osl, K.lookup f = some ⟨oc, od, .func fd, osl⟩
  me : ∃ ar, (fd.params.posonlyargs ++ fd.params.args).head? = some ar ∧ ar.arg = "self"
  cod : ∃ ccl cdd vs ccs file tf, K.lookup cda = some ⟨ccl, cdd, .fields vs, ccs⟩ ∧ vs[2]? = some (.str file tf) ∧ ((prog.main.file : Str) == file) = true
  cel : ∃ cl cld csl, K.lookup cc = some ⟨cl, cld, .cell (some (.ref C)), csl⟩
  cls : ∃ cd, clsIn K C = some cd ∧ alongIn K "__init__" ((cd.mro.dropWhile (· != .ref C)).drop 1) = some (some (.builtin "ValueError.__init__"))
  sub : mroIn K C (.ref C) = some true
  ve : subIn K (.ref C) (.type "ValueError") = some true
  op : nsIn K cStatics "thirdparty.any" = some none
  top : (prog.main.scope.names.lookup ("super" : Str)).isSome = false
section
variable {X : Cx} {pins : List (Addr × Obj)} {σ : L2.St} {H : Hp} {s : Shared} {body : List Stmt} {p0 p1 p2 p3 p4 : Pos} {fe : Expr} {te : TA} {i : Nat} {a C f cc cda : Addr} {fd : FuncData}
theorem sup_stmt {Post : Hp → Prop} (S : SupK X.K X.prog C f cc cda fd) (T : OexC X.K C) (hks : Gl X "super") (hmg : X.mg "super" = none) (hkc : X.env.kindOf "__class__" = some .free) (hfu : X.env.func = some f) (hco : X.env.code = .ref cda)
    (hcl : X.env.cells.lookup ("__class__" : Str) = some cc) (hN : X.N[i]? = some ("self" : Str)) (hka : X.env.kindOf "self" = some .local) (hσ : σ[i]? = some (some (.ref a))) (hfe : PA X [fe] te) (he : starEach [fe] X.env = [(false, eval fe X.env)])
    (hi : interactive X.env = false) (hsw : swapsWith (.Call (.Attribute (.Call (.Name "super" p0) [] [] p1) "__init__" p2) [fe] [] p3) none p4.line X.env = pure false)
    {pl : Sem Bool} (hev : eval (.Call (.Attribute (.Call (.Name "super" p0) [] [] p1) "__init__" p2) [fe] [] p3) X.env = (do
      let ov ← attributeBase (.Call (.Name "super" p0) [] [] p1) "__init__" X.env (eval (.Call (.Name "super" p0) [] [] p1) X.env)
      standAt p2.atName
      let (f, first) ← holding [ov] (getMethod ov "__init__" pl)
      callWith p3 f first (backTo p3 (starEach [fe] X.env)) []))
    (I : L2.Inv X pins σ H s) (ha : H a = some (exo a C none)) (hv : te σ H fun vs H1 => vs.length ≤ 1000 ∧ H1 a = some (exo a C none) ∧ Post H1) :
    PySem.wpAt (model X.prog X.w) X.A (.func body X.env) (exec (.Expr (.Call (.Attribute (.Call (.Name "super" p0) [] [] p1) "__init__" p2) [fe] [] p3) p4) X.env) (fun fl s' => fl = .next ∧ ∃ H1, L2.Inv X pins σ H1 s' ∧ Post H1) X.xe s := by
  obtain ⟨oc, od, osl, hf⟩ := S.fn
  obtain ⟨ar, hme, har⟩ := S.me
  obtain ⟨ccl, cdd, vs, ccs, file, tf, hcod, hvs, hfile⟩ := S.cod
  obtain ⟨cl, cld, csl, hcel⟩ := S.cel
  obtain ⟨cd, hcd, hal⟩ := S.cls
  have KX := I.kIn
  obtain ⟨mb, hbn, hbx⟩ := I.ok.mod.blt
  obtain ⟨m, hns, hloc⟩ := I.loc
  obtain ⟨u, ru, hlook⟩ := hloc i "self" (.ref a) hN hσ (.inl hka)
  obtain rfl : u = Value.ref a := ru
  have hm : m "self" = some (.ref a) := by
    rcases hlook with h | ⟨h | h, _⟩
    · exact h.2
    · rw [hka] at h; cases h
    · rw [hka] at h; cases h
  obtain ⟨oD, hD1, hD2⟩ : ∃ oD, s.heap.get? C = some oD ∧ oD.data = .cls cd := by
    have h := hcd
    unfold clsIn at h
    split at h
    · rename_i c d cd' sl ho
      cases h
      exact ⟨_, KX _ _ ho, rfl⟩
    · cases h
  obtain ⟨t1, hox⟩ := exo_at I.hok ha
  refine ks_wpAt_Expr_any ?_ hi hsw
  refine ks_wpAt_MethodCall ?_ hev
  refine ks_wpAt_super_base hks hkc (by decide) hfu (KX _ _ hf) rfl hme hco (KX _ _ hcod) rfl hvs hfile S.top ?_
  refine ks_loadName_global I.ok.kind hks (loadGlobal_builtin (mg := X.mg) (mb := mb) (by rw [I.ok.glob]; exact I.ok.mod.glob.keeps I.bk) hmg (by rw [I.ok.blt]; exact hbn.keeps I.bk) ((hbx "super" (by decide)).trans (show bootBuiltins "super" = some (.type "super") by decide +kernel)) ⟨rfl, ?_⟩)
  refine wpAny_loadName_free I.ok.kind hkc hcl ⟨_, KX _ _ hcel, rfl⟩ ?_ (by decide)
  rw [har]
  refine wpAny_loadName_local I.ok.kind hka hns hm ?_
  refine ks_wpAny_isType_cls hD1 hD2 ⟨rfl, ?_⟩
  obtain ⟨hh, g, d, t, os⟩ := s
  refine ks_wpAny_call_super hD1 hD2 hox rfl (fun c e => by cases e) (looks_mroIn KX S.sub) (fun h1 e1 k1 => ?_)
  have I1 : L2.Inv X pins σ H ⟨h1, g, d, t, os⟩ := I.kept (t' := t) k1
  have K1 := I1.kIn
  have hox1 := k1 _ _ hox
  have ia : PySem.W.InstAt h1 a _ C none := ⟨hox1, rfl, rfl, trivial⟩
  refine kxs_getMethod kxs_ValueError e1 (looks_opaque K1 S.op) (l₀ := cd.mro) (fun A Q E s k q => wpAny_bind ((looks_clsIn K1 hcd) A _ E s k (wpAny_pure q))) rfl K1 hal (ia.type.andThen (looks_subIn K1 S.ve)) (ks_ne K1 ia hcd) (by decide) ?_
  have hu : (h1.push (kxs_mw "ValueError.__init__" a)).get? h1.objs.size = some (kxs_mw "ValueError.__init__" a) := Heap.get?_push_size _ rfl
  have I2 : L2.Inv X pins σ H ⟨h1.push (kxs_mw "ValueError.__init__" a), g, d, t + 1, os⟩ := I1.kept (t' := t + 1) fun b o e => Heap.get?_push_of_some _ e
  have I3 : L2.Inv X ((h1.objs.size, kxs_mw "ValueError.__init__" a) :: pins) σ H ⟨h1.push (kxs_mw "ValueError.__init__" a), g, d, t + 1, os⟩ := by
    refine I2.pins_of fun p hp => ?_
    rcases List.mem_cons.mp hp with rfl | hp
    · exact ⟨hu, I1.hok.fresh (Nat.le_refl _), fun z => absurd I1.lt (by show ¬ X.env.locals < h1.objs.size; rw [← z]; exact Nat.lt_irrefl _), I1.nofs (Nat.le_refl _), fun v e => by cases e⟩
    · exact I2.pin p (List.mem_append_right _ hp)
  have hrun := hfe.run p3 _ _ σ H _ I3 hv
  rw [he] at hrun ⊢
  refine kxs_callWith (i := "ValueError.__init__") (x := a) rfl (evalArgs_plain (thn hrun fun us s1 ⟨vs, H1, J, rv, hvl, ha1, hp⟩ => ?_))
  have hu1 := (J.pin _ (List.mem_append_right _ (List.mem_cons_self ..))).1
  refine ⟨hu1, ?_⟩
  have J1 : L2.Inv X pins σ H1 s1 := J.pins_of fun p hp => J.pin p (List.mem_append_right _ (List.mem_cons_of_mem _ hp))
  obtain ⟨nm, q, N, bs, bm, sn, sub, ab, col, dd, k0, k1', k2, k3, k5, hC, hbm⟩ := T.cls
  obtain ⟨t2, ho⟩ := exo_at J1.hok ha1
  obtain ⟨hp1, g1, d1, tk1, os1⟩ := s1
  have hlen : us.length ≤ sizeLine := by
    rw [← Paired.length rv, sizeLine_eq]
    omega
  refine wpAny_call (codeAny_of_tree ?_)
  show wpAny _ _ (callAny (.ref h1.objs.size) ⟨us, []⟩) _ _ _
  unfold callAny
  refine wpAny_bind (wpAny_load hu1 ?_)
  dsimp only
  refine KFB.if_so (by decide) ?_
  refine KFB.if_so (by decide) ?_
  refine wpAny_bind (check_bound_init F.excBase_ValueError.toExcCallFacts (J1.kIn _ _ hC) ho rfl ?_)
  refine wpAny_bind (wpAny_pure (wpAny_pure ?_))
  refine ⟨plainId_quiet (by decide +kernel) _, codeAny_builtin F.excBase_ValueError.initEntry ?_⟩
  refine exc_init_tree (cls := .ref C) (t0 := t2) (dv := none) (c2 := .none) (c3 := .none) (b4 := .bool false) ho hlen (fun h' k hx _ => ?_)
  have J2 := J1.write (t' := tk1) (x := a) (e := a) (o := exo a C none) (by rw [ha1]; exact True.intro) (.inl rfl) k ⟨_, hx⟩ (exo_ok hx)
  have eu : upd H1 a (exo a C none) = H1 := funext fun b => by
    by_cases hb : b = a
    · rw [hb, upd_same, ha1]
    · rw [upd_ne hb]
  rw [eu] at J2
  exact ⟨rfl, H1, J2, hp⟩
end
end CW

set_option Elab.async false
set_option linter.all false
set_option maxRecDepth 100000
set_option maxHeartbeats 2000000
namespace CW
open PySem PySem.Spec PyProof.Rows L2 NdefX PySem.W PySem.F PyProof.V PySem.Calls
section
variable {P : Program} {w : World} {K : PySem.W.Frag} {mg : Str → Option Value} {base : Heap} {CX : CXT} {C f cc cda : Addr} {name qual x : Str} {params : Arguments} {scope : Scope} {dV kV doc pm ctv : Value} {an : Option Addr} {N : List Str} {k : Nat} {p0 p1 p2 p3 p4 : Pos} {fe : Expr} {s2 : Stmt} {body : List Stmt}
abbrev errNF (name qual : Str) (params : Arguments) (body : List Stmt) (scope : Scope) (cc cda : Addr) : NF := ⟨name, qual, params, body, scope, [("__class__", cc)], cda⟩
theorem err_fn {ta : TA} {ts : TS} {sp : Sp} (S : SupK K P C f cc cda (fnX name qual params body scope [("__class__", cc)] dV kV doc pm an (.ref cda) ctv)) (T : OexC K C) (hmg : mg "super" = none)
    (NS : NScope N ["self", x] ["__class__"] scope) (hks : scope.names.lookup ("super" : Str) = some .globalImplicit) (hcode : codeIn K (.ref cda) qual = true)
    (hbody : body = [.Expr (.Call (.Attribute (.Call (.Name "super" p0) [] [] p1) "__init__" p2) [fe] [] p3) p4, s2])
    (hfe : ∀ A outer s H E, Room k (A.deeper (envF (errNF name qual params body scope cc cda) f s.heap.objs.size)) → PA (ncx CX P w K mg base N (errNF name qual params body scope cc cda) f A outer s H E) [fe] ta)
    (hs2 : ∀ A outer s H E, Room k (A.deeper (envF (errNF name qual params body scope cc cda) f s.heap.objs.size)) → PSs (ncx CX P w K mg base N (errNF name qual params body scope cc cda) f A outer s H E) [s2] ts)
    (hst : ∀ env : Env, starEach [fe] env = [(false, eval fe env)]) (hi : ∀ L, interactive (envF (errNF name qual params body scope cc cda) f L) = false)
    (hsw : ∀ L, swapsWith (.Call (.Attribute (.Call (.Name "super" p0) [] [] p1) "__init__" p2) [fe] [] p3) none p4.line (envF (errNF name qual params body scope cc cda) f L) = pure false)
    {pl : Env → Sem Bool} (hev : ∀ env : Env, eval (.Call (.Attribute (.Call (.Name "super" p0) [] [] p1) "__init__" p2) [fe] [] p3) env = (do
      let ov ← attributeBase (.Call (.Name "super" p0) [] [] p1) "__init__" env (eval (.Call (.Name "super" p0) [] [] p1) env)
      standAt p2.atName
      let (f, first) ← holding [ov] (getMethod ov "__init__" (pl env))
      callWith p3 f first (backTo p3 (starEach [fe] env)) []))
    (len : ∀ vs H Q E, sp vs H Q E → vs.length = 2)
    (hsp : ∀ vs H Q E, sp vs H Q E → ∃ a y, vs = [.ref a, y] ∧ H a = some (exo a C none) ∧ ta (startF N vs [none]) H fun ws H1 => ws.length ≤ 1000 ∧ H1 a = some (exo a C none) ∧ ts { nx := fun _ H' => Q .non H', rt := Q } (startF N vs [none]) H1) :
    FnOk P w K mg base CX (k + 1) f (fnX name qual params body scope [("__class__", cc)] dV kV doc pm an (.ref cda) ctv) ["self", x] sp := by
  refine ⟨len, fun A outer s H args us vs Q E hr e0 hb rv hq => ?_⟩
  obtain ⟨oc, od, osl, hf⟩ := S.fn
  obtain ⟨cl, cld, csl, hcel⟩ := S.cel
  have bk : ∀ b o, base.get? b = some o → s.heap.get? b = some o := fun b o e => (e0.bs b o e).1
  have KX : K.In s.heap := e0.mod.kin.keeps bk
  have lim : s.heap.NoLimit := e0.mod.nolimit.keeps bk
  obtain ⟨a, y, rfl, ha, hta⟩ := hsp vs H Q E hq
  have hpar : ∀ z ∈ (["self", x] : List Str).zip us, scope.names.lookup z.1 = some .local := fun ⟨n, _⟩ hy => NS.par n (List.of_mem_zip hy).1
  have Ce : CellsAt [(("__class__" : Str), cc)] ["__class__"] [none] s.heap H := by
    refine ⟨rfl, fun y c e => ?_, fun x y c e1 e2 => ?_, fun i y e => ?_⟩
    · have hc : c = cc := by
        rw [List.lookup_cons] at e
        split at e
        · exact (Option.some.inj e).symm
        · cases e
      subst hc
      exact ⟨(e0.bs _ _ (e0.mod.kin _ _ hcel)).2, _, _, KX _ _ hcel, rfl⟩
    · have h1 : x = "__class__" := by
        rw [List.lookup_cons] at e1
        split at e1
        · rename_i h; exact eq_of_beq h
        · cases e1
      have h2 : y = "__class__" := by
        rw [List.lookup_cons] at e2
        split at e2
        · rename_i h; exact eq_of_beq h
        · cases e2
      rw [h1, h2]
    · match i, e with
      | 0, e =>
        cases e
        exact ⟨cc, rfl, fun v e => by cases e⟩
  refine ks_codeAny_call_defAt (fd := fnX name qual params body scope [("__class__", cc)] dV kV doc pm an (.ref cda) ctv) (body := body) (binds := (["self", x] : List Str).zip us) hr.depth (KX _ _ hf) rfl lim (codeRec_of KX hcode) rfl hb NS.nocell hpar (fun h₁ hns kp => ?_) NS.co NS.gen NS.kind
  have I : L2.Inv (ncx CX P w K mg base N (errNF name qual params body scope cc cda) f A outer s H E) [] (startF N [.ref a, y] [none]) H { s with heap := h₁, toks := s.toks + ((["self", x] : List Str).zip us).length } := inv_startN NS hr.hd e0 rfl rv Ce hns kp
  subst hbody
  have h1 := sup_stmt (X := ncx CX P w K mg base N (errNF name qual params [.Expr (.Call (.Attribute (.Call (.Name "super" p0) [] [] p1) "__init__" p2) [fe] [] p3) p4, s2] scope cc cda) f A outer s H E)
    (body := [.Expr (.Call (.Attribute (.Call (.Name "super" p0) [] [] p1) "__init__" p2) [fe] [] p3) p4, s2]) (i := 0) (pins := []) (σ := startF N [.ref a, y] [none]) (H := H) (a := a) S T hks hmg ?hkc rfl rfl rfl ?hN (NS.par "self" (List.mem_cons_self ..)) rfl (hfe A outer s H E (hr.deeper _)) (hst _) (hi _) (hsw _) (hev _) I ha hta
  case hkc => exact NS.frk "__class__" (List.mem_cons_self ..)
  case hN =>
    have h := congrArg (fun l : List Str => l[0]?) NS.pre
    have h2 : (N.take ((["self", x] : List Str).length + (["__class__"] : List Str).length))[0]? = N[0]? := List.getElem?_take_of_lt (Nat.succ_pos _)
    exact h2.symm.trans h
  refine ks_wpAt_execs_cons (PySem.wpAt_mono h1 (fun fl s' ⟨e, H1, J, hp⟩ => ?_) fun e s' h => h)
  subst e
  refine PySem.wpAt_of_wpAny (wpAny_mono ((hs2 A outer s H E (hr.deeper _)).run [] s' _ H1 _ J hp) (fun fl s'' hs => ?_) fun e s' h => h)
  cases fl with
  | ret u =>
    obtain ⟨v, σ', H', J', rv', q⟩ := hs
    exact ⟨v, H', J'.os, J'.bare, J'.base, J'.hok, rv', q⟩
  | next =>
    obtain ⟨σ', H', J', q⟩ := hs
    exact ⟨V.non, H', J'.os, J'.bare, J'.base, J'.hok, rfl, q⟩
  | brk =>
    obtain ⟨_, _, _, q⟩ := hs
    exact False.elim q
  | cont =>
    obtain ⟨_, _, _, q⟩ := hs
    exact False.elim q
end
end CW

set_option Elab.async false
set_option linter.all false
set_option maxRecDepth 100000
set_option maxHeartbeats 2000000
namespace CW
open PySem PySem.Spec PyProof.Rows L2 NdefX PySem.W
/-- a value whose text can be told in an error's words: a text of signs below 128, or a small number -/
def RepV (y : V) : Prop := (∃ z : Str, y = .str z ∧ ascS z = true ∧ z.length ≤ 100000) ∨ ∃ i : Int, y = .int i ∧ i.natAbs.log2 < 1920
/-- an own __init__ of an error keeps this: the one field is set -/
def spErr (C : Addr) (fld : Str) : Sp := fun vs H Q _ => ∃ a y, vs = [.ref a, y] ∧ H a = some (exo a C none) ∧ RepV y ∧ ∀ dx, H dx = none → dx ≠ a → Q .non (upd (upd H dx (exd dx [(fld, y)])) a (exo a C (some dx)))
def taErr (pre : Str) : TA := tCons (fun σ H Q => tJs [tC (.str pre), tFmtR (tVar 1)] Str.empty σ H fun out H1 => Q (.str out) H1) tNil
theorem int_text {i : Int} (h : i.natAbs.log2 < 1920) : (Str.ofString (toString i)).length ≤ 100000 := by
  have h1 := int_text_length_le (by decide) h
  rw [PySem.ofString_length]
  omega
theorem err_read {K : PySem.W.Frag} {C : Addr} {fld pre x : Str} (T : OexC K C) (hno : findIn K (.ref C) fld = some none) (hpre : pre.length ≤ 100) {vs : List V} {H : Hp} {Q : VK} {E : XK} (h : spErr C fld vs H Q E) :
    ∃ a y, vs = [.ref a, y] ∧ H a = some (exo a C none) ∧ taErr pre (startF ["self", x, "__class__"] vs [none]) H fun ws H1 => ws.length ≤ 1000 ∧ H1 a = some (exo a C none) ∧ tOst K fld (tVar 0) (tVar 1) { nx := fun _ H' => Q .non H', rt := Q } (startF ["self", x, "__class__"] vs [none]) H1 := by
  obtain ⟨a, y, rfl, ha, hy, q⟩ := h
  refine ⟨a, y, rfl, ha, ?_⟩
  have fin : tOst K fld (tVar 0) (tVar 1) { nx := fun _ H' => Q .non H', rt := Q } (startF ["self", x, "__class__"] [.ref a, y] [none]) H :=
    ⟨y, rfl, .ref a, rfl, a, C, rfl, T, hno, .inl ⟨ha, q⟩⟩
  have e0 : Str.length (Str.empty ++ pre) = pre.length := by rw [len_app]; show 0 + _ = _; omega
  refine ⟨pre, rfl, by rw [e0, sizeLine_eq]; omega, y, rfl, ?_⟩
  rcases hy with ⟨z, rfl, hz, hl⟩ | ⟨i, rfl, hi⟩
  · have hr := StrLaws.reprText_len z fun c hc => Nat.lt_trans (of_decide_eq_true (List.all_eq_true.mp hz c hc)) (by decide)
    refine .inl ⟨z, rfl, by rw [sizeLine_eq]; omega, _, rfl, ?_, ?_⟩
    · rw [len_app, e0, sizeLine_eq]; omega
    · exact ⟨by show 1 ≤ 1000; omega, ha, fin⟩
  · have hr := int_text hi
    refine .inr ⟨i, rfl, hi, _, rfl, ?_, ?_⟩
    · rw [len_app, e0, sizeLine_eq]; exact Nat.le_trans (Nat.add_le_add_left hr _) (by omega)
    · exact ⟨by show 1 ≤ 1000; omega, ha, fin⟩
end CW

set_option Elab.async false
set_option linter.all false
set_option maxRecDepth 100000
set_option maxHeartbeats 2000000
/-! errors of the program held as values: made, their fields read, asked by isinstance -/
namespace CW
open PySem PySem.Spec PyProof.Rows L2 PySem.W PySem.F PyProof.V PySem.Calls
/-- C(e, ..) as a value, C's own __init__ keeping sp -/
def tMkX (C : Addr) (sp : Sp) (ta : TA) : TE := fun σ H Q => ta σ H fun vs H1 => vs.length ≤ 1000 ∧ ∀ a, H1 a = none → sp (.ref a :: vs) (upd H1 a (exo a C none)) (fun v H2 => v = .non ∧ Q (.ref a) H2) (fun _ _ _ => False)
/-- C() as a value, C without own __init__ -/
def tMkP (C : Addr) : TE := fun _ H Q => ∀ a, H a = none → Q (.ref a) (upd H a (ExO (.ref C) a))
/-- an error of the class C stands at a -/
def ErrAt (H : Hp) (a C : Addr) : Prop := (∃ d fs, H a = some (exo a C (some d)) ∧ H d = some (exd d fs)) ∨ H a = some (ExO (.ref C) a)
/-- e.f of an error held as a value -/
def tXv (K : PySem.W.Frag) (f : Str) (te : TE) : TE := fun σ H Q => te σ H fun x H1 => ∃ (a C d : Addr) (fs : List (Str × V)) (v : V), x = .ref a ∧ XfC K C ∧ PySem.W.findIn K (.ref C) f = some none ∧ H1 a = some (exo a C (some d)) ∧ H1 d = some (exd d fs) ∧ fs.lookup f = some v ∧ Q v H1
/-- isinstance(e, c) of an error held as a value -/
def rIsV (K : PySem.W.Frag) : List V → Hp → VK → Prop := fun xs H Q => ∃ (a D : Addr) (c : V) (cv : Value) (b : Bool), xs = [.ref a, c] ∧ ErrAt H a D ∧ ExcC K D ∧ (∀ u, RelV c u → u = cv) ∧ PySem.W.kitOne K (.ref D) cv = some b ∧ Q (.bl b) H
section
variable {X : Cx} {e : Expr} {es : List Expr} {te : TE} {ta : TA} {p pos : Pos}
theorem exO_at {P : Program} {w : World} {H : Hp} {h : Heap} {a : Addr} {cls : Value} (hok : HOk P w H h) (he : H a = some (ExO cls a)) : ∃ (oe : Obj) (vs : Array Value), h.get? a = some oe ∧ Zc cls none oe ∧ oe.data = .fields vs := by
  have x : ObjOk P w H h a (.ext fun h => ∃ (oe : Obj) (vs : Array Value), h.get? a = some oe ∧ Zc cls none oe ∧ oe.data = .fields vs ∧ vs[1]? = some .none ∧ vs[2]? = some .none ∧ 4 < vs.size) := hok a _ he
  obtain ⟨oe, vs, h1, h2, h3, _⟩ := x.1
  exact ⟨oe, vs, h1, h2, h3⟩
theorem pe_mkx {CX : CXT} {x : Str} {C fI : Addr} {k : Nat} {fd : FuncData} {ps : List Str} {sp : Sp} (T : OexC X.K C) (iC : PySem.W.findIn X.K (.ref C) "__init__" = some (some (.ref fI))) (tI : PySem.W.typeIn X.K (.ref fI) = some (.type "function"))
    (F1 : FnOk X.prog X.w X.K X.mg X.base CX k fI fd ps sp) (hr : Room (k + 1) X.A) (hb : Binds X.K fd ps []) (hx : Passes CX X (fun _ _ _ => False)) (hg : Gl X x) (hm : X.mg x = some (.ref C)) (ha : PA X (e :: es) ta)
    (hdb : (x == ("__debug__" : Str)) = false := by decide) (he : starEach (e :: es) X.env = (false, eval e X.env) :: starEach es X.env := by rfl) (hpl : (backTo pos (starEach es X.env)).any (·.1) = false := by rfl) :
    PE X (.Call (.Name x p) (e :: es) [] pos) (tMkX C sp ta) := by
  refine ⟨fun pins s σ H Q I h => ?_⟩
  obtain ⟨nm, q, N, bs, bm, sn, sub, ab, col, dd, k0, k1, k2, k3, k5, hC, hbm⟩ := T.cls
  refine wpAny_Call_Name_kw (ld_glob I hg hm ?_ hdb)
  refine PySem.W.callWith_K (h₀ := X.base) I.ok.mod.kin T.kC (thn (ha.run pos pins s σ H _ I h) fun us s1 ⟨vs, H1, I1, r1, hz, q1⟩ => ⟨I1.kIn, ?_⟩) he hpl
  show wpAny _ _ (call (.ref C) us) _ _ _
  obtain ⟨hp, g, dr, tk, os⟩ := s1
  have hsz : hp.objs.size ≤ hp.objs.size + 1 := Nat.le_succ _
  have hn : H1 (hp.objs.size + 1) = none := I1.hok.fresh hsz
  have hq := q1 (hp.objs.size + 1) hn
  have kk : ∀ b o, hp.get? b = some o → ((hp.push (PySem.W.kdv_tup us)).push (PySem.HandSPX.excO C hp.objs.size)).get? b = some o := fun b o e => Heap.get?_push_of_some _ (Heap.get?_push_of_some _ e)
  have hget : ((hp.push (PySem.W.kdv_tup us)).push (PySem.HandSPX.excO C hp.objs.size)).get? (hp.objs.size + 1) = some (PySem.HandSPX.excO C hp.objs.size) := by heap_get
  have I2 : L2.Inv X pins σ (upd H1 (hp.objs.size + 1) (exo (hp.objs.size + 1) C none)) ⟨(hp.push (PySem.W.kdv_tup us)).push (PySem.HandSPX.excO C hp.objs.size), g, dr, tk, os⟩ :=
    I1.laid (t' := tk) (a := hp.objs.size + 1) (o := exo (hp.objs.size + 1) C none) (h' := (hp.push (PySem.W.kdv_tup us)).push (PySem.HandSPX.excO C hp.objs.size)) kk hsz (exo_ok hget)
  have r2 : Vals (V.ref (hp.objs.size + 1) :: vs) (Value.ref (hp.objs.size + 1) :: us) := .cons rfl r1
  have hl : (Value.ref (hp.objs.size + 1) :: us ++ []).length = ps.length := by
    rw [List.append_nil]
    have e := r2.length
    rw [F1.len _ _ _ _ hq] at e
    exact e.symm
  have hus : us.length ≤ sizeLine := by
    rw [← Paired.length r1, sizeLine_eq]
    omega
  refine wpAny_call (PySem.HandSPX.call_own F.excBase_ValueError (fun Y => PySem.HandSPX.refsVE_contains Y bm hbm) (I1.kIn _ _ hC) (PySem.W.looks_findIn I1.kIn iC) (fun self => PySem.W.bind_fn I1.kIn self tI) hus
    (codeAny_mono (F1.run _ X.stack _ _ ⟨Value.ref (hp.objs.size + 1) :: us, []⟩ (Value.ref (hp.objs.size + 1) :: us) _ _ (fun _ _ _ => False) (hr.make C us []) (I2.env0.make C us []) (by have h2 := hb _ (Value.ref (hp.objs.size + 1) :: us) I2.kIn hl; rw [List.append_nil] at h2; exact h2) r2 hq) fun r s' hq' => ?_))
  cases r with
  | error er => exact hx pins σ _ _ er s' I2 hq'
  | ok fl =>
    cases fl with
    | ret u =>
      obtain ⟨v, H2, os2, bare2, un2, hok2, rv, ev, q2⟩ := hq'
      subst ev
      obtain ⟨h2, g2, d2, t2, os'⟩ := s'
      exact ⟨rv, .ref (hp.objs.size + 1), H2, I2.call' (ch := []) os2 un2 hok2 bare2 (fun b z => absurd z (by simp)), rfl, q2⟩
    | next => exact False.elim hq'
    | brk => exact False.elim hq'
    | cont => exact False.elim hq'
theorem pe_mkp {C : Addr} {bmB : List Value} {B newId initId : String} {x : Str} (F : ExcBaseFacts B newId initId bmB) (q : PySem.W.excIn X.K C bmB newId = true) (gC : X.mg x = some (.ref C)) (kC : PySem.W.keepIn X.K (.ref C) = true) (hg : Gl X x)
    (hdb : (x == ("__debug__" : Str)) = false := by decide) : PE X (.Call (.Name x p) [] [] pos) (tMkP C) := by
  refine ⟨fun pins s σ H Q I h => ?_⟩
  refine wpAny_Call_Name_kw (ld_glob I hg gC ?_ hdb)
  refine PySem.W.callWith_K0 I.kIn kC ?_
  show wpAny _ _ (call (.ref C) []) _ _ _
  obtain ⟨bm, N, nm, qn, bs, hdct, sn, sub, ab, col, dd, k0, k1, k2, k3, k5, mN, hC, hN, hni, T⟩ := exc_obj I.kIn q
  refine wpAny_call_exc_subT F T hC hN hni (fun h' a hm => ?_) (by show 0 ≤ sizeLine; exact Nat.zero_le _)
  have hn : H a = none := I.hok.gone hm.new
  obtain ⟨t, ht, _, _⟩ := hm.there
  exact ⟨.ref a, upd H a (ExO (.ref C) a), I.laidN hm.keeps hm.new hn (exO_ok ht ⟨rfl, rfl⟩ rfl rfl rfl (show 4 < 6 by decide)), rfl, h a hn⟩
theorem pe_xv {n : Str} (he : PE X e te) (hb : attributeBase e n X.env (eval e X.env) = eval e X.env := by rfl) : PE X (.Attribute e n pos) (tXv X.K n te) := by
  refine ⟨fun pins s σ H Q I h => ?_⟩
  refine attr_of hb (thn (he.run pins s σ H _ I h) fun u s1 hh => ?_)
  obtain ⟨x, H1, I1, rx, a, C, dd, fs, v, ex, T, hno, ha, ed, l, q⟩ := hh
  subst ex
  obtain rfl : u = Value.ref a := rx
  obtain ⟨t1, hao⟩ := exo_at I1.hok ha
  obtain ⟨mA, hns, hr⟩ := exd_at I1.hok ed
  obtain ⟨od, ho, hl⟩ := lookIn_ns hns
  obtain ⟨u, hu, ru⟩ := RelO.some_of (v := v) (o := mA n) (by rw [← l]; exact hr n)
  have J : PySem.W.InstAt s1.heap a { cls := .ref C, dict := some dd, data := .fields #[.ref t1, .none, .none, .none, .bool false, .none] } C (some od) := ⟨hao, rfl, rfl, ho⟩
  exact HandSPX.exc_get I1.kIn J T.ga T.gg T.exC (PySem.W.findObj_own T.hdC hno rfl (by rw [hl, hu])) (handed_of ru) ⟨v, H1, I1.tok _, ru, q⟩
theorem call_isV : CallR X (.builtin "isinstance") (rIsV X.K) := by
  intro pins s σ H xs us Q I r h
  obtain ⟨a, D, c, cv, b, rfl, hE, C, hcv, e, q⟩ := h
  cases r with
  | cons rx rr =>
    cases rr with
    | cons rt rr =>
      cases rr
      cases rx
      have ec := hcv _ rt
      subst ec
      have hcl : (PySem.W.clsIn X.K D).isSome = true := by
        obtain ⟨cdD, hcD, _⟩ := PySem.W.any_some C.hd
        rw [hcD]
        rfl
      rcases hE with ⟨dd, fs, ha, hdd⟩ | ha
      · obtain ⟨t1, hao⟩ := exo_at I.hok ha
        obtain ⟨mA, hns, hr⟩ := exd_at I.hok hdd
        obtain ⟨od, es, ep, ho, _⟩ := hns
        have J : PySem.W.InstAt s.heap a { cls := .ref D, dict := some dd, data := .fields #[.ref t1, .none, .none, .none, .bool false, .none] } D (some od) := ⟨hao, rfl, rfl, ho⟩
        exact PySem.W.kia_one (PySem.W.kitx_exc hcl C.hg C.hk C.hs C.ha C.hn C.ht C.hm) I.kIn J e (fun z => nomatch z) fun tk => ⟨.bl b, H, I.kept (t' := tk) fun _ _ z => z, rfl, q⟩
      · obtain ⟨oe, vs, hao, hz, hv⟩ := exO_at I.hok ha
        have J : PySem.W.InstAt s.heap a oe D none := by
          obtain ⟨oc, od, oda, osl⟩ := oe
          obtain ⟨h1, h2⟩ := hz
          dsimp only at h1 h2 hv
          subst h1 h2 hv
          exact ⟨hao, rfl, rfl, trivial⟩
        exact PySem.W.kia_one (PySem.W.kitx_exc hcl C.hg C.hk C.hs C.ha C.hn C.ht C.hm) I.kIn J e (fun z => nomatch z) fun tk => ⟨.bl b, H, I.kept (t' := tk) fun _ _ z => z, rfl, q⟩
end
end CW

set_option Elab.async false
set_option linter.all false
set_option maxRecDepth 100000
set_option maxHeartbeats 2000000
/-! calls that may raise: C(e, ..) and o.m(e, ..); in the suite: isinstance and the fields of the error that it holds -/
namespace CW
open PySem PySem.Spec PyProof.Rows L2 PySem.W PySem.F PyProof.V PySem.Calls
section
variable {X : Cx} {CX : CXT} {k : Nat} {f C : Addr} {fd : FuncData} {ps : List Str} {sp : Sp} {E : L2.St → XK} {x m : Str} {p pos apos : Pos} {e o : Expr} {es : List Expr} {ta : TE} {t : TA}
theorem run_makeX {pins : List (Addr × Obj)} {σ : L2.St} {H : Hp} {s : Shared} {Q : VK} {us : List Value} {vs : List V} (M : L2.Mk X.K C f) (F : FnOk X.prog X.w X.K X.mg X.base CX k f fd ps sp) (hr : Room (k + 1) X.A) (hb : Binds X.K fd ps [])
    (hx : PassesAt CX X σ (E σ)) (I : L2.Inv X pins σ H s) (r : Vals vs us)
    (h : ∀ x dx, H x = none → H dx = none → dx ≠ x → sp (.ref x :: vs) (upd (upd H dx (.own x)) x (.ins C dx [])) (fun v H2 => v = .non ∧ Q (.ref x) H2) (E σ)) :
    wpAny (model X.prog X.w) X.A (call (.ref C) us) (EP X pins σ Q) X.xe s := by
  have hq := h (s.heap.objs.size + 1) s.heap.objs.size (I.hok.fresh (Nat.le_succ _)) (I.hok.fresh (Nat.le_refl _)) (Nat.ne_of_lt (Nat.lt_succ_self _))
  have I2 := Inv.made (C := C) I
  have r2 : Vals (V.ref (s.heap.objs.size + 1) :: vs) (Value.ref (s.heap.objs.size + 1) :: us) := .cons rfl r
  have hl : (Value.ref (s.heap.objs.size + 1) :: us ++ []).length = ps.length := by
    rw [List.append_nil]
    have e := r2.length
    rw [F.len _ _ _ _ hq] at e
    exact e.symm
  refine wpAny_call (make_map (f := f) I.kIn M.makes M.init (beq_iff_eq.mp M.fn) (codeAny_mono (F.run _ X.stack _ _ ⟨Value.ref (s.heap.objs.size + 1) :: us, []⟩ (Value.ref (s.heap.objs.size + 1) :: us) _ _ (E σ) (hr.make C us [])
    (I2.env0.make C us []) (by have h2 := hb _ (Value.ref (s.heap.objs.size + 1) :: us) I2.kIn hl; rw [List.append_nil] at h2; exact h2) r2 hq) fun r s' hq' => ?_))
  cases r with
  | error e => exact hx pins _ _ e s' I2 hq'
  | ok fl =>
    cases fl with
    | ret u =>
      obtain ⟨v, H', I3, rv, ev, q3⟩ := I2.after hq'
      subst ev
      exact ⟨rv, ⟨V.ref (s.heap.objs.size + 1), H', I3, rfl, q3⟩⟩
    | next => exact False.elim hq'
    | brk => exact False.elim hq'
    | cont => exact False.elim hq'
/-- C(e, ..), C's own __init__ may raise -/
def tMakeX (C : Addr) (sp : Sp) (E : L2.St → XK) (t : TA) : TE := fun σ H Q => t σ H fun vs H1 => ∀ x dx, H1 x = none → H1 dx = none → dx ≠ x → sp (.ref x :: vs) (upd (upd H1 dx (.own x)) x (.ins C dx [])) (fun v H2 => v = .non ∧ Q (.ref x) H2) (E σ)
theorem pe_makeX (M : L2.Mk X.K C f) (F : FnOk X.prog X.w X.K X.mg X.base CX k f fd ps sp) (hr : Room (k + 1) X.A) (hg : Gl X x) (hm : X.mg x = some (.ref C)) (hb : Binds X.K fd ps []) (hx : ∀ σ, PassesAt CX X σ (E σ))
    (ha : PA X (e :: es) t) (hdb : (x == ("__debug__" : Str)) = false := by decide) (he : starEach (e :: es) X.env = (false, eval e X.env) :: starEach es X.env := by rfl) (hpl : (backTo pos (starEach es X.env)).any (·.1) = false := by rfl) :
    PE X (.Call (.Name x p) (e :: es) [] pos) (tMakeX C sp E t) := by
  refine ⟨fun pins s σ H Q I h => ?_⟩
  refine wpAny_Call_Name_kw (ld_glob I hg hm ?_ hdb)
  refine PySem.W.callWith_K (h₀ := X.base) I.ok.mod.kin M.kp (thn (ha.run pos pins s σ H _ I h) fun us s1 ⟨vs, H1, I1, r, q⟩ => ⟨I1.kIn, ?_⟩) he hpl
  exact run_makeX M F hr hb (hx σ) I1 r q
/-- o.m(e, ..), the method may raise -/
def tMethX (C : Addr) (m : Str) (sp : Sp) (E : L2.St → XK) (ta : TE) (t : TA) : TE := fun σ H Q => ta σ H fun x H1 => ∃ a dx fs, x = .ref a ∧ H1 a = some (.ins C dx fs) ∧ fs.lookup m = none ∧ t σ H1 fun vs H2 => sp (x :: vs) H2 Q (E σ)
theorem pe_methX {pl : Sem Bool} (he : PE X o ta) (c : L2.Cls X.K C) (hm : L2.Meth X.K C m f) (F : FnOk X.prog X.w X.K X.mg X.base CX k f fd ps sp) (hr : Room k X.A) (hb : Binds X.K fd ps []) (hx : ∀ σ, PassesAt CX X σ (E σ)) (ha : PA X (e :: es) t)
    (hst : starEach (e :: es) X.env = (false, eval e X.env) :: starEach es X.env := by rfl) (hpl : (backTo pos (starEach es X.env)).any (·.1) = false := by rfl)
    (ht : eval (.Call (.Attribute o m apos) (e :: es) [] pos) X.env = (do
      let ov ← eval o X.env
      standAt apos.atName
      let (f, first) ← holding [ov] (getMethod ov m pl)
      callWith pos f first (backTo pos (starEach (e :: es) X.env)) (backToKw pos (keywordEach [] X.env))) := by rfl) :
    PE X (.Call (.Attribute o m apos) (e :: es) [] pos) (tMethX C m sp E ta t) := by
  refine ⟨fun pins s σ H Q I h => ?_⟩
  refine PySem.W.methodCall_KW (pl := pl) (thn (he.run pins s σ H _ I h) fun u s1 ⟨x, H1, I1, rx, a, dx, fs, ex, ea, l, q⟩ => ?_) ht
  subst ex
  obtain rfl : u = Value.ref a := rx
  refine getmeth_ok I1 ea c hm l ?_
  refine PySem.W.callWith_K (first := [.ref a]) (h₀ := X.base) I.ok.mod.kin hm.kp (thn (ha.run pos pins s1 σ H1 _ I1 q) fun us s2 ⟨vs, H2, I2, r, q2⟩ => ⟨I2.kIn, ?_⟩) hst hpl
  exact run_fnS (us := .ref a :: us) (vs := .ref a :: vs) F hr hb (hx σ) I2 (.cons rfl r) q2
end
/-- isinstance(e, c), e the error (with its dict) that the suite holds -/
def rIsS (K : PySem.W.Frag) (a : Addr) (cls : Value) (d : Option Addr) : List V → Hp → VK → Prop := fun xs H Q => ∃ (D : Addr) (c : V) (cv : Value) (b : Bool), xs = [.ref a, c] ∧ cls = .ref D ∧ (d = none ∨ ∃ dd fs, d = some dd ∧ H dd = some (.xd fs)) ∧ ExcC K D ∧ (∀ u, RelV c u → u = cv) ∧ PySem.W.kitOne K (.ref D) cv = some b ∧ Q (.bl b) H
theorem call_isS {X : Cx} {a : Addr} {oe : Obj} {cls : Value} {d : Option Addr} {pn : List (Addr × Obj)} (hz : Zc cls d oe) (hf : ∃ vs, oe.data = .fields vs) : CallR (X.suite a ((a, oe) :: pn)) (.builtin "isinstance") (rIsS X.K a cls d) := by
  intro pins s σ H xs us Q I r h
  obtain ⟨D, c, cv, b, rfl, rfl, hd, C, hcv, e, q⟩ := h
  cases r with
  | cons rx rr =>
    cases rr with
    | cons rt rr =>
      cases rr
      cases rx
      have ec := hcv _ rt
      subst ec
      have hcl : (PySem.W.clsIn X.K D).isSome = true := by
        obtain ⟨cdD, hcD, _⟩ := PySem.W.any_some C.hd
        rw [hcD]
        rfl
      obtain ⟨hget, _⟩ := I.pin (a, oe) (List.mem_append.mpr (.inl List.mem_cons_self))
      obtain ⟨vs, hv⟩ := hf
      obtain ⟨od, J⟩ : ∃ od, PySem.W.InstAt s.heap a oe D od := by
        rcases hd with rfl | ⟨dd, fs, rfl, hdd⟩
        · exact ⟨none, hget, hz.1, by unfold PySem.W.notCls; rw [hv] <;> rfl, by rw [hz.2]; exact trivial⟩
        · have hx : ObjOk X.prog X.w H s.heap dd (.xd fs) := I.hok dd _ hdd
          obtain ⟨mA, hns, hr⟩ := hx
          obtain ⟨od, es, ep, ho, _⟩ := hns
          exact ⟨some od, hget, hz.1, by unfold PySem.W.notCls; rw [hv] <;> rfl, by rw [hz.2]; exact ho⟩
      exact PySem.W.kia_one (PySem.W.kitx_exc hcl C.hg C.hk C.hs C.ha C.hn C.ht C.hm) I.kIn J e (fun z => nomatch z) fun tk => ⟨.bl b, H, I.kept (t' := tk) fun _ _ z => z, rfl, q⟩
/-- e.f, e the error that the suite holds, of whichever class -/
def tXs (K : PySem.W.Frag) (a : Addr) (cls : Value) (d : Option Addr) (f : Str) (te : TE) : TE := fun σ H Q => te σ H fun x H1 => x = .ref a ∧ ∃ (C dd : Addr) (fs : List (Str × V)) (v : V), cls = .ref C ∧ XfC K C ∧ PySem.W.findIn K (.ref C) f = some none ∧ d = some dd ∧ H1 dd = some (.xd fs) ∧ fs.lookup f = some v ∧ Q v H1
theorem pe_xs {X : Cx} {a : Addr} {oe : Obj} {cls : Value} {d : Option Addr} {pn : List (Addr × Obj)} {e : Expr} {te : TE} {pos : Pos} {n : Str} (hz : Zc cls d oe) (hf : ∃ vs, oe.data = .fields vs) (he : PE (X.suite a ((a, oe) :: pn)) e te)
    (hb : attributeBase e n X.env (eval e X.env) = eval e X.env := by rfl) : PE (X.suite a ((a, oe) :: pn)) (.Attribute e n pos) (tXs X.K a cls d n te) := by
  refine ⟨fun pins s σ H Q I h => ?_⟩
  refine attr_of hb (thn (he.run pins s σ H _ I h) fun u s1 hh => ?_)
  obtain ⟨x, H1, I1, rx, ex, C, dd, fs, v, ec, T, hno, ed, ea, l, q⟩ := hh
  subst ex
  obtain rfl : u = Value.ref a := rx
  subst ec
  subst ed
  obtain ⟨ha, _⟩ := I1.pin (a, oe) (List.mem_append_left _ List.mem_cons_self)
  obtain ⟨vs, hd⟩ := hf
  have hx : ObjOk X.prog X.w H1 s1.heap dd (.xd fs) := I1.hok dd _ ea
  obtain ⟨mA, hns, hr⟩ := hx
  obtain ⟨od, ho, hl⟩ := lookIn_ns hns
  obtain ⟨u, hu, ru⟩ := RelO.some_of (v := v) (o := mA n) (by rw [← l]; exact hr n)
  have J : PySem.W.InstAt s1.heap a oe C (some od) := ⟨ha, hz.1, by unfold PySem.W.notCls; rw [hd] <;> rfl, by rw [hz.2]; exact ho⟩
  exact HandSPX.exc_get I1.kIn J T.ga T.gg T.exC (PySem.W.findObj_own T.hdC hno rfl (by rw [hl, hu])) (handed_of ru) ⟨v, H1, I1.tok _, ru, q⟩
end CW

set_option Elab.async false
set_option linter.all false
set_option maxRecDepth 100000
set_option maxHeartbeats 2000000
/-! list.count of flat values -/
namespace CW
open PySem PySem.Spec PyProof.Rows L2
def rCntF (K : PySem.W.Frag) : V → List V → Hp → VK → Prop := fun x xs H Q => ∃ (p : Addr) (ys : List V) (y : V), x = .ref p ∧ xs = [y] ∧ SqL K H p ys ∧ flatV y = true ∧ ys.all flatV = true ∧ Q (.int (ys.countP fun z => eqV z y : Nat)) H
theorem countP_eqU {y : V} : ∀ {ys : List V} {us : List Value}, Vals ys us → ys.all flatV = true → us.countP (eqU y) = ys.countP fun z => eqV z y
  | _, _, .nil, _ => rfl
  | _, _, .cons r rs, f => by
    rw [List.all_cons, Bool.and_eq_true] at f
    rw [List.countP_cons, List.countP_cons, countP_eqU rs f.2, eqU_of r f.1]
theorem mt_countF {X : Cx} : MtR X "list.count" (rCntF X.K) := by
  intro pins s σ H x xs v us Q I rx rxs h
  obtain ⟨p, ys, y, rfl, rfl, hs, fy, fys, q⟩ := h
  cases rx
  cases rxs with
  | cons ry rt =>
    rename_i uy ut
    cases rt
    obtain ⟨its, rv, ⟨⟨cls, dd, data, sl⟩, n, ho, hc, hdn, hd⟩, hlen⟩ := I.list hs
    simp only at hc hd
    subst hc hd
    refine call_meets PySem.F.slot_list_count ⟨_, ho, rfl⟩ PySem.F.entry_list_count (PySem.F.args_list_count_2 _ _)
      (SeqAt.list_countAt p its.toArray n dd sl uy (eqU y)) ⟨ho, fun u' hu' => mem_eqAt ry fy rv fys u' (by simpa using hu'), ?_⟩
    have ec : its.toArray.toList.countP (eqU y) = ys.countP fun z => eqV z y := countP_eqU rv fys
    refine ⟨.int (ys.countP fun z => eqV z y : Nat), H, I.tok _, ⟨s.toks, ?_⟩, q⟩
    show Value.int ((its.toArray.toList.countP (eqU y) : Nat) : Int) s.toks = Value.int ((ys.countP fun z => eqV z y : Nat) : Int) s.toks
    rw [ec]
end CW
namespace CW
open PySem PySem.Spec PyProof.Rows L2
theorem mark_units {A : Around} {v : Option Value} : (A.mark v).units = A.units := by first | rfl | (cases A; rfl)
/-- what a suite has of its def's room -/
theorem hus {A : Around} {k : Nat} {v : Option Value} (hr : Room k A) : (A.mark v).units + 64 < cLine := by
  rw [mark_units]
  have := hr.un
  omega
theorem op_eqW {X : Cx} (hu : X.A.units + 64 < cLine) : OpR X (compareOp .Eq) (rEqU X.K) := OpR.or op_eq (op_eqD hu)
theorem op_neW {X : Cx} (hu : X.A.units + 64 < cLine) : OpR X (compareOp .NotEq) (rNeU X.K) := OpR.or op_ne (op_neD hu)
end CW

set_option Elab.async false
set_option linter.all false
set_option maxRecDepth 100000
set_option maxHeartbeats 2000000
/-! keywords of methods, in any order -/
namespace CW
open PySem PySem.Spec PyProof.Rows L2 PySem.W
section
variable {K : PySem.W.Frag} {x qual : Str} {st : Stmt} {f : Addr} {fd : FuncData} {ps ks : List Str} {n : Nat} {g : List Value → List Value → List Value} {gV : List V → List V → List V}
theorem fun_kbg (F : Fun K x qual st f fd) (rel : ∀ {vs : List V} {us : List Value} {zs : List V} {ws : List Value}, Vals vs us → Vals zs ws → Vals (gV vs zs) (g us ws))
    (h : ∀ (kV doc pm : Value) (an : Option Addr) (cdv ct : Value) (us ws : List Value), us.length = n → ws.length = ks.length → bindArgs (PySem.W.fnOf x qual (defArgs st) (defBody st) (defScope st) .none kV doc pm an cdv ct) ⟨us, ks.zip ws⟩ = pure (ps.zip (g us ws))) :
    KBn K fd ps n ks g gV := by
  obtain ⟨oc, od, kV, doc, pm, an, cdv, ct, osl, rfl, lk, hcd⟩ := F.ex
  exact ⟨fun s us ws _ h0 h1 => BindsTo.of_eq (h kV doc pm an cdv ct us ws h0 h1), rel⟩
theorem rel_app {vs : List V} {us : List Value} {zs : List V} {ws : List Value} (r : Vals vs us) (s : Vals zs ws) : Vals (vs ++ zs) (us ++ ws) := r.append s
theorem vals_rev : ∀ {zs : List V} {ws : List Value}, Vals zs ws → Vals zs.reverse ws.reverse
  | _, _, .nil => .nil
  | _, _, .cons r rs => by
    rw [List.reverse_cons, List.reverse_cons]
    exact (vals_rev rs).append (.cons r .nil)
theorem rel_appr {vs : List V} {us : List Value} {zs : List V} {ws : List Value} (r : Vals vs us) (s : Vals zs ws) : Vals (vs ++ zs.reverse) (us ++ ws.reverse) := r.append (vals_rev s)
end
/-- o.m(k = v, ..) -/
def tMethN (C : Addr) (m : Str) (nk : Nat) (sp : Sp) (gV : List V → List V → List V) (E : XK) (ta : TE) (tk : TA) : TE := fun σ H Q => ta σ H fun x H1 => ∃ a dx fs, x = .ref a ∧ H1 a = some (.ins C dx fs) ∧ fs.lookup m = none ∧ tk σ H1 fun zs H2 => zs.length = nk ∧ sp (gV [x] zs) H2 Q E
theorem pe_methN {X : Cx} {CX : CXT} {k : Nat} {f C : Addr} {fd : FuncData} {ps ks : List Str} {sp : Sp} {E : XK} {m : Str} {apos pos : Pos} {o : Expr} {ta : TE} {kws : List Keyword} {tk : TA} {g : List Value → List Value → List Value} {gV : List V → List V → List V} {pl : Sem Bool}
    (he : PE X o ta) (c : L2.Cls X.K C) (hm : L2.Meth X.K C m f) (F : FnOk X.prog X.w X.K X.mg X.base CX k f fd ps sp) (hr : Room k X.A) (hb : KBn X.K fd ps 1 ks g gV) (hx : Passes CX X E) (hkw : PK X kws tk)
    (hall : (backToKw pos (keywordEach kws X.env)).all (·.1.isSome) = true := by rfl) (hks : (backToKw pos (keywordEach kws X.env)).filterMap (·.1) = ks := by rfl)
    (hpl : ((backTo pos (starEach [] X.env)).any (·.1) || (backToKw pos (keywordEach kws X.env)).any (·.1.isNone)) = false := by rfl)
    (ht : eval (.Call (.Attribute o m apos) [] kws pos) X.env = (do
      let ov ← eval o X.env
      standAt apos.atName
      let (f, first) ← holding [ov] (getMethod ov m pl)
      callWith pos f first (backTo pos (starEach [] X.env)) (backToKw pos (keywordEach kws X.env))) := by rfl) :
    PE X (.Call (.Attribute o m apos) [] kws pos) (tMethN C m ks.length sp gV E ta tk) := by
  refine ⟨fun pins s σ H Q I h => ?_⟩
  refine PySem.W.methodCall_KW (pl := pl) (thn (he.run pins s σ H _ I h) fun u s1 ⟨x, H1, I1, rx, a, dx, fs, ex, ea, l, q⟩ => ?_) ht
  subst ex
  obtain rfl : u = Value.ref a := rx
  refine getmeth_ok I1 ea c hm l ?_
  refine PySem.W.callWith_KW0 (first := [.ref a]) (h₀ := X.base) I.ok.mod.kin hm.kp hall ?_ hpl
  refine thn (hkw.run pos pins s1 σ H1 _ I1 q) fun ws s2 ⟨zs, H2, I2, rz, l2, q2⟩ => ⟨I2.kIn, ?_⟩
  rw [hks]
  exact run_fnN (us := [.ref a]) (vs := [.ref a]) F hr hb hx I2 (.cons rfl .nil) rz rfl l2 q2
end CW

set_option Elab.async false
set_option linter.all false
set_option maxRecDepth 100000
set_option maxHeartbeats 2000000
/-! defs that are only called where no repr is under way; repr of data -/
namespace CW
open PySem PySem.Spec PyProof.Rows L2
/-- as FnOk, where no guard stands around the call -/
structure FnOkG (P : Program) (w : World) (K : PySem.W.Frag) (mg : Str → Option Value) (base : Heap) (CX : CXT) (k : Nat) (f : Addr) (fd : FuncData) (ps : List Str) (sp : Sp) : Prop where
  lenG : ∀ vs H Q E, sp vs H Q E → vs.length = ps.length
  runG : ∀ (A : Around) (outer : List Env) (s : Shared) (H : Hp) (args : Args) (us : List Value) (vs : List V) (Q : VK) (E : XK), A.guards = some [] → Room k A → Env0 P w K mg base A outer s H →
    BindsTo s fd args (ps.zip us) → Vals vs us → sp vs H Q E → codeAny (model P w) A (.call (.ref f) args) (CR CX outer P w H s Q E) s
theorem FnOk.toG {P : Program} {w : World} {K : PySem.W.Frag} {mg : Str → Option Value} {base : Heap} {CX : CXT} {k : Nat} {f : Addr} {fd : FuncData} {ps : List Str} {sp : Sp} (F : FnOk P w K mg base CX k f fd ps sp) : FnOkG P w K mg base CX k f fd ps sp :=
  ⟨F.len, fun A outer s H args us vs Q E _ => F.run A outer s H args us vs Q E⟩
section
variable {P : Program} {w : World} {K : PySem.W.Frag} {mg : Str → Option Value} {base : Heap} {CX : CXT}
theorem okG_of {x qual : Str} {st : Stmt} {f : Addr} {fd : FuncData} {N ps : List Str} {k : Nat} {sp : Sp} (F : Fun K x qual st f fd) (S : FnScope N ps (defScope st)) (ln : ∀ vs H Q E, sp vs H Q E → vs.length = ps.length)
    (bd : ∀ (cdv : Value) (A : Around) (outer : List Env) (s : Shared) (H : Hp) (vs : List V) (Q : VK) (E : XK), (A.deeper (envOfC qual (defScope st) s.heap.objs.size f cdv)).guards = some [] → Room k (A.deeper (envOfC qual (defScope st) s.heap.objs.size f cdv)) → sp vs H Q E →
      ∃ t, PSs (cxOf CX0 P w K mg base N qual (defScope st) f cdv A outer s H E).nox (defBody st) t ∧ t { nx := fun _ H' => Q .non H', rt := Q } (start N vs) H) : FnOkG P w K mg base CX0 (k + 1) f fd ps sp := by
  obtain ⟨oc, od, kV, doc, pm, an, cdv, ct, osl, rfl, lk, hcd⟩ := F.ex
  refine ⟨ln, fun A outer s H args us vs Q E hg hr e0 hb rv hs => ?_⟩
  have vl := ln _ _ _ _ hs
  have keep : ∀ b o, base.get? b = some o → s.heap.get? b = some o := fun b o z => (e0.bs b o z).1
  have kin : K.In s.heap := e0.mod.kin.keeps keep
  have nl : s.heap.NoLimit := e0.mod.nolimit.keeps keep
  have kinds : ∀ y ∈ ps.zip us, (defScope st).names.lookup y.1 = some .local ∨ ((defScope st).names.lookup y.1 = some .cell ∧ ((cellsFrom (s.heap.objs.size + 1) (defScope st).names []).lookup y.1).isSome = true) := by
    rintro ⟨n, v⟩ hy
    rcases S.par n (List.of_mem_zip hy).1 with h1 | h1
    · exact Or.inl h1
    · exact Or.inr ⟨h1, PySem.W.cellsFrom_some _ _ _ (Or.inl h1)⟩
  refine codeAny_call_function hr.depth (kin _ _ lk) rfl S.co S.gen rfl (PySem.W.codeRec_of kin hcd) (hb _ _ _ _ (wpAny_newFunctionEnv_cells S.kind kinds fun env he s1 nw => ?_))
  cases he
  refine ⟨nl.keeps nw.toInCall.keep, codeAny_func ?_⟩
  obtain ⟨t, ht, hq⟩ := bd cdv A outer s H vs Q E hg (hr.deeper _) hs
  have J : L2.Inv (cxOf CX0 P w K mg base N qual (defScope st) f cdv A outer s H E) [] (start N vs) H s1 := inv_start S hr.hd e0 vl rv nw
  refine wpAny_mono (ht.nox.run [] s1 (start N vs) H _ J hq) (fun fl s2 z => ?_) fun _ _ z => z
  match fl, z with
  | .ret u, ⟨v, _, H2, J2, r2, q2⟩ => exact ⟨v, H2, J2.os, J2.bare, J2.base, J2.hok, r2, q2⟩
  | .next, ⟨_, H2, J2, q2⟩ => exact ⟨.non, H2, J2.os, J2.bare, J2.base, J2.hok, rfl, q2⟩
  | .brk, ⟨_, _, _, q2⟩ => exact q2.elim
  | .cont, ⟨_, _, _, q2⟩ => exact q2.elim
end
section
variable {X : Cx} {CX : CXT} {k : Nat} {f : Addr} {fd : FuncData} {ps : List Str} {sp : Sp} {E : XK} {x : Str} {p pos : Pos} {e : Expr} {es : List Expr} {t : TA}
theorem pe_callG (F : FnOkG X.prog X.w X.K X.mg X.base CX k f fd ps sp) (hgu : X.A.guards = some []) (hr : Room k X.A) (hg : Gl X x) (hm : X.mg x = some (.ref f)) (hk : PySem.W.keepIn X.K (.ref f) = true) (hb : Binds X.K fd ps []) (hx : Passes CX X E)
    (ha : PA X (e :: es) t) (hdb : (x == ("__debug__" : Str)) = false := by decide) (he : starEach (e :: es) X.env = (false, eval e X.env) :: starEach es X.env := by rfl) (hpl : (backTo pos (starEach es X.env)).any (·.1) = false := by rfl) :
    PE X (.Call (.Name x p) (e :: es) [] pos) (tCall sp [] E t) := by
  refine ⟨fun pins s σ H Q I h => wpAny_Call_Name_kw (ld_glob I hg hm ?_ hdb)⟩
  refine PySem.W.callWith_K (h₀ := X.base) I.ok.mod.kin hk (thn (ha.run pos pins s σ H _ I h) fun us s1 ⟨vs, H1, I1, r, q⟩ => ⟨I1.kIn, ?_⟩) he hpl
  have q : sp (vs ++ []) H1 Q E := q
  rw [List.append_nil] at q
  have hl : (us ++ []).length = ps.length := by rw [List.append_nil, ← r.length]; exact F.lenG _ _ _ _ q
  have bnd := hb s1 us I1.kIn hl
  rw [List.append_nil] at bnd
  refine wpAny_call (codeAny_mono (F.runG X.A X.stack s1 H1 ⟨us, []⟩ us vs Q E hgu hr I1.env0 bnd r q) fun z s2 hz => ?_)
  match z, hz with
  | .error er, hz => exact hx pins σ H1 s1 er s2 I1 hz
  | .ok (.ret u), hz => exact I1.after hz
  | .ok .next, hz => exact hz.elim
  | .ok .brk, hz => exact hz.elim
  | .ok .cont, hz => exact hz.elim
/-- repr(x), x data -/
def rRepr (K : PySem.W.Frag) : List V → Hp → VK → Prop := fun xs H Q => ∃ (a : Addr) (d : PyData), xs = [.ref a] ∧ Dp K H (.ref a) d ∧ d.showable = true ∧ d.hasDict = false ∧ d.depth ≤ 50 ∧ d.shown.length ≤ sizeLine ∧ Q (.str d.shown) H
theorem call_repr {k : Nat} (hgu : X.A.guards = some []) (hr : Room k X.A) : CallR X (.builtin "repr") (rRepr X.K) := by
  rintro pins s σ H xs us Q I r ⟨a, d, rfl, hd, hs, hn, hp, hz, q⟩
  cases r with
  | cons rx rr =>
    cases rr
    cases rx
    obtain ⟨as, hrd⟩ := Dp.reads I d _ _ hd rfl
    have hu := hr.units
    refine PySem.repr_of_reads' hrd hs (PyData.noDict_hsm hn) hgu (by omega) (fun _ _ z => z) (fun h2 u tk hk => ?_) hz
    exact ⟨.str d.shown, H, I.kept (t' := tk) hk, ⟨u, rfl⟩, q⟩
end
section
variable {P : Program} {w : World} {K : PySem.W.Frag} {mg mb : Str → Option Value} {CX : CXT} {k : Nat} {fa a : Addr} {fd : FuncData} {x : Str} {sp : Sp} {s₁ : Shared} {vs : List Value} {ns : List Int}
theorem law_coreG (KX : K.In s₁.heap) (hns : s₁.heap.Ns mainGlobals mg) (hb : s₁.heap.Ns builtinsNs mb) (hbb : ∀ x : Str, x ≠ "__name__" → mb x = bootBuiltins x) (hlim : s₁.heap.NoLimit) (hg : s₁.gens = #[])
    (ha : s₁.heap.get? a = some { cls := .type "list", data := .seq vs.toArray }) (hr : Room k callerA)
    (F : ∀ base : Heap, K.In base → base.Ns mainGlobals mg → FnOkG P w K mg base CX k fa fd [x] sp) (bnd : ∀ (s : Shared) (u : Value), BindsTo s fd ⟨[u], []⟩ [(x, u)])
    (hCX : ∀ H e s', CX [] H s₁ (fun _ _ _ => False) e s' → False) {H : Hp} (hO : Only H) (hok : HOk P w H s₁.heap) (hA : ∀ b, H b ≠ none → b = a) (hK : H a ≠ none → K.lookup a = none) (hs : sp [.ref a] H (fun v _ => v = .bl true) fun _ _ _ => False) :
    codeAny (model P w) callerA (.call (.ref fa) ⟨[.ref a], []⟩) (fun r s' => r = .ok (.ret (.bool true)) ∧ OldK s₁.heap s'.heap ∧ s'.os = s₁.os ∧ AllBare s'.gens) s₁ := by
  have only_a : ∀ {b : Addr} {u : HO}, H b = some u → b = a := fun {b u} z => hA b (by rw [z]; exact fun y => by cases y)
  have put : ∀ {b : Addr} {o : Obj}, s₁.heap.get? b = some o → H b = none → (hidT s₁.heap H).get? b = some o := fun z y => hidT_get z y
  have notA : ∀ {b : Addr} {o : Obj} {es : Array DictEntry} {ep : Nat}, s₁.heap.get? b = some o → o.data = .dict es ep → H b = none := by
    intro b o es ep z y
    match q : H b with
    | none => rfl
    | some u =>
      cases only_a q
      rw [ha] at z
      cases z
      cases (show Data.seq vs.toArray _ = Data.dict es ep from y)
  have names : ∀ {b : Addr} {m : Str → Option Value}, s₁.heap.Ns b m → (hidT s₁.heap H).Ns b m := by
    rintro b m ⟨o, es, ep, z, y, r⟩
    exact ⟨o, es, ep, put z (notA z y), y, r⟩
  have inK : K.In (hidT s₁.heap H) := by
    intro b o z
    refine put (KX b o z) ?_
    match q : H b with
    | none => rfl
    | some u =>
      cases only_a q
      rw [hK (by rw [q]; exact fun y => by cases y)] at z
      cases z
  have lim : (hidT s₁.heap H).NoLimit := by
    obtain ⟨mc, h1, h2⟩ := hlim
    exact ⟨mc, names h1, h2⟩
  have env : Env0 P w K mg (hidT s₁.heap H) callerA [] s₁ H :=
    ⟨rfl, ⟨inK, names hns, ⟨mb, names hb, hbb⟩, lim⟩, fun b o z => of_hidT z, Nat.le_of_eq (hidT_size _ _), trivial, fun b z => absurd (show b ∈ ([] : List Addr) from z) (by simp), hok, .of_eq hg⟩
  refine codeAny_mono ((F _ inK (names hns)).runG callerA [] s₁ H ⟨[.ref a], []⟩ [.ref a] [.ref a] _ _ rfl hr env (bnd s₁ (.ref a)) (.cons rfl .nil) hs) fun r s2 z => ?_
  match r, z with
  | .error e, z => exact (hCX H e s2 z).elim
  | .ok .next, z => exact z.elim
  | .ok .brk, z => exact z.elim
  | .ok .cont, z => exact z.elim
  | .ok (.ret u), ⟨v, H2, ho, hbr, un, hok2, rv, q⟩ =>
    cases (show v = .bl true from q)
    cases (show u = Value.bool true from rv)
    refine ⟨rfl, OldK.of_keep fun b o z => ?_, ho, hbr⟩
    match q : H b with
    | none => exact un.keep b o z q (fun y => absurd (show b ∈ ([] : List Addr) from y) (by simp)) (by simp)
    | some u =>
      rcases hO b with y | ⟨ob, xs, y⟩
      · rw [q] at y; cases y
      · have e1 := (hok b _ y).1
        have e2 := (hok2 b _ (un.frzs b ob _ y)).1
        rw [z] at e1
        cases e1
        exact e2
theorem law_callG (KX : K.In s₁.heap) (hns : s₁.heap.Ns mainGlobals mg) (hb : s₁.heap.Ns builtinsNs mb) (hbb : ∀ x : Str, x ≠ "__name__" → mb x = bootBuiltins x) (hlim : s₁.heap.NoLimit) (hg : s₁.gens = #[])
    (ha : s₁.heap.get? a = some { cls := .type "list", data := .seq vs.toArray }) (hi : IntsAre vs ns) (hl : ns.length ≤ sizeLine) (hr : Room k callerA)
    (F : ∀ base : Heap, K.In base → base.Ns mainGlobals mg → FnOkG P w K mg base CX k fa fd [x] sp) (bnd : ∀ (s : Shared) (u : Value), BindsTo s fd ⟨[u], []⟩ [(x, u)])
    (hsp : ∀ H : Hp, Only H → SqL K H a (ns.map V.int) → sp [.ref a] H (fun v _ => v = .bl true) fun _ _ _ => False)
    (hCX : ∀ H e s', CX [] H s₁ (fun _ _ _ => False) e s' → False) :
    codeAny (model P w) callerA (.call (.ref fa) ⟨[.ref a], []⟩) (fun r s' => r = .ok (.ret (.bool true)) ∧ OldK s₁.heap s'.heap ∧ s'.os = s₁.os ∧ AllBare s'.gens) s₁ := by
  have rv := vals_ints hi
  have vl := hi.length
  match q : K.lookup a with
  | some o =>
    have z := KX a o q
    rw [ha] at z
    cases z
    have hS : SqL K (fun _ => none) a (ns.map V.int) := Or.inr ⟨_, vs.toArray, _, q, rfl, rfl, rfl, by rw [List.size_toArray, vl]; exact hl, by simpa using rv⟩
    exact law_coreG KX hns hb hbb hlim hg ha hr F bnd hCX (H := fun _ => none) (fun _ => Or.inl rfl) (fun b u y => by cases (show (none : Option HO) = some u from y)) (fun b y => absurd rfl y) (fun y => absurd rfl y) (hsp _ (fun _ => Or.inl rfl) hS)
  | none =>
    have hO : Only (fun b => if b = a then some (.frz { cls := .type "list", data := .seq vs.toArray } (.lst (ns.map V.int))) else none) := by
      intro b
      by_cases y : b = a
      · exact Or.inr ⟨_, _, if_pos y⟩
      · exact Or.inl (if_neg y)
    refine law_coreG KX hns hb hbb hlim hg ha hr F bnd hCX hO (fun b u z => ?_) (fun b z => ?_) (fun _ => q) (hsp _ hO (Or.inl (Or.inr ⟨{ cls := .type "list", data := .seq vs.toArray }, if_pos rfl⟩)))
    · by_cases y : b = a
      · cases (if_pos y).symm.trans z
        subst y
        exact ⟨ha, by rw [List.length_map]; exact hl, vs, _, rv, ha⟩
      · cases (if_neg y).symm.trans z
    · by_cases y : b = a
      · exact y
      · exact absurd (if_neg y) z
end
/-- walk_of for such a law -/
theorem walk_ofG {l : PySem.W.OpenLaw} {n k : Nat} {q : Program} {loose : List Str} {XP : (Str → Option Value) → Heap → Prop} {YP : World → Heap → Prop} {d : DefRec} {K : Params → PySem.W.Frag} {sp : World → Sp} {x : Str}
    (hn : l.most = some n) (hn2 : n ≤ sizeLine) (hdf : d.params.defaults = []) (hr : Room k callerA) (hY : ∀ (w : World) (h : Heap), YP w h → (K w.params).In h)
    (F : ∀ (w : World) (mg : Str → Option Value) (fa : Addr) (h : Heap), (K w.params).In h → h.Ns mainGlobals mg → mg d.name = some (.ref fa) →
      ∃ fd : FuncData, (∀ (s : Shared) (u : Value), BindsTo s fd ⟨[u], []⟩ [(x, u)]) ∧ ∀ base : Heap, (K w.params).In base → base.Ns mainGlobals mg → FnOkG l.prog w (K w.params) mg base CX0 k fa fd [x] (sp w))
    (hsp : ∀ (w : World) (H : Hp) (a : Addr) (ns : List Int), ns.length ≤ n → Only H → SqL (K w.params) H a (ns.map V.int) → sp w [.ref a] H (fun v _ => v = .bl true) fun _ _ _ => False) :
    PySem.W.WalkO q loose XP YP l.row.toRowW d [] (fun f vs => PySem.call f vs) := by
  refine Att.attach_call hn hdf fun w s₀ s₁ mg mb fa o pm cd doc a vs ns G Y _ _ _ hm hobj hints hlen hg => ?_
  obtain ⟨fd, hb, hF⟩ := F w mg fa _ (hY w _ Y) G.T.g hm
  exact law_callG (hY w _ Y) G.T.g G.T.b G.T.builtins G.T.nolimit hg hobj hints (Nat.le_trans hlen hn2) hr hF hb (fun H z y => hsp w H a ns hlen z y) fun _ _ _ z => z
end CW

set_option Elab.async false
set_option linter.all false
set_option maxRecDepth 100000
set_option maxHeartbeats 2000000
/-! errors whose field may also be a tuple of texts or small numbers -/
namespace CW
open PySem PySem.Spec PyProof.Rows L2 NdefX PySem.W
/-- what stands in such a tuple -/
def RepS (y : V) : Prop := (∃ z : Str, y = .str z ∧ ascS z = true ∧ z.length ≤ 100) ∨ ∃ i : Int, y = .int i ∧ i.natAbs.log2 < 1000
def RepX (K : PySem.W.Frag) (H : Hp) (y : V) : Prop := RepV y ∨ ∃ (a : Addr) (xs : List V), y = .ref a ∧ SqT K H a xs ∧ xs.length ≤ 20 ∧ ∀ x ∈ xs, RepS x
def tFmtQ (K : PySem.W.Frag) (te : TE) : TE := fun σ H Q => te σ H fun x H1 => RepX K H1 x ∧ ∀ m : Str, m.length ≤ 2000000 → Q (.str m) H1
theorem repr_allS {prog : Program} {w : World} : ∀ {xs : List V} {its : List Value}, Vals xs its → (∀ x ∈ xs, RepS x) → ∃ ts, ReprAll prog w its ts ∧ ts.length = xs.length ∧ ∀ t ∈ ts, t.length ≤ 2000
  | [], _, r, _ => by
    cases r
    exact ⟨[], .nil, rfl, by simp⟩
  | y :: l, _, r, h => by
    cases r with
    | cons r1 r2 =>
      obtain ⟨ts, a, b, c⟩ := repr_allS (prog := prog) (w := w) r2 fun z hz => h z (List.mem_cons_of_mem _ hz)
      rcases h y List.mem_cons_self with ⟨z, rfl, hz, hl⟩ | ⟨i, rfl, hi⟩
      · obtain ⟨t, rfl⟩ := r1
        have hr := StrLaws.reprText_len z fun c hc => Nat.lt_trans (of_decide_eq_true (List.all_eq_true.mp hz c hc)) (by decide)
        refine ⟨reprText z :: ts, .cons (ReprIs.str z t (by rw [sizeLine_eq]; omega)) a, by simp [b], fun u hu => ?_⟩
        rcases List.mem_cons.mp hu with rfl | hu
        · omega
        · exact c u hu
      · obtain ⟨t, rfl⟩ := r1
        have h2 : i.natAbs.log2 < 1920 := by omega
        have h1 := int_text_length_le (by decide) h2
        refine ⟨(toString i : Str) :: ts, .cons (ReprIs.int t h2) a, by simp [b], fun u hu => ?_⟩
        rcases List.mem_cons.mp hu with rfl | hu
        · rw [PySem.ofString_length]; omega
        · exact c u hu
theorem piled_le : ∀ (ts : List Str), (∀ t ∈ ts, t.length ≤ 2000) → piled ts ≤ 2010 * ts.length
  | [], _ => Nat.zero_le _
  | t :: ts, h => by
    have h1 := h t List.mem_cons_self
    have h2 := piled_le ts fun u hu => h u (List.mem_cons_of_mem _ hu)
    rw [piled_cons, List.length_cons]
    omega
theorem pe_fmtQ {X : Cx} {e : Expr} {te : TE} {pos : Pos} {k : Nat} (hr : Room k X.A) (he : PE X e te) : PE X (.FormattedValue e 114 none pos) (tFmtQ X.K te) := by
  refine ⟨fun pins s σ H Q I h => ?_⟩
  refine wpAny_FormattedValue_repr (thn (he.run pins s σ H _ I h) fun v s1 hv => ?_)
  obtain ⟨x, H1, I1, r1, hx, q⟩ := hv
  rcases hx with (⟨z, rfl, hz, hl⟩ | ⟨i, rfl, hi⟩) | ⟨a, xs, rfl, hs, hn, hxs⟩
  · obtain ⟨t, rfl⟩ := r1
    have hr := StrLaws.reprText_len z fun c hc => Nat.lt_trans (of_decide_eq_true (List.all_eq_true.mp hz c hc)) (by decide)
    have hz2 : (reprText z).length ≤ sizeLine := by rw [sizeLine_eq]; omega
    exact pyReprObj_str (wpAny_formatField_str ⟨.str (reprText z), H1, I1.tok _, ⟨_, rfl⟩, q _ (by omega)⟩ ⟨.str (reprText z), H1, I1.tok _, ⟨_, rfl⟩, q _ (by omega)⟩ hz2) hz2
  · obtain ⟨t, rfl⟩ := r1
    have h1 := int_text hi
    exact pyReprObj_int hi (wpAny_formatField_str ⟨.str (toString i), H1, I1.tok _, ⟨_, rfl⟩, q _ (by omega)⟩ ⟨.str (toString i), H1, I1.tok _, ⟨_, rfl⟩, q _ (by omega)⟩ (int_text_fits hi))
  · cases r1
    obtain ⟨its, rv, ⟨o, ho, hcl, n, hd⟩, _⟩ := I1.tuple hs
    obtain ⟨ts, h1, h2, h3⟩ := repr_allS (prog := X.prog) (w := X.w) rv hxs
    have hp := piled_le ts h3
    have htx := fmt_text ts
    have hu := hr.units
    have hL : (tupleText ts).length ≤ 100000 := by omega
    have hS : (tupleText ts).length + 5 ≤ sizeLine := by rw [sizeLine_eq]; omega
    refine wpAny_pyReprObj_slot (by omega) ⟨o, ho, hcl⟩ F.slot_tuple_repr ?_
    refine fmt_tuple_repr ho hcl hd h1 (by omega) fun m u tk hm => ⟨m, u, rfl, ?_⟩
    exact wpAny_formatField_str ⟨.str m, H1, (I1.tok _).tok _, ⟨_, rfl⟩, q _ (by omega)⟩ ⟨.str m, H1, (I1.tok _).tok _, ⟨_, rfl⟩, q _ (by omega)⟩ (by omega)
def spErrQ (K : PySem.W.Frag) (C : Addr) (fld : Str) : Sp := fun vs H Q _ => ∃ a y, vs = [.ref a, y] ∧ H a = some (exo a C none) ∧ RepX K H y ∧ ∀ dx, H dx = none → dx ≠ a → Q .non (upd (upd H dx (exd dx [(fld, y)])) a (exo a C (some dx)))
def taErrQ (K : PySem.W.Frag) (pre : Str) : TA := tCons (fun σ H Q => tJs [tC (.str pre), tFmtQ K (tVar 1)] Str.empty σ H fun out H1 => Q (.str out) H1) tNil
theorem err_readQ {K : PySem.W.Frag} {C : Addr} {fld pre x : Str} (T : OexC K C) (hno : findIn K (.ref C) fld = some none) (hpre : pre.length ≤ 100) {vs : List V} {H : Hp} {Q : VK} {E : XK} (h : spErrQ K C fld vs H Q E) :
    ∃ a y, vs = [.ref a, y] ∧ H a = some (exo a C none) ∧ taErrQ K pre (startF ["self", x, "__class__"] vs [none]) H fun ws H1 => ws.length ≤ 1000 ∧ H1 a = some (exo a C none) ∧ tOst K fld (tVar 0) (tVar 1) { nx := fun _ H' => Q .non H', rt := Q } (startF ["self", x, "__class__"] vs [none]) H1 := by
  obtain ⟨a, y, rfl, ha, hy, q⟩ := h
  refine ⟨a, y, rfl, ha, ?_⟩
  have fin : tOst K fld (tVar 0) (tVar 1) { nx := fun _ H' => Q .non H', rt := Q } (startF ["self", x, "__class__"] [.ref a, y] [none]) H :=
    ⟨y, rfl, .ref a, rfl, a, C, rfl, T, hno, .inl ⟨ha, q⟩⟩
  have e0 : Str.length (Str.empty ++ pre) = pre.length := by rw [len_app]; show 0 + _ = _; omega
  refine ⟨pre, rfl, by rw [e0, sizeLine_eq]; omega, y, rfl, hy, fun m hm => ⟨m, rfl, ?_, ?_⟩⟩
  · rw [len_app, e0, sizeLine_eq]; omega
  · exact ⟨by show 1 ≤ 1000; omega, ha, fin⟩
end CW

set_option Elab.async false
set_option linter.all false
set_option maxRecDepth 100000
set_option maxHeartbeats 2000000
/-! what the written part says of one class of errors, in one piece -/
namespace CW
open PySem PySem.Spec PyProof.Rows L2 NdefX PySem.W
abbrev fnI (st : Stmt) (ql : Str) (cc cd : Addr) (kI doI pI : Value) (anI : Option Addr) (ctI : Value) : FuncData := fnX "__init__" ql (defArgs st) (defBody st) (defScope st) [("__class__", cc)] .none kI doI pI anI (.ref cd) ctI
structure ErrT (P : Program) (K : PySem.W.Frag) (mg : Str → Option Value) (nm : Str) (st : Stmt) (ql fld x : Str) where
  (C fI cc cd : Addr)
  (kI doI pI ctI : Value)
  anI : Option Addr
  a : nsIn K mainGlobals nm = some (some (.ref C))
  g : mg nm = some (.ref C)
  S : SupK K P C fI cc cd (fnI st ql cc cd kI doI pI anI ctI)
  hc : codeIn K (.ref cd) ql = true
  ox : OexC K C
  no : findIn K (.ref C) fld = some none
  iI : findIn K (.ref C) "__init__" = some (some (.ref fI))
  tI : typeIn K (.ref fI) = some (.type "function")
  bI : L2.Binds K (fnI st ql cc cd kI doI pI anI ctI) ["self", x] []
  xc : ExcC K C
  xf : XfC K C
/-- a class without own __init__ -/
structure LeafT (K : PySem.W.Frag) (mg : Str → Option Value) (nm : Str) (bm : List Value) (newId : String) where
  C : Addr
  a : nsIn K mainGlobals nm = some (some (.ref C))
  g : mg nm = some (.ref C)
  qx : excIn K C bm newId = true
  kx : keepIn K (.ref C) = true
  xc : ExcC K C
/-- what all of them ask -/
structure ErrAll (P : Program) (K : PySem.W.Frag) (mg : Str → Option Value) : Prop where
  op : nsIn K cStatics "thirdparty.any" = some none
  spe : specialIn K (.builtin "object.__class__") "__get__" = some (some (.builtin "getset_descriptor.__get__"))
  tak : takesIn K (.builtin "object.__class__") = some true
  top : (P.main.scope.names.lookup ("super" : Str)).isSome = false
section
variable {P : Program} {K : PySem.W.Frag} {mg : Str → Option Value} {h : Heap} {nm : Str} {st : Stmt} {ql fld x : Str}
def errT_mk (X : K.In h) (G : h.Ns mainGlobals mg) (B : ErrAll P K mg) {C fI cc cd N : Addr} {nm' qn file : Str} {tf : Tok} {bs bm sub : List Value} {sn : List Str} {ab : Bool} {col : Option Bool} {dd oda odc ode anI : Option Addr} {k0 k1 k2 k3 k5 : Option Value}
    {oca occ oce kI doI pI ctI : Value} {sla slc sle : Array (Option Value)} {vs : Array Value} {cdv : ClassData}
    (e1 : nsIn K mainGlobals nm = some (some (.ref C))) (e2 : K.lookup C = some (excClassObj nm' qn C N bs bm true sn sub ab col dd k0 k1 k2 k3 k5 "ValueError.__new__")) (e3 : findIn K (.ref C) "__setattr__" = some (some (.builtin "object.__setattr__")))
    (e4 : subIn K (.ref C) (.type "BaseException") = some true) (e5 : typeIn K (.ref C) = some (.type "type")) (e6 : keepIn K (.ref C) = true) (e7 : findIn K (.ref C) fld = some none) (e8 : findIn K (.ref C) "__init__" = some (some (.ref fI)))
    (e9 : typeIn K (.ref fI) = some (.type "function")) (f1 : K.lookup fI = some ⟨oca, oda, .func (fnI st ql cc cd kI doI pI anI ctI), sla⟩) (f2 : K.lookup cd = some ⟨occ, odc, .fields vs, slc⟩) (f3 : K.lookup cc = some ⟨oce, ode, .cell (some (.ref C)), sle⟩)
    (f4 : clsIn K C = some cdv) (f5 : mroIn K C (.ref C) = some true) (f6 : subIn K (.ref C) (.type "ValueError") = some true) (f7 : codeIn K (.ref cd) ql = true) (f8 : findIn K (.ref C) "__getattribute__" = some (some (.builtin "BaseException.__getattribute__")))
    (f9 : findIn K (.ref C) "__getattr__" = some none) (g1 : hasDictIn K C = true) (g2 : findIn K (.ref C) "__class__" = some (some (.builtin "object.__class__"))) (g3 : mroIn K C (.type "object") = some true)
    (r1 : PySem.HandSPX.refsVE bm = true) (r2 : vs[2]? = some (.str file tf)) (r3 : ((P.main.file : Str) == file) = true) (r4 : alongIn K "__init__" ((cdv.mro.dropWhile (· != .ref C)).drop 1) = some (some (.builtin "ValueError.__init__")))
    (r5 : ∃ ar, ((fnI st ql cc cd kI doI pI anI ctI).params.posonlyargs ++ (fnI st ql cc cd kI doI pI anI ctI).params.args).head? = some ar ∧ ar.arg = "self")
    (r6 : ∀ us : List Value, us.length = 2 → bindArgs (fnI st ql cc cd kI doI pI anI ctI) ⟨us, []⟩ = pure ((["self", x] : List Str).zip us)) : ErrT P K mg nm st ql fld x where
  C := C
  fI := fI
  cc := cc
  cd := cd
  kI := kI
  doI := doI
  pI := pI
  ctI := ctI
  anI := anI
  a := e1
  g := mg_of X G e1
  S := ⟨⟨_, _, _, f1⟩, r5, ⟨_, _, _, _, _, _, f2, r2, r3⟩, ⟨_, _, _, f3⟩, ⟨_, f4, r4⟩, f5, f6, B.op, B.top⟩
  hc := f7
  ox := ⟨⟨_, _, _, _, _, _, _, _, _, _, _, _, _, _, _, e2, r1⟩, e3, e4, e5, e6⟩
  no := e7
  iI := e8
  tI := e9
  bI := Binds.all fun us hl => r6 us hl
  xc := ⟨f8, f9, e4, g1, g2, B.spe, B.tak, g3⟩
  xf := ⟨f8, f9, e4, g1⟩
def leafT_mk (X : K.In h) (G : h.Ns mainGlobals mg) (B : ErrAll P K mg) {C : Addr} {bm : List Value} {newId : String}
    (e1 : nsIn K mainGlobals nm = some (some (.ref C))) (e2 : keepIn K (.ref C) = true) (e4 : subIn K (.ref C) (.type "BaseException") = some true) (f8 : findIn K (.ref C) "__getattribute__" = some (some (.builtin "BaseException.__getattribute__")))
    (f9 : findIn K (.ref C) "__getattr__" = some none) (g1 : hasDictIn K C = true) (g2 : findIn K (.ref C) "__class__" = some (some (.builtin "object.__class__"))) (g3 : mroIn K C (.type "object") = some true) (r1 : excIn K C bm newId = true) : LeafT K mg nm bm newId where
  C := C
  a := e1
  g := mg_of X G e1
  qx := r1
  kx := e2
  xc := ⟨f8, f9, e4, g1, g2, B.spe, B.tak, g3⟩
end
theorem errAll_mk {P : Program} {K : PySem.W.Frag} {mg : Str → Option Value} {h : Heap} (_ : K.In h) (a : nsIn K cStatics "thirdparty.any" = some none) (b : specialIn K (.builtin "object.__class__") "__get__" = some (some (.builtin "getset_descriptor.__get__")))
    (c : takesIn K (.builtin "object.__class__") = some true) (d : (P.main.scope.names.lookup ("super" : Str)).isSome = false) : ErrAll P K mg := ⟨a, b, c, d⟩
/-- the addresses of these names -/
def addrOf (K : PySem.W.Frag) (n : Str) : Addr := match nsIn K mainGlobals n with
  | some (some (.ref a)) => a
  | _ => 0
theorem addrOf_eq {K : PySem.W.Frag} {n : Str} {C : Addr} (h : nsIn K mainGlobals n = some (some (.ref C))) : addrOf K n = C := by
  unfold addrOf
  rw [h]
end CW

set_option Elab.async false
set_option linter.all false
set_option maxRecDepth 100000
set_option maxHeartbeats 2000000
/-! what repr asks of data -/
namespace CW
open PySem PySem.Spec PyProof.Rows L2
theorem sh_all : ∀ {ds : List PyData}, (∀ d ∈ ds, d.showable = true) → PyData.showableAll ds = true
  | [], _ => rfl
  | d :: r, h => by
    rw [PyData.showableAll, h d List.mem_cons_self, sh_all (ds := r) fun e he => h e (List.mem_cons_of_mem _ he)]; rfl
theorem hd_all : ∀ {ds : List PyData}, (∀ d ∈ ds, d.hasDict = false) → PyData.hasDictAll ds = false
  | [], _ => rfl
  | d :: r, h => by
    rw [PyData.hasDictAll, h d List.mem_cons_self, hd_all (ds := r) fun e he => h e (List.mem_cons_of_mem _ he)]; rfl
theorem dp_all {n : Nat} : ∀ {ds : List PyData}, (∀ d ∈ ds, d.depth ≤ n) → PyData.depthAll ds ≤ n
  | [], _ => Nat.zero_le _
  | d :: r, h => by
    rw [PyData.depthAll]
    exact Nat.max_le.mpr ⟨h d List.mem_cons_self, dp_all (ds := r) fun e he => h e (List.mem_cons_of_mem _ he)⟩
theorem shown_map : ∀ ds : List PyData, PyData.shownAll ds = ds.map PyData.shown
  | [] => rfl
  | d :: r => by rw [PyData.shownAll, shown_map r]; rfl
theorem sum_len_le {B : Nat} : ∀ {ts : List Str}, (∀ t ∈ ts, t.length ≤ B) → (ts.map (·.length)).sum ≤ B * ts.length
  | [], _ => Nat.zero_le _
  | t :: r, h => by
    have h1 := h t List.mem_cons_self
    have h2 := sum_len_le (ts := r) fun u hu => h u (List.mem_cons_of_mem _ hu)
    rw [List.map_cons, List.sum_cons, List.length_cons, Nat.mul_succ]
    omega
theorem list_text_le {B : Nat} {ds : List PyData} (h : ∀ d ∈ ds, d.shown.length ≤ B) : (PyData.list ds).shown.length ≤ (B + 2) * ds.length + 3 := by
  have h0 : (PyData.list ds).shown = listText (ds.map PyData.shown) := by rw [PyData.shown, shown_map]
  have h1 := listText_len_le (ds.map PyData.shown)
  have h2 := sum_len_le (B := B) (ts := ds.map PyData.shown) fun t ht => by
    obtain ⟨d, hd, rfl⟩ := List.mem_map.mp ht
    exact h d hd
  rw [h0]
  rw [List.length_map] at h1 h2
  rw [Nat.add_mul]
  omega
theorem tup_text_le {B : Nat} {ds : List PyData} (h : ∀ d ∈ ds, d.shown.length ≤ B) : (PyData.tuple ds).shown.length ≤ (B + 2) * ds.length + 2 := by
  have h0 : (PyData.tuple ds).shown = tupleText (ds.map PyData.shown) := by rw [PyData.shown, shown_map]
  have h1 := fmt_text (ds.map PyData.shown)
  have h2 : ∀ ts : List Str, (∀ t ∈ ts, t.length ≤ B) → piled ts ≤ (B + 2) * ts.length := by
    intro ts
    induction ts with
    | nil => intro _; exact Nat.zero_le _
    | cons t r ih =>
      intro ht
      have a := ht t List.mem_cons_self
      have b := ih fun u hu => ht u (List.mem_cons_of_mem _ hu)
      rw [piled_cons, List.length_cons, Nat.mul_succ]
      omega
  have h3 := h2 (ds.map PyData.shown) fun t ht => by
    obtain ⟨d, hd, rfl⟩ := List.mem_map.mp ht
    exact h d hd
  rw [h0]
  rw [List.length_map] at h3
  omega
theorem str_text_le {z : Str} (h : ascS z = true) : (PyData.str z).shown.length ≤ 10 * z.length + 4 := by
  have := StrLaws.reprText_len z fun c hc => Nat.lt_trans (of_decide_eq_true (List.all_eq_true.mp h c hc)) (by decide)
  rw [PyData.shown]
  omega
theorem cutV_len {xs : List V} {lo hi : Int} (h0 : 0 ≤ lo) (h1 : lo ≤ hi) (h2 : lo ≤ (xs.length : Int)) : (cutV xs (some lo) (some hi)).length ≤ (hi - lo).toNat := by
  obtain ⟨i, rfl⟩ : ∃ k : Nat, lo = (k : Int) := ⟨lo.toNat, by omega⟩
  obtain ⟨j, rfl⟩ : ∃ k : Nat, hi = (k : Int) := ⟨hi.toNat, by omega⟩
  unfold cutV
  rw [HT.sIx_nat, HT.sIx_nat, List.length_take]
  omega
end CW

set_option Elab.async false
set_option linter.all false
set_option maxRecDepth 100000
set_option maxHeartbeats 2000000
namespace K09
open PySem PySem.Spec PyProof.Rows L2 NdefX CW RZ
open PySem.W (fnX)
def VEb : List Value := [.type "ValueError", .type "Exception", .type "BaseException", .type "object"]
def topS (i : Nat) : Stmt := PySem.Challenge.pw_claimworlds_k09_errors_made.main.body.getD i (.Pass ⟨0, 0, 0, 0⟩)
abbrev s__law_cell : Stmt := topS 36
abbrev N__law_cell : List Str := ["script", "k", "seed", "cell"]
theorem sc__law_cell : FnScope N__law_cell ["script", "k"] (defScope s__law_cell) := ⟨rfl, rfl, rfl, by decide +kernel, rfl, by decide +kernel, by decide +kernel⟩
abbrev s__law_digits : Stmt := topS 37
abbrev N__law_digits : List Str := ["cell", "sizes", "row", "rest", "size", "seed", "k", "twice"]
theorem sc__law_digits : FnScope N__law_digits ["cell", "sizes"] (defScope s__law_digits) := ⟨rfl, rfl, rfl, by decide +kernel, rfl, by decide +kernel, by decide +kernel⟩
abbrev s__law_text : Stmt := topS 38
abbrev N__law_text : List Str := ["row", "signs", "digit"]
theorem sc__law_text : FnScope N__law_text ["row"] (defScope s__law_text) := ⟨rfl, rfl, rfl, by decide +kernel, rfl, by decide +kernel, by decide +kernel⟩
abbrev s__law_values : Stmt := topS 39
abbrev N__law_values : List Str := ["cell", "row", "letters", "text", "k"]
theorem sc__law_values : FnScope N__law_values ["cell"] (defScope s__law_values) := ⟨rfl, rfl, rfl, by decide +kernel, rfl, by decide +kernel, by decide +kernel⟩
abbrev s__law_named : Stmt := topS 40
abbrev N__law_named : List Str := ["text"]
theorem sc__law_named : FnScope N__law_named ["text"] (defScope s__law_named) := ⟨rfl, rfl, rfl, by decide +kernel, rfl, by decide +kernel, by decide +kernel⟩
abbrev s__law_columned : Stmt := topS 41
abbrev N__law_columned : List Str := ["number"]
theorem sc__law_columned : FnScope N__law_columned ["number"] (defScope s__law_columned) := ⟨rfl, rfl, rfl, by decide +kernel, rfl, by decide +kernel, by decide +kernel⟩
abbrev s__law_numbered : Stmt := topS 42
abbrev N__law_numbered : List Str := ["number"]
theorem sc__law_numbered : FnScope N__law_numbered ["number"] (defScope s__law_numbered) := ⟨rfl, rfl, rfl, by decide +kernel, rfl, by decide +kernel, by decide +kernel⟩
abbrev s__law_indexed : Stmt := topS 43
abbrev N__law_indexed : List Str := ["number"]
theorem sc__law_indexed : FnScope N__law_indexed ["number"] (defScope s__law_indexed) := ⟨rfl, rfl, rfl, by decide +kernel, rfl, by decide +kernel, by decide +kernel⟩
abbrev s__law_others : Stmt := topS 44
abbrev N__law_others : List Str := ["values"]
theorem sc__law_others : FnScope N__law_others ["values"] (defScope s__law_others) := ⟨rfl, rfl, rfl, by decide +kernel, rfl, by decide +kernel, by decide +kernel⟩
abbrev s__law_plain : Stmt := topS 45
abbrev N__law_plain : List Str := []
theorem sc__law_plain : FnScope N__law_plain [] (defScope s__law_plain) := ⟨rfl, rfl, rfl, by decide +kernel, rfl, by decide +kernel, by decide +kernel⟩
abbrev s__law_all : Stmt := topS 46
abbrev N__law_all : List Str := ["values", "made"]
theorem sc__law_all : FnScope N__law_all ["values"] (defScope s__law_all) := ⟨rfl, rfl, rfl, by decide +kernel, rfl, by decide +kernel, by decide +kernel⟩
abbrev s__law_kinds : Stmt := topS 47
abbrev N__law_kinds : List Str := ["e", "kinds"]
theorem sc__law_kinds : FnScope N__law_kinds ["e"] (defScope s__law_kinds) := ⟨rfl, rfl, rfl, by decide +kernel, rfl, by decide +kernel, by decide +kernel⟩
abbrev s__law_fields : Stmt := topS 48
abbrev N__law_fields : List Str := ["made", "told", "e"]
theorem sc__law_fields : FnScope N__law_fields ["made"] (defScope s__law_fields) := ⟨rfl, rfl, rfl, by decide +kernel, rfl, by decide +kernel, by decide +kernel⟩
abbrev s__law_due : Stmt := topS 49
abbrev N__law_due : List Str := ["values", "due", "k"]
theorem sc__law_due : FnScope N__law_due ["values"] (defScope s__law_due) := ⟨rfl, rfl, rfl, by decide +kernel, rfl, by decide +kernel, by decide +kernel⟩
abbrev s_law : Stmt := topS 50
abbrev N_law : List Str := ["script", "one", "two", "first", "second", "made", "k", "at", "kinds"]
theorem sc_law : FnScope N_law ["script"] (defScope s_law) := ⟨rfl, rfl, rfl, by decide +kernel, rfl, by decide +kernel, by decide +kernel⟩
abbrev s_BadName___init__ : Stmt := inClass (topS 3) 0
abbrev s_NameTaken___init__ : Stmt := inClass (topS 4) 0
abbrev s_NoSort___init__ : Stmt := inClass (topS 5) 0
abbrev s_ReservedName___init__ : Stmt := inClass (topS 6) 0
abbrev s_NotSentence___init__ : Stmt := inClass (topS 7) 0
abbrev s_NoAxiom___init__ : Stmt := inClass (topS 8) 0
abbrev s_BadTable___init__ : Stmt := inClass (topS 9) 0
abbrev s_BadWeight___init__ : Stmt := inClass (topS 10) 0
abbrev s_BadSize___init__ : Stmt := inClass (topS 11) 0
abbrev s_BadPlace___init__ : Stmt := inClass (topS 12) 0
abbrev s_FilledTwice___init__ : Stmt := inClass (topS 13) 0
abbrev s_NoSelection___init__ : Stmt := inClass (topS 14) 0
abbrev s_BadText___init__ : Stmt := inClass (topS 15) 0
abbrev s_UnknownName___init__ : Stmt := inClass (topS 16) 0
abbrev s_WrongCount___init__ : Stmt := inClass (topS 17) 0
abbrev s_WrongSort___init__ : Stmt := inClass (topS 18) 0
abbrev s_NameBound___init__ : Stmt := inClass (topS 19) 0
abbrev s_BadLine___init__ : Stmt := inClass (topS 20) 0
abbrev s_NoClause___init__ : Stmt := inClass (topS 21) 0
abbrev s_NotWaiting___init__ : Stmt := inClass (topS 22) 0
abbrev s_BadStep___init__ : Stmt := inClass (topS 23) 0
abbrev s_NotUnit___init__ : Stmt := inClass (topS 24) 0
abbrev s_NotUnits___init__ : Stmt := inClass (topS 25) 0
abbrev s_BadClause___init__ : Stmt := inClass (topS 26) 0
abbrev s_TooHeavy___init__ : Stmt := inClass (topS 27) 0
/-- which class is which: L the classes without subclasses, in their order -/
def kitB (K : PySem.W.Frag) (L : List Addr) (cl te : Addr) : Bool :=
  L.zipIdx.all fun p => (L.zipIdx.all fun q => decide (PySem.W.kitOne K (.ref p.1) (.ref q.1) = some (p.2 == q.2))) && (decide (PySem.W.kitOne K (.ref p.1) (.ref cl) = some true) && (decide (PySem.W.kitOne K (.ref p.1) (.type "ValueError") = some true) && decide (PySem.W.kitOne K (.ref p.1) (.ref te) = some (decide (9 ≤ p.2) && decide (p.2 < 14)))))
theorem zip_get {L : List Addr} {i : Nat} {c : Addr} (h : L[i]? = some c) : (c, i) ∈ L.zipIdx := by
  have h2 : L.zipIdx[i]? = some (c, i) := by rw [List.getElem?_zipIdx, h]; simp
  exact List.mem_of_getElem? h2
theorem kit_at {K : PySem.W.Frag} {L : List Addr} {cl te : Addr} (h : kitB K L cl te = true) {i : Nat} {c : Addr} (hc : L[i]? = some c) :
    (∀ j d, L[j]? = some d → PySem.W.kitOne K (.ref c) (.ref d) = some (i == j)) ∧ PySem.W.kitOne K (.ref c) (.ref cl) = some true ∧ PySem.W.kitOne K (.ref c) (.type "ValueError") = some true ∧ PySem.W.kitOne K (.ref c) (.ref te) = some (decide (9 ≤ i) && decide (i < 14)) := by
  have h1 := List.all_eq_true.mp h _ (zip_get hc)
  rw [Bool.and_eq_true, Bool.and_eq_true, Bool.and_eq_true] at h1
  obtain ⟨a, b, d, e⟩ := h1
  exact ⟨fun j y hy => of_decide_eq_true (List.all_eq_true.mp a _ (zip_get hy)), of_decide_eq_true b, of_decide_eq_true d, of_decide_eq_true e⟩
def kitN (K : PySem.W.Frag) (L : List Str) : Bool := kitB K (L.map (addrOf K)) (addrOf K "ClaimError") (addrOf K "TextError")
set_option hygiene false
structure Top0 (P : Program) (K : PySem.W.Frag) (mg : Str → Option Value) where
  f__law_cell : Addr
  fd__law_cell : FuncData
  F__law_cell : Fun K "_law_cell" "_law_cell" s__law_cell f__law_cell fd__law_cell
  b__law_cell : Binds K fd__law_cell ["script", "k"] []
  g__law_cell : mg "_law_cell" = some (.ref f__law_cell)
  f__law_digits : Addr
  fd__law_digits : FuncData
  F__law_digits : Fun K "_law_digits" "_law_digits" s__law_digits f__law_digits fd__law_digits
  b__law_digits : Binds K fd__law_digits ["cell", "sizes"] []
  g__law_digits : mg "_law_digits" = some (.ref f__law_digits)
  f__law_text : Addr
  fd__law_text : FuncData
  F__law_text : Fun K "_law_text" "_law_text" s__law_text f__law_text fd__law_text
  b__law_text : Binds K fd__law_text ["row"] []
  g__law_text : mg "_law_text" = some (.ref f__law_text)
  f__law_values : Addr
  fd__law_values : FuncData
  F__law_values : Fun K "_law_values" "_law_values" s__law_values f__law_values fd__law_values
  b__law_values : Binds K fd__law_values ["cell"] []
  g__law_values : mg "_law_values" = some (.ref f__law_values)
  f__law_named : Addr
  fd__law_named : FuncData
  F__law_named : Fun K "_law_named" "_law_named" s__law_named f__law_named fd__law_named
  b__law_named : Binds K fd__law_named ["text"] []
  g__law_named : mg "_law_named" = some (.ref f__law_named)
  f__law_columned : Addr
  fd__law_columned : FuncData
  F__law_columned : Fun K "_law_columned" "_law_columned" s__law_columned f__law_columned fd__law_columned
  b__law_columned : Binds K fd__law_columned ["number"] []
  g__law_columned : mg "_law_columned" = some (.ref f__law_columned)
  f__law_numbered : Addr
  fd__law_numbered : FuncData
  F__law_numbered : Fun K "_law_numbered" "_law_numbered" s__law_numbered f__law_numbered fd__law_numbered
  b__law_numbered : Binds K fd__law_numbered ["number"] []
  g__law_numbered : mg "_law_numbered" = some (.ref f__law_numbered)
  f__law_indexed : Addr
  fd__law_indexed : FuncData
  F__law_indexed : Fun K "_law_indexed" "_law_indexed" s__law_indexed f__law_indexed fd__law_indexed
  b__law_indexed : Binds K fd__law_indexed ["number"] []
  g__law_indexed : mg "_law_indexed" = some (.ref f__law_indexed)
  f__law_others : Addr
  fd__law_others : FuncData
  F__law_others : Fun K "_law_others" "_law_others" s__law_others f__law_others fd__law_others
  b__law_others : Binds K fd__law_others ["values"] []
  g__law_others : mg "_law_others" = some (.ref f__law_others)
  f__law_plain : Addr
  fd__law_plain : FuncData
  F__law_plain : Fun K "_law_plain" "_law_plain" s__law_plain f__law_plain fd__law_plain
  b__law_plain : Binds K fd__law_plain [] []
  g__law_plain : mg "_law_plain" = some (.ref f__law_plain)
  f__law_all : Addr
  fd__law_all : FuncData
  F__law_all : Fun K "_law_all" "_law_all" s__law_all f__law_all fd__law_all
  b__law_all : Binds K fd__law_all ["values"] []
  g__law_all : mg "_law_all" = some (.ref f__law_all)
  f__law_kinds : Addr
  fd__law_kinds : FuncData
  F__law_kinds : Fun K "_law_kinds" "_law_kinds" s__law_kinds f__law_kinds fd__law_kinds
  b__law_kinds : Binds K fd__law_kinds ["e"] []
  g__law_kinds : mg "_law_kinds" = some (.ref f__law_kinds)
  f__law_fields : Addr
  fd__law_fields : FuncData
  F__law_fields : Fun K "_law_fields" "_law_fields" s__law_fields f__law_fields fd__law_fields
  b__law_fields : Binds K fd__law_fields ["made"] []
  g__law_fields : mg "_law_fields" = some (.ref f__law_fields)
  f__law_due : Addr
  fd__law_due : FuncData
  F__law_due : Fun K "_law_due" "_law_due" s__law_due f__law_due fd__law_due
  b__law_due : Binds K fd__law_due ["values"] []
  g__law_due : mg "_law_due" = some (.ref f__law_due)
  f_law : Addr
  fd_law : FuncData
  F_law : Fun K "law" "law" s_law f_law fd_law
  b_law : Binds K fd_law ["script"] []
  g_law : mg "law" = some (.ref f_law)
  n_ValueError : mg "ValueError" = none
  n_int : mg "int" = none
  n_isinstance : mg "isinstance" = none
  n_len : mg "len" = none
  n_range : mg "range" = none
  n_repr : mg "repr" = none
  n_str : mg "str" = none
  n_tuple : mg "tuple" = none
  C_ClaimError : Addr
  a_ClaimError : PySem.W.nsIn K mainGlobals "ClaimError" = some (some (.ref C_ClaimError))
  g_ClaimError : mg "ClaimError" = some (.ref C_ClaimError)
  C_TextError : Addr
  a_TextError : PySem.W.nsIn K mainGlobals "TextError" = some (some (.ref C_TextError))
  g_TextError : mg "TextError" = some (.ref C_TextError)
  E_BadName : ErrT P K mg "BadName" s_BadName___init__ "BadName.__init__" "name" "name"
  E_NameTaken : ErrT P K mg "NameTaken" s_NameTaken___init__ "NameTaken.__init__" "name" "name"
  E_NoSort : ErrT P K mg "NoSort" s_NoSort___init__ "NoSort.__init__" "name" "name"
  E_ReservedName : ErrT P K mg "ReservedName" s_ReservedName___init__ "ReservedName.__init__" "name" "name"
  E_NotSentence : ErrT P K mg "NotSentence" s_NotSentence___init__ "NotSentence.__init__" "name" "name"
  E_NoAxiom : ErrT P K mg "NoAxiom" s_NoAxiom___init__ "NoAxiom.__init__" "name" "name"
  E_BadTable : ErrT P K mg "BadTable" s_BadTable___init__ "BadTable.__init__" "name" "name"
  E_BadWeight : ErrT P K mg "BadWeight" s_BadWeight___init__ "BadWeight.__init__" "name" "name"
  E_BadSize : ErrT P K mg "BadSize" s_BadSize___init__ "BadSize.__init__" "name" "name"
  E_BadPlace : ErrT P K mg "BadPlace" s_BadPlace___init__ "BadPlace.__init__" "place" "place"
  E_FilledTwice : ErrT P K mg "FilledTwice" s_FilledTwice___init__ "FilledTwice.__init__" "variable" "variable"
  E_NoSelection : ErrT P K mg "NoSelection" s_NoSelection___init__ "NoSelection.__init__" "selection" "selection"
  E_BadText : ErrT P K mg "BadText" s_BadText___init__ "BadText.__init__" "column" "column"
  E_UnknownName : ErrT P K mg "UnknownName" s_UnknownName___init__ "UnknownName.__init__" "column" "column"
  E_WrongCount : ErrT P K mg "WrongCount" s_WrongCount___init__ "WrongCount.__init__" "column" "column"
  E_WrongSort : ErrT P K mg "WrongSort" s_WrongSort___init__ "WrongSort.__init__" "column" "column"
  E_NameBound : ErrT P K mg "NameBound" s_NameBound___init__ "NameBound.__init__" "column" "column"
  E_BadLine : ErrT P K mg "BadLine" s_BadLine___init__ "BadLine.__init__" "number" "number"
  E_NoClause : ErrT P K mg "NoClause" s_NoClause___init__ "NoClause.__init__" "number" "number"
  E_NotWaiting : ErrT P K mg "NotWaiting" s_NotWaiting___init__ "NotWaiting.__init__" "number" "number"
  E_BadStep : ErrT P K mg "BadStep" s_BadStep___init__ "BadStep.__init__" "index" "index"
  E_NotUnit : ErrT P K mg "NotUnit" s_NotUnit___init__ "NotUnit.__init__" "index" "index"
  E_NotUnits : ErrT P K mg "NotUnits" s_NotUnits___init__ "NotUnits.__init__" "index" "index"
  E_BadClause : ErrT P K mg "BadClause" s_BadClause___init__ "BadClause.__init__" "index" "index"
  E_TooHeavy : ErrT P K mg "TooHeavy" s_TooHeavy___init__ "TooHeavy.__init__" "load" "load"
  E_TooLong : LeafT K mg "TooLong" VEb "ValueError.__new__"
  E_TooMany : LeafT K mg "TooMany" VEb "ValueError.__new__"
  E_NoSteps : LeafT K mg "NoSteps" VEb "ValueError.__new__"
  E_NotRefutation : LeafT K mg "NotRefutation" VEb "ValueError.__new__"
  E_RunOver : LeafT K mg "RunOver" VEb "ValueError.__new__"
  E_GivenDiffer : LeafT K mg "GivenDiffer" VEb "ValueError.__new__"
  E_NotEnded : LeafT K mg "NotEnded" VEb "ValueError.__new__"
  n_super : mg "super" = none
  kit : kitN K ["BadName", "NameTaken", "NoSort", "ReservedName", "NotSentence", "NoAxiom", "BadTable", "BadWeight", "BadSize", "BadText", "UnknownName", "WrongCount", "WrongSort", "NameBound", "BadLine", "NoClause", "NotWaiting", "BadStep", "NotUnit", "NotUnits", "BadClause", "BadPlace", "FilledTwice", "NoSelection", "TooHeavy", "TooLong", "TooMany", "NoSteps", "NotRefutation", "RunOver", "GivenDiffer", "NotEnded"] = true
section
variable {P : Program} {K : PySem.W.Frag} {mg : Str → Option Value} (T : Top0 P K mg)
abbrev Top0.C_BadName : Addr := T.E_BadName.C
abbrev Top0.fI_BadName : Addr := T.E_BadName.fI
abbrev Top0.cc_BadName : Addr := T.E_BadName.cc
abbrev Top0.cd_BadName : Addr := T.E_BadName.cd
theorem Top0.g_BadName : mg "BadName" = some (.ref T.C_BadName) := T.E_BadName.g
theorem Top0.ox_BadName : OexC K T.C_BadName := T.E_BadName.ox
theorem Top0.no_BadName : PySem.W.findIn K (.ref T.C_BadName) "name" = some none := T.E_BadName.no
theorem Top0.iI_BadName : PySem.W.findIn K (.ref T.C_BadName) "__init__" = some (some (.ref T.fI_BadName)) := T.E_BadName.iI
theorem Top0.tI_BadName : PySem.W.typeIn K (.ref T.fI_BadName) = some (.type "function") := T.E_BadName.tI
theorem Top0.bI_BadName : Binds K (fnI s_BadName___init__ "BadName.__init__" T.cc_BadName T.cd_BadName T.E_BadName.kI T.E_BadName.doI T.E_BadName.pI T.E_BadName.anI T.E_BadName.ctI) ["self", "name"] [] := T.E_BadName.bI
theorem Top0.xc_BadName : ExcC K T.C_BadName := T.E_BadName.xc
theorem Top0.xf_BadName : XfC K T.C_BadName := T.E_BadName.xf
abbrev Top0.C_NameTaken : Addr := T.E_NameTaken.C
abbrev Top0.fI_NameTaken : Addr := T.E_NameTaken.fI
abbrev Top0.cc_NameTaken : Addr := T.E_NameTaken.cc
abbrev Top0.cd_NameTaken : Addr := T.E_NameTaken.cd
theorem Top0.g_NameTaken : mg "NameTaken" = some (.ref T.C_NameTaken) := T.E_NameTaken.g
theorem Top0.ox_NameTaken : OexC K T.C_NameTaken := T.E_NameTaken.ox
theorem Top0.no_NameTaken : PySem.W.findIn K (.ref T.C_NameTaken) "name" = some none := T.E_NameTaken.no
theorem Top0.iI_NameTaken : PySem.W.findIn K (.ref T.C_NameTaken) "__init__" = some (some (.ref T.fI_NameTaken)) := T.E_NameTaken.iI
theorem Top0.tI_NameTaken : PySem.W.typeIn K (.ref T.fI_NameTaken) = some (.type "function") := T.E_NameTaken.tI
theorem Top0.bI_NameTaken : Binds K (fnI s_NameTaken___init__ "NameTaken.__init__" T.cc_NameTaken T.cd_NameTaken T.E_NameTaken.kI T.E_NameTaken.doI T.E_NameTaken.pI T.E_NameTaken.anI T.E_NameTaken.ctI) ["self", "name"] [] := T.E_NameTaken.bI
theorem Top0.xc_NameTaken : ExcC K T.C_NameTaken := T.E_NameTaken.xc
theorem Top0.xf_NameTaken : XfC K T.C_NameTaken := T.E_NameTaken.xf
abbrev Top0.C_NoSort : Addr := T.E_NoSort.C
abbrev Top0.fI_NoSort : Addr := T.E_NoSort.fI
abbrev Top0.cc_NoSort : Addr := T.E_NoSort.cc
abbrev Top0.cd_NoSort : Addr := T.E_NoSort.cd
theorem Top0.g_NoSort : mg "NoSort" = some (.ref T.C_NoSort) := T.E_NoSort.g
theorem Top0.ox_NoSort : OexC K T.C_NoSort := T.E_NoSort.ox
theorem Top0.no_NoSort : PySem.W.findIn K (.ref T.C_NoSort) "name" = some none := T.E_NoSort.no
theorem Top0.iI_NoSort : PySem.W.findIn K (.ref T.C_NoSort) "__init__" = some (some (.ref T.fI_NoSort)) := T.E_NoSort.iI
theorem Top0.tI_NoSort : PySem.W.typeIn K (.ref T.fI_NoSort) = some (.type "function") := T.E_NoSort.tI
theorem Top0.bI_NoSort : Binds K (fnI s_NoSort___init__ "NoSort.__init__" T.cc_NoSort T.cd_NoSort T.E_NoSort.kI T.E_NoSort.doI T.E_NoSort.pI T.E_NoSort.anI T.E_NoSort.ctI) ["self", "name"] [] := T.E_NoSort.bI
theorem Top0.xc_NoSort : ExcC K T.C_NoSort := T.E_NoSort.xc
theorem Top0.xf_NoSort : XfC K T.C_NoSort := T.E_NoSort.xf
abbrev Top0.C_ReservedName : Addr := T.E_ReservedName.C
abbrev Top0.fI_ReservedName : Addr := T.E_ReservedName.fI
abbrev Top0.cc_ReservedName : Addr := T.E_ReservedName.cc
abbrev Top0.cd_ReservedName : Addr := T.E_ReservedName.cd
theorem Top0.g_ReservedName : mg "ReservedName" = some (.ref T.C_ReservedName) := T.E_ReservedName.g
theorem Top0.ox_ReservedName : OexC K T.C_ReservedName := T.E_ReservedName.ox
theorem Top0.no_ReservedName : PySem.W.findIn K (.ref T.C_ReservedName) "name" = some none := T.E_ReservedName.no
theorem Top0.iI_ReservedName : PySem.W.findIn K (.ref T.C_ReservedName) "__init__" = some (some (.ref T.fI_ReservedName)) := T.E_ReservedName.iI
theorem Top0.tI_ReservedName : PySem.W.typeIn K (.ref T.fI_ReservedName) = some (.type "function") := T.E_ReservedName.tI
theorem Top0.bI_ReservedName : Binds K (fnI s_ReservedName___init__ "ReservedName.__init__" T.cc_ReservedName T.cd_ReservedName T.E_ReservedName.kI T.E_ReservedName.doI T.E_ReservedName.pI T.E_ReservedName.anI T.E_ReservedName.ctI) ["self", "name"] [] := T.E_ReservedName.bI
theorem Top0.xc_ReservedName : ExcC K T.C_ReservedName := T.E_ReservedName.xc
theorem Top0.xf_ReservedName : XfC K T.C_ReservedName := T.E_ReservedName.xf
abbrev Top0.C_NotSentence : Addr := T.E_NotSentence.C
abbrev Top0.fI_NotSentence : Addr := T.E_NotSentence.fI
abbrev Top0.cc_NotSentence : Addr := T.E_NotSentence.cc
abbrev Top0.cd_NotSentence : Addr := T.E_NotSentence.cd
theorem Top0.g_NotSentence : mg "NotSentence" = some (.ref T.C_NotSentence) := T.E_NotSentence.g
theorem Top0.ox_NotSentence : OexC K T.C_NotSentence := T.E_NotSentence.ox
theorem Top0.no_NotSentence : PySem.W.findIn K (.ref T.C_NotSentence) "name" = some none := T.E_NotSentence.no
theorem Top0.iI_NotSentence : PySem.W.findIn K (.ref T.C_NotSentence) "__init__" = some (some (.ref T.fI_NotSentence)) := T.E_NotSentence.iI
theorem Top0.tI_NotSentence : PySem.W.typeIn K (.ref T.fI_NotSentence) = some (.type "function") := T.E_NotSentence.tI
theorem Top0.bI_NotSentence : Binds K (fnI s_NotSentence___init__ "NotSentence.__init__" T.cc_NotSentence T.cd_NotSentence T.E_NotSentence.kI T.E_NotSentence.doI T.E_NotSentence.pI T.E_NotSentence.anI T.E_NotSentence.ctI) ["self", "name"] [] := T.E_NotSentence.bI
theorem Top0.xc_NotSentence : ExcC K T.C_NotSentence := T.E_NotSentence.xc
theorem Top0.xf_NotSentence : XfC K T.C_NotSentence := T.E_NotSentence.xf
abbrev Top0.C_NoAxiom : Addr := T.E_NoAxiom.C
abbrev Top0.fI_NoAxiom : Addr := T.E_NoAxiom.fI
abbrev Top0.cc_NoAxiom : Addr := T.E_NoAxiom.cc
abbrev Top0.cd_NoAxiom : Addr := T.E_NoAxiom.cd
theorem Top0.g_NoAxiom : mg "NoAxiom" = some (.ref T.C_NoAxiom) := T.E_NoAxiom.g
theorem Top0.ox_NoAxiom : OexC K T.C_NoAxiom := T.E_NoAxiom.ox
theorem Top0.no_NoAxiom : PySem.W.findIn K (.ref T.C_NoAxiom) "name" = some none := T.E_NoAxiom.no
theorem Top0.iI_NoAxiom : PySem.W.findIn K (.ref T.C_NoAxiom) "__init__" = some (some (.ref T.fI_NoAxiom)) := T.E_NoAxiom.iI
theorem Top0.tI_NoAxiom : PySem.W.typeIn K (.ref T.fI_NoAxiom) = some (.type "function") := T.E_NoAxiom.tI
theorem Top0.bI_NoAxiom : Binds K (fnI s_NoAxiom___init__ "NoAxiom.__init__" T.cc_NoAxiom T.cd_NoAxiom T.E_NoAxiom.kI T.E_NoAxiom.doI T.E_NoAxiom.pI T.E_NoAxiom.anI T.E_NoAxiom.ctI) ["self", "name"] [] := T.E_NoAxiom.bI
theorem Top0.xc_NoAxiom : ExcC K T.C_NoAxiom := T.E_NoAxiom.xc
theorem Top0.xf_NoAxiom : XfC K T.C_NoAxiom := T.E_NoAxiom.xf
abbrev Top0.C_BadTable : Addr := T.E_BadTable.C
abbrev Top0.fI_BadTable : Addr := T.E_BadTable.fI
abbrev Top0.cc_BadTable : Addr := T.E_BadTable.cc
abbrev Top0.cd_BadTable : Addr := T.E_BadTable.cd
theorem Top0.g_BadTable : mg "BadTable" = some (.ref T.C_BadTable) := T.E_BadTable.g
theorem Top0.ox_BadTable : OexC K T.C_BadTable := T.E_BadTable.ox
theorem Top0.no_BadTable : PySem.W.findIn K (.ref T.C_BadTable) "name" = some none := T.E_BadTable.no
theorem Top0.iI_BadTable : PySem.W.findIn K (.ref T.C_BadTable) "__init__" = some (some (.ref T.fI_BadTable)) := T.E_BadTable.iI
theorem Top0.tI_BadTable : PySem.W.typeIn K (.ref T.fI_BadTable) = some (.type "function") := T.E_BadTable.tI
theorem Top0.bI_BadTable : Binds K (fnI s_BadTable___init__ "BadTable.__init__" T.cc_BadTable T.cd_BadTable T.E_BadTable.kI T.E_BadTable.doI T.E_BadTable.pI T.E_BadTable.anI T.E_BadTable.ctI) ["self", "name"] [] := T.E_BadTable.bI
theorem Top0.xc_BadTable : ExcC K T.C_BadTable := T.E_BadTable.xc
theorem Top0.xf_BadTable : XfC K T.C_BadTable := T.E_BadTable.xf
abbrev Top0.C_BadWeight : Addr := T.E_BadWeight.C
abbrev Top0.fI_BadWeight : Addr := T.E_BadWeight.fI
abbrev Top0.cc_BadWeight : Addr := T.E_BadWeight.cc
abbrev Top0.cd_BadWeight : Addr := T.E_BadWeight.cd
theorem Top0.g_BadWeight : mg "BadWeight" = some (.ref T.C_BadWeight) := T.E_BadWeight.g
theorem Top0.ox_BadWeight : OexC K T.C_BadWeight := T.E_BadWeight.ox
theorem Top0.no_BadWeight : PySem.W.findIn K (.ref T.C_BadWeight) "name" = some none := T.E_BadWeight.no
theorem Top0.iI_BadWeight : PySem.W.findIn K (.ref T.C_BadWeight) "__init__" = some (some (.ref T.fI_BadWeight)) := T.E_BadWeight.iI
theorem Top0.tI_BadWeight : PySem.W.typeIn K (.ref T.fI_BadWeight) = some (.type "function") := T.E_BadWeight.tI
theorem Top0.bI_BadWeight : Binds K (fnI s_BadWeight___init__ "BadWeight.__init__" T.cc_BadWeight T.cd_BadWeight T.E_BadWeight.kI T.E_BadWeight.doI T.E_BadWeight.pI T.E_BadWeight.anI T.E_BadWeight.ctI) ["self", "name"] [] := T.E_BadWeight.bI
theorem Top0.xc_BadWeight : ExcC K T.C_BadWeight := T.E_BadWeight.xc
theorem Top0.xf_BadWeight : XfC K T.C_BadWeight := T.E_BadWeight.xf
abbrev Top0.C_BadSize : Addr := T.E_BadSize.C
abbrev Top0.fI_BadSize : Addr := T.E_BadSize.fI
abbrev Top0.cc_BadSize : Addr := T.E_BadSize.cc
abbrev Top0.cd_BadSize : Addr := T.E_BadSize.cd
theorem Top0.g_BadSize : mg "BadSize" = some (.ref T.C_BadSize) := T.E_BadSize.g
theorem Top0.ox_BadSize : OexC K T.C_BadSize := T.E_BadSize.ox
theorem Top0.no_BadSize : PySem.W.findIn K (.ref T.C_BadSize) "name" = some none := T.E_BadSize.no
theorem Top0.iI_BadSize : PySem.W.findIn K (.ref T.C_BadSize) "__init__" = some (some (.ref T.fI_BadSize)) := T.E_BadSize.iI
theorem Top0.tI_BadSize : PySem.W.typeIn K (.ref T.fI_BadSize) = some (.type "function") := T.E_BadSize.tI
theorem Top0.bI_BadSize : Binds K (fnI s_BadSize___init__ "BadSize.__init__" T.cc_BadSize T.cd_BadSize T.E_BadSize.kI T.E_BadSize.doI T.E_BadSize.pI T.E_BadSize.anI T.E_BadSize.ctI) ["self", "name"] [] := T.E_BadSize.bI
theorem Top0.xc_BadSize : ExcC K T.C_BadSize := T.E_BadSize.xc
theorem Top0.xf_BadSize : XfC K T.C_BadSize := T.E_BadSize.xf
abbrev Top0.C_BadPlace : Addr := T.E_BadPlace.C
abbrev Top0.fI_BadPlace : Addr := T.E_BadPlace.fI
abbrev Top0.cc_BadPlace : Addr := T.E_BadPlace.cc
abbrev Top0.cd_BadPlace : Addr := T.E_BadPlace.cd
theorem Top0.g_BadPlace : mg "BadPlace" = some (.ref T.C_BadPlace) := T.E_BadPlace.g
theorem Top0.ox_BadPlace : OexC K T.C_BadPlace := T.E_BadPlace.ox
theorem Top0.no_BadPlace : PySem.W.findIn K (.ref T.C_BadPlace) "place" = some none := T.E_BadPlace.no
theorem Top0.iI_BadPlace : PySem.W.findIn K (.ref T.C_BadPlace) "__init__" = some (some (.ref T.fI_BadPlace)) := T.E_BadPlace.iI
theorem Top0.tI_BadPlace : PySem.W.typeIn K (.ref T.fI_BadPlace) = some (.type "function") := T.E_BadPlace.tI
theorem Top0.bI_BadPlace : Binds K (fnI s_BadPlace___init__ "BadPlace.__init__" T.cc_BadPlace T.cd_BadPlace T.E_BadPlace.kI T.E_BadPlace.doI T.E_BadPlace.pI T.E_BadPlace.anI T.E_BadPlace.ctI) ["self", "place"] [] := T.E_BadPlace.bI
theorem Top0.xc_BadPlace : ExcC K T.C_BadPlace := T.E_BadPlace.xc
theorem Top0.xf_BadPlace : XfC K T.C_BadPlace := T.E_BadPlace.xf
abbrev Top0.C_FilledTwice : Addr := T.E_FilledTwice.C
abbrev Top0.fI_FilledTwice : Addr := T.E_FilledTwice.fI
abbrev Top0.cc_FilledTwice : Addr := T.E_FilledTwice.cc
abbrev Top0.cd_FilledTwice : Addr := T.E_FilledTwice.cd
theorem Top0.g_FilledTwice : mg "FilledTwice" = some (.ref T.C_FilledTwice) := T.E_FilledTwice.g
theorem Top0.ox_FilledTwice : OexC K T.C_FilledTwice := T.E_FilledTwice.ox
theorem Top0.no_FilledTwice : PySem.W.findIn K (.ref T.C_FilledTwice) "variable" = some none := T.E_FilledTwice.no
theorem Top0.iI_FilledTwice : PySem.W.findIn K (.ref T.C_FilledTwice) "__init__" = some (some (.ref T.fI_FilledTwice)) := T.E_FilledTwice.iI
theorem Top0.tI_FilledTwice : PySem.W.typeIn K (.ref T.fI_FilledTwice) = some (.type "function") := T.E_FilledTwice.tI
theorem Top0.bI_FilledTwice : Binds K (fnI s_FilledTwice___init__ "FilledTwice.__init__" T.cc_FilledTwice T.cd_FilledTwice T.E_FilledTwice.kI T.E_FilledTwice.doI T.E_FilledTwice.pI T.E_FilledTwice.anI T.E_FilledTwice.ctI) ["self", "variable"] [] := T.E_FilledTwice.bI
theorem Top0.xc_FilledTwice : ExcC K T.C_FilledTwice := T.E_FilledTwice.xc
theorem Top0.xf_FilledTwice : XfC K T.C_FilledTwice := T.E_FilledTwice.xf
abbrev Top0.C_NoSelection : Addr := T.E_NoSelection.C
abbrev Top0.fI_NoSelection : Addr := T.E_NoSelection.fI
abbrev Top0.cc_NoSelection : Addr := T.E_NoSelection.cc
abbrev Top0.cd_NoSelection : Addr := T.E_NoSelection.cd
theorem Top0.g_NoSelection : mg "NoSelection" = some (.ref T.C_NoSelection) := T.E_NoSelection.g
theorem Top0.ox_NoSelection : OexC K T.C_NoSelection := T.E_NoSelection.ox
theorem Top0.no_NoSelection : PySem.W.findIn K (.ref T.C_NoSelection) "selection" = some none := T.E_NoSelection.no
theorem Top0.iI_NoSelection : PySem.W.findIn K (.ref T.C_NoSelection) "__init__" = some (some (.ref T.fI_NoSelection)) := T.E_NoSelection.iI
theorem Top0.tI_NoSelection : PySem.W.typeIn K (.ref T.fI_NoSelection) = some (.type "function") := T.E_NoSelection.tI
theorem Top0.bI_NoSelection : Binds K (fnI s_NoSelection___init__ "NoSelection.__init__" T.cc_NoSelection T.cd_NoSelection T.E_NoSelection.kI T.E_NoSelection.doI T.E_NoSelection.pI T.E_NoSelection.anI T.E_NoSelection.ctI) ["self", "selection"] [] := T.E_NoSelection.bI
theorem Top0.xc_NoSelection : ExcC K T.C_NoSelection := T.E_NoSelection.xc
theorem Top0.xf_NoSelection : XfC K T.C_NoSelection := T.E_NoSelection.xf
abbrev Top0.C_BadText : Addr := T.E_BadText.C
abbrev Top0.fI_BadText : Addr := T.E_BadText.fI
abbrev Top0.cc_BadText : Addr := T.E_BadText.cc
abbrev Top0.cd_BadText : Addr := T.E_BadText.cd
theorem Top0.g_BadText : mg "BadText" = some (.ref T.C_BadText) := T.E_BadText.g
theorem Top0.ox_BadText : OexC K T.C_BadText := T.E_BadText.ox
theorem Top0.no_BadText : PySem.W.findIn K (.ref T.C_BadText) "column" = some none := T.E_BadText.no
theorem Top0.iI_BadText : PySem.W.findIn K (.ref T.C_BadText) "__init__" = some (some (.ref T.fI_BadText)) := T.E_BadText.iI
theorem Top0.tI_BadText : PySem.W.typeIn K (.ref T.fI_BadText) = some (.type "function") := T.E_BadText.tI
theorem Top0.bI_BadText : Binds K (fnI s_BadText___init__ "BadText.__init__" T.cc_BadText T.cd_BadText T.E_BadText.kI T.E_BadText.doI T.E_BadText.pI T.E_BadText.anI T.E_BadText.ctI) ["self", "column"] [] := T.E_BadText.bI
theorem Top0.xc_BadText : ExcC K T.C_BadText := T.E_BadText.xc
theorem Top0.xf_BadText : XfC K T.C_BadText := T.E_BadText.xf
abbrev Top0.C_UnknownName : Addr := T.E_UnknownName.C
abbrev Top0.fI_UnknownName : Addr := T.E_UnknownName.fI
abbrev Top0.cc_UnknownName : Addr := T.E_UnknownName.cc
abbrev Top0.cd_UnknownName : Addr := T.E_UnknownName.cd
theorem Top0.g_UnknownName : mg "UnknownName" = some (.ref T.C_UnknownName) := T.E_UnknownName.g
theorem Top0.ox_UnknownName : OexC K T.C_UnknownName := T.E_UnknownName.ox
theorem Top0.no_UnknownName : PySem.W.findIn K (.ref T.C_UnknownName) "column" = some none := T.E_UnknownName.no
theorem Top0.iI_UnknownName : PySem.W.findIn K (.ref T.C_UnknownName) "__init__" = some (some (.ref T.fI_UnknownName)) := T.E_UnknownName.iI
theorem Top0.tI_UnknownName : PySem.W.typeIn K (.ref T.fI_UnknownName) = some (.type "function") := T.E_UnknownName.tI
theorem Top0.bI_UnknownName : Binds K (fnI s_UnknownName___init__ "UnknownName.__init__" T.cc_UnknownName T.cd_UnknownName T.E_UnknownName.kI T.E_UnknownName.doI T.E_UnknownName.pI T.E_UnknownName.anI T.E_UnknownName.ctI) ["self", "column"] [] := T.E_UnknownName.bI
theorem Top0.xc_UnknownName : ExcC K T.C_UnknownName := T.E_UnknownName.xc
theorem Top0.xf_UnknownName : XfC K T.C_UnknownName := T.E_UnknownName.xf
abbrev Top0.C_WrongCount : Addr := T.E_WrongCount.C
abbrev Top0.fI_WrongCount : Addr := T.E_WrongCount.fI
abbrev Top0.cc_WrongCount : Addr := T.E_WrongCount.cc
abbrev Top0.cd_WrongCount : Addr := T.E_WrongCount.cd
theorem Top0.g_WrongCount : mg "WrongCount" = some (.ref T.C_WrongCount) := T.E_WrongCount.g
theorem Top0.ox_WrongCount : OexC K T.C_WrongCount := T.E_WrongCount.ox
theorem Top0.no_WrongCount : PySem.W.findIn K (.ref T.C_WrongCount) "column" = some none := T.E_WrongCount.no
theorem Top0.iI_WrongCount : PySem.W.findIn K (.ref T.C_WrongCount) "__init__" = some (some (.ref T.fI_WrongCount)) := T.E_WrongCount.iI
theorem Top0.tI_WrongCount : PySem.W.typeIn K (.ref T.fI_WrongCount) = some (.type "function") := T.E_WrongCount.tI
theorem Top0.bI_WrongCount : Binds K (fnI s_WrongCount___init__ "WrongCount.__init__" T.cc_WrongCount T.cd_WrongCount T.E_WrongCount.kI T.E_WrongCount.doI T.E_WrongCount.pI T.E_WrongCount.anI T.E_WrongCount.ctI) ["self", "column"] [] := T.E_WrongCount.bI
theorem Top0.xc_WrongCount : ExcC K T.C_WrongCount := T.E_WrongCount.xc
theorem Top0.xf_WrongCount : XfC K T.C_WrongCount := T.E_WrongCount.xf
abbrev Top0.C_WrongSort : Addr := T.E_WrongSort.C
abbrev Top0.fI_WrongSort : Addr := T.E_WrongSort.fI
abbrev Top0.cc_WrongSort : Addr := T.E_WrongSort.cc
abbrev Top0.cd_WrongSort : Addr := T.E_WrongSort.cd
theorem Top0.g_WrongSort : mg "WrongSort" = some (.ref T.C_WrongSort) := T.E_WrongSort.g
theorem Top0.ox_WrongSort : OexC K T.C_WrongSort := T.E_WrongSort.ox
theorem Top0.no_WrongSort : PySem.W.findIn K (.ref T.C_WrongSort) "column" = some none := T.E_WrongSort.no
theorem Top0.iI_WrongSort : PySem.W.findIn K (.ref T.C_WrongSort) "__init__" = some (some (.ref T.fI_WrongSort)) := T.E_WrongSort.iI
theorem Top0.tI_WrongSort : PySem.W.typeIn K (.ref T.fI_WrongSort) = some (.type "function") := T.E_WrongSort.tI
theorem Top0.bI_WrongSort : Binds K (fnI s_WrongSort___init__ "WrongSort.__init__" T.cc_WrongSort T.cd_WrongSort T.E_WrongSort.kI T.E_WrongSort.doI T.E_WrongSort.pI T.E_WrongSort.anI T.E_WrongSort.ctI) ["self", "column"] [] := T.E_WrongSort.bI
theorem Top0.xc_WrongSort : ExcC K T.C_WrongSort := T.E_WrongSort.xc
theorem Top0.xf_WrongSort : XfC K T.C_WrongSort := T.E_WrongSort.xf
abbrev Top0.C_NameBound : Addr := T.E_NameBound.C
abbrev Top0.fI_NameBound : Addr := T.E_NameBound.fI
abbrev Top0.cc_NameBound : Addr := T.E_NameBound.cc
abbrev Top0.cd_NameBound : Addr := T.E_NameBound.cd
theorem Top0.g_NameBound : mg "NameBound" = some (.ref T.C_NameBound) := T.E_NameBound.g
theorem Top0.ox_NameBound : OexC K T.C_NameBound := T.E_NameBound.ox
theorem Top0.no_NameBound : PySem.W.findIn K (.ref T.C_NameBound) "column" = some none := T.E_NameBound.no
theorem Top0.iI_NameBound : PySem.W.findIn K (.ref T.C_NameBound) "__init__" = some (some (.ref T.fI_NameBound)) := T.E_NameBound.iI
theorem Top0.tI_NameBound : PySem.W.typeIn K (.ref T.fI_NameBound) = some (.type "function") := T.E_NameBound.tI
theorem Top0.bI_NameBound : Binds K (fnI s_NameBound___init__ "NameBound.__init__" T.cc_NameBound T.cd_NameBound T.E_NameBound.kI T.E_NameBound.doI T.E_NameBound.pI T.E_NameBound.anI T.E_NameBound.ctI) ["self", "column"] [] := T.E_NameBound.bI
theorem Top0.xc_NameBound : ExcC K T.C_NameBound := T.E_NameBound.xc
theorem Top0.xf_NameBound : XfC K T.C_NameBound := T.E_NameBound.xf
abbrev Top0.C_BadLine : Addr := T.E_BadLine.C
abbrev Top0.fI_BadLine : Addr := T.E_BadLine.fI
abbrev Top0.cc_BadLine : Addr := T.E_BadLine.cc
abbrev Top0.cd_BadLine : Addr := T.E_BadLine.cd
theorem Top0.g_BadLine : mg "BadLine" = some (.ref T.C_BadLine) := T.E_BadLine.g
theorem Top0.ox_BadLine : OexC K T.C_BadLine := T.E_BadLine.ox
theorem Top0.no_BadLine : PySem.W.findIn K (.ref T.C_BadLine) "number" = some none := T.E_BadLine.no
theorem Top0.iI_BadLine : PySem.W.findIn K (.ref T.C_BadLine) "__init__" = some (some (.ref T.fI_BadLine)) := T.E_BadLine.iI
theorem Top0.tI_BadLine : PySem.W.typeIn K (.ref T.fI_BadLine) = some (.type "function") := T.E_BadLine.tI
theorem Top0.bI_BadLine : Binds K (fnI s_BadLine___init__ "BadLine.__init__" T.cc_BadLine T.cd_BadLine T.E_BadLine.kI T.E_BadLine.doI T.E_BadLine.pI T.E_BadLine.anI T.E_BadLine.ctI) ["self", "number"] [] := T.E_BadLine.bI
theorem Top0.xc_BadLine : ExcC K T.C_BadLine := T.E_BadLine.xc
theorem Top0.xf_BadLine : XfC K T.C_BadLine := T.E_BadLine.xf
abbrev Top0.C_NoClause : Addr := T.E_NoClause.C
abbrev Top0.fI_NoClause : Addr := T.E_NoClause.fI
abbrev Top0.cc_NoClause : Addr := T.E_NoClause.cc
abbrev Top0.cd_NoClause : Addr := T.E_NoClause.cd
theorem Top0.g_NoClause : mg "NoClause" = some (.ref T.C_NoClause) := T.E_NoClause.g
theorem Top0.ox_NoClause : OexC K T.C_NoClause := T.E_NoClause.ox
theorem Top0.no_NoClause : PySem.W.findIn K (.ref T.C_NoClause) "number" = some none := T.E_NoClause.no
theorem Top0.iI_NoClause : PySem.W.findIn K (.ref T.C_NoClause) "__init__" = some (some (.ref T.fI_NoClause)) := T.E_NoClause.iI
theorem Top0.tI_NoClause : PySem.W.typeIn K (.ref T.fI_NoClause) = some (.type "function") := T.E_NoClause.tI
theorem Top0.bI_NoClause : Binds K (fnI s_NoClause___init__ "NoClause.__init__" T.cc_NoClause T.cd_NoClause T.E_NoClause.kI T.E_NoClause.doI T.E_NoClause.pI T.E_NoClause.anI T.E_NoClause.ctI) ["self", "number"] [] := T.E_NoClause.bI
theorem Top0.xc_NoClause : ExcC K T.C_NoClause := T.E_NoClause.xc
theorem Top0.xf_NoClause : XfC K T.C_NoClause := T.E_NoClause.xf
abbrev Top0.C_NotWaiting : Addr := T.E_NotWaiting.C
abbrev Top0.fI_NotWaiting : Addr := T.E_NotWaiting.fI
abbrev Top0.cc_NotWaiting : Addr := T.E_NotWaiting.cc
abbrev Top0.cd_NotWaiting : Addr := T.E_NotWaiting.cd
theorem Top0.g_NotWaiting : mg "NotWaiting" = some (.ref T.C_NotWaiting) := T.E_NotWaiting.g
theorem Top0.ox_NotWaiting : OexC K T.C_NotWaiting := T.E_NotWaiting.ox
theorem Top0.no_NotWaiting : PySem.W.findIn K (.ref T.C_NotWaiting) "number" = some none := T.E_NotWaiting.no
theorem Top0.iI_NotWaiting : PySem.W.findIn K (.ref T.C_NotWaiting) "__init__" = some (some (.ref T.fI_NotWaiting)) := T.E_NotWaiting.iI
theorem Top0.tI_NotWaiting : PySem.W.typeIn K (.ref T.fI_NotWaiting) = some (.type "function") := T.E_NotWaiting.tI
theorem Top0.bI_NotWaiting : Binds K (fnI s_NotWaiting___init__ "NotWaiting.__init__" T.cc_NotWaiting T.cd_NotWaiting T.E_NotWaiting.kI T.E_NotWaiting.doI T.E_NotWaiting.pI T.E_NotWaiting.anI T.E_NotWaiting.ctI) ["self", "number"] [] := T.E_NotWaiting.bI
theorem Top0.xc_NotWaiting : ExcC K T.C_NotWaiting := T.E_NotWaiting.xc
theorem Top0.xf_NotWaiting : XfC K T.C_NotWaiting := T.E_NotWaiting.xf
abbrev Top0.C_BadStep : Addr := T.E_BadStep.C
abbrev Top0.fI_BadStep : Addr := T.E_BadStep.fI
abbrev Top0.cc_BadStep : Addr := T.E_BadStep.cc
abbrev Top0.cd_BadStep : Addr := T.E_BadStep.cd
theorem Top0.g_BadStep : mg "BadStep" = some (.ref T.C_BadStep) := T.E_BadStep.g
theorem Top0.ox_BadStep : OexC K T.C_BadStep := T.E_BadStep.ox
theorem Top0.no_BadStep : PySem.W.findIn K (.ref T.C_BadStep) "index" = some none := T.E_BadStep.no
theorem Top0.iI_BadStep : PySem.W.findIn K (.ref T.C_BadStep) "__init__" = some (some (.ref T.fI_BadStep)) := T.E_BadStep.iI
theorem Top0.tI_BadStep : PySem.W.typeIn K (.ref T.fI_BadStep) = some (.type "function") := T.E_BadStep.tI
theorem Top0.bI_BadStep : Binds K (fnI s_BadStep___init__ "BadStep.__init__" T.cc_BadStep T.cd_BadStep T.E_BadStep.kI T.E_BadStep.doI T.E_BadStep.pI T.E_BadStep.anI T.E_BadStep.ctI) ["self", "index"] [] := T.E_BadStep.bI
theorem Top0.xc_BadStep : ExcC K T.C_BadStep := T.E_BadStep.xc
theorem Top0.xf_BadStep : XfC K T.C_BadStep := T.E_BadStep.xf
abbrev Top0.C_NotUnit : Addr := T.E_NotUnit.C
abbrev Top0.fI_NotUnit : Addr := T.E_NotUnit.fI
abbrev Top0.cc_NotUnit : Addr := T.E_NotUnit.cc
abbrev Top0.cd_NotUnit : Addr := T.E_NotUnit.cd
theorem Top0.g_NotUnit : mg "NotUnit" = some (.ref T.C_NotUnit) := T.E_NotUnit.g
theorem Top0.ox_NotUnit : OexC K T.C_NotUnit := T.E_NotUnit.ox
theorem Top0.no_NotUnit : PySem.W.findIn K (.ref T.C_NotUnit) "index" = some none := T.E_NotUnit.no
theorem Top0.iI_NotUnit : PySem.W.findIn K (.ref T.C_NotUnit) "__init__" = some (some (.ref T.fI_NotUnit)) := T.E_NotUnit.iI
theorem Top0.tI_NotUnit : PySem.W.typeIn K (.ref T.fI_NotUnit) = some (.type "function") := T.E_NotUnit.tI
theorem Top0.bI_NotUnit : Binds K (fnI s_NotUnit___init__ "NotUnit.__init__" T.cc_NotUnit T.cd_NotUnit T.E_NotUnit.kI T.E_NotUnit.doI T.E_NotUnit.pI T.E_NotUnit.anI T.E_NotUnit.ctI) ["self", "index"] [] := T.E_NotUnit.bI
theorem Top0.xc_NotUnit : ExcC K T.C_NotUnit := T.E_NotUnit.xc
theorem Top0.xf_NotUnit : XfC K T.C_NotUnit := T.E_NotUnit.xf
abbrev Top0.C_NotUnits : Addr := T.E_NotUnits.C
abbrev Top0.fI_NotUnits : Addr := T.E_NotUnits.fI
abbrev Top0.cc_NotUnits : Addr := T.E_NotUnits.cc
abbrev Top0.cd_NotUnits : Addr := T.E_NotUnits.cd
theorem Top0.g_NotUnits : mg "NotUnits" = some (.ref T.C_NotUnits) := T.E_NotUnits.g
theorem Top0.ox_NotUnits : OexC K T.C_NotUnits := T.E_NotUnits.ox
theorem Top0.no_NotUnits : PySem.W.findIn K (.ref T.C_NotUnits) "index" = some none := T.E_NotUnits.no
theorem Top0.iI_NotUnits : PySem.W.findIn K (.ref T.C_NotUnits) "__init__" = some (some (.ref T.fI_NotUnits)) := T.E_NotUnits.iI
theorem Top0.tI_NotUnits : PySem.W.typeIn K (.ref T.fI_NotUnits) = some (.type "function") := T.E_NotUnits.tI
theorem Top0.bI_NotUnits : Binds K (fnI s_NotUnits___init__ "NotUnits.__init__" T.cc_NotUnits T.cd_NotUnits T.E_NotUnits.kI T.E_NotUnits.doI T.E_NotUnits.pI T.E_NotUnits.anI T.E_NotUnits.ctI) ["self", "index"] [] := T.E_NotUnits.bI
theorem Top0.xc_NotUnits : ExcC K T.C_NotUnits := T.E_NotUnits.xc
theorem Top0.xf_NotUnits : XfC K T.C_NotUnits := T.E_NotUnits.xf
abbrev Top0.C_BadClause : Addr := T.E_BadClause.C
abbrev Top0.fI_BadClause : Addr := T.E_BadClause.fI
abbrev Top0.cc_BadClause : Addr := T.E_BadClause.cc
abbrev Top0.cd_BadClause : Addr := T.E_BadClause.cd
theorem Top0.g_BadClause : mg "BadClause" = some (.ref T.C_BadClause) := T.E_BadClause.g
theorem Top0.ox_BadClause : OexC K T.C_BadClause := T.E_BadClause.ox
theorem Top0.no_BadClause : PySem.W.findIn K (.ref T.C_BadClause) "index" = some none := T.E_BadClause.no
theorem Top0.iI_BadClause : PySem.W.findIn K (.ref T.C_BadClause) "__init__" = some (some (.ref T.fI_BadClause)) := T.E_BadClause.iI
theorem Top0.tI_BadClause : PySem.W.typeIn K (.ref T.fI_BadClause) = some (.type "function") := T.E_BadClause.tI
theorem Top0.bI_BadClause : Binds K (fnI s_BadClause___init__ "BadClause.__init__" T.cc_BadClause T.cd_BadClause T.E_BadClause.kI T.E_BadClause.doI T.E_BadClause.pI T.E_BadClause.anI T.E_BadClause.ctI) ["self", "index"] [] := T.E_BadClause.bI
theorem Top0.xc_BadClause : ExcC K T.C_BadClause := T.E_BadClause.xc
theorem Top0.xf_BadClause : XfC K T.C_BadClause := T.E_BadClause.xf
abbrev Top0.C_TooHeavy : Addr := T.E_TooHeavy.C
abbrev Top0.fI_TooHeavy : Addr := T.E_TooHeavy.fI
abbrev Top0.cc_TooHeavy : Addr := T.E_TooHeavy.cc
abbrev Top0.cd_TooHeavy : Addr := T.E_TooHeavy.cd
theorem Top0.g_TooHeavy : mg "TooHeavy" = some (.ref T.C_TooHeavy) := T.E_TooHeavy.g
theorem Top0.ox_TooHeavy : OexC K T.C_TooHeavy := T.E_TooHeavy.ox
theorem Top0.no_TooHeavy : PySem.W.findIn K (.ref T.C_TooHeavy) "load" = some none := T.E_TooHeavy.no
theorem Top0.iI_TooHeavy : PySem.W.findIn K (.ref T.C_TooHeavy) "__init__" = some (some (.ref T.fI_TooHeavy)) := T.E_TooHeavy.iI
theorem Top0.tI_TooHeavy : PySem.W.typeIn K (.ref T.fI_TooHeavy) = some (.type "function") := T.E_TooHeavy.tI
theorem Top0.bI_TooHeavy : Binds K (fnI s_TooHeavy___init__ "TooHeavy.__init__" T.cc_TooHeavy T.cd_TooHeavy T.E_TooHeavy.kI T.E_TooHeavy.doI T.E_TooHeavy.pI T.E_TooHeavy.anI T.E_TooHeavy.ctI) ["self", "load"] [] := T.E_TooHeavy.bI
theorem Top0.xc_TooHeavy : ExcC K T.C_TooHeavy := T.E_TooHeavy.xc
theorem Top0.xf_TooHeavy : XfC K T.C_TooHeavy := T.E_TooHeavy.xf
abbrev Top0.C_TooLong : Addr := T.E_TooLong.C
theorem Top0.g_TooLong : mg "TooLong" = some (.ref T.C_TooLong) := T.E_TooLong.g
theorem Top0.qx_TooLong : PySem.W.excIn K T.C_TooLong VEb "ValueError.__new__" = true := T.E_TooLong.qx
theorem Top0.kx_TooLong : PySem.W.keepIn K (.ref T.C_TooLong) = true := T.E_TooLong.kx
theorem Top0.xc_TooLong : ExcC K T.C_TooLong := T.E_TooLong.xc
abbrev Top0.C_TooMany : Addr := T.E_TooMany.C
theorem Top0.g_TooMany : mg "TooMany" = some (.ref T.C_TooMany) := T.E_TooMany.g
theorem Top0.qx_TooMany : PySem.W.excIn K T.C_TooMany VEb "ValueError.__new__" = true := T.E_TooMany.qx
theorem Top0.kx_TooMany : PySem.W.keepIn K (.ref T.C_TooMany) = true := T.E_TooMany.kx
theorem Top0.xc_TooMany : ExcC K T.C_TooMany := T.E_TooMany.xc
abbrev Top0.C_NoSteps : Addr := T.E_NoSteps.C
theorem Top0.g_NoSteps : mg "NoSteps" = some (.ref T.C_NoSteps) := T.E_NoSteps.g
theorem Top0.qx_NoSteps : PySem.W.excIn K T.C_NoSteps VEb "ValueError.__new__" = true := T.E_NoSteps.qx
theorem Top0.kx_NoSteps : PySem.W.keepIn K (.ref T.C_NoSteps) = true := T.E_NoSteps.kx
theorem Top0.xc_NoSteps : ExcC K T.C_NoSteps := T.E_NoSteps.xc
abbrev Top0.C_NotRefutation : Addr := T.E_NotRefutation.C
theorem Top0.g_NotRefutation : mg "NotRefutation" = some (.ref T.C_NotRefutation) := T.E_NotRefutation.g
theorem Top0.qx_NotRefutation : PySem.W.excIn K T.C_NotRefutation VEb "ValueError.__new__" = true := T.E_NotRefutation.qx
theorem Top0.kx_NotRefutation : PySem.W.keepIn K (.ref T.C_NotRefutation) = true := T.E_NotRefutation.kx
theorem Top0.xc_NotRefutation : ExcC K T.C_NotRefutation := T.E_NotRefutation.xc
abbrev Top0.C_RunOver : Addr := T.E_RunOver.C
theorem Top0.g_RunOver : mg "RunOver" = some (.ref T.C_RunOver) := T.E_RunOver.g
theorem Top0.qx_RunOver : PySem.W.excIn K T.C_RunOver VEb "ValueError.__new__" = true := T.E_RunOver.qx
theorem Top0.kx_RunOver : PySem.W.keepIn K (.ref T.C_RunOver) = true := T.E_RunOver.kx
theorem Top0.xc_RunOver : ExcC K T.C_RunOver := T.E_RunOver.xc
abbrev Top0.C_GivenDiffer : Addr := T.E_GivenDiffer.C
theorem Top0.g_GivenDiffer : mg "GivenDiffer" = some (.ref T.C_GivenDiffer) := T.E_GivenDiffer.g
theorem Top0.qx_GivenDiffer : PySem.W.excIn K T.C_GivenDiffer VEb "ValueError.__new__" = true := T.E_GivenDiffer.qx
theorem Top0.kx_GivenDiffer : PySem.W.keepIn K (.ref T.C_GivenDiffer) = true := T.E_GivenDiffer.kx
theorem Top0.xc_GivenDiffer : ExcC K T.C_GivenDiffer := T.E_GivenDiffer.xc
abbrev Top0.C_NotEnded : Addr := T.E_NotEnded.C
theorem Top0.g_NotEnded : mg "NotEnded" = some (.ref T.C_NotEnded) := T.E_NotEnded.g
theorem Top0.qx_NotEnded : PySem.W.excIn K T.C_NotEnded VEb "ValueError.__new__" = true := T.E_NotEnded.qx
theorem Top0.kx_NotEnded : PySem.W.keepIn K (.ref T.C_NotEnded) = true := T.E_NotEnded.kx
theorem Top0.xc_NotEnded : ExcC K T.C_NotEnded := T.E_NotEnded.xc
end
def Top0.CL {P : Program} {K : PySem.W.Frag} {mg : Str → Option Value} (T : Top0 P K mg) : List Addr := [T.C_BadName, T.C_NameTaken, T.C_NoSort, T.C_ReservedName, T.C_NotSentence, T.C_NoAxiom, T.C_BadTable, T.C_BadWeight, T.C_BadSize, T.C_BadText, T.C_UnknownName, T.C_WrongCount, T.C_WrongSort, T.C_NameBound, T.C_BadLine, T.C_NoClause, T.C_NotWaiting, T.C_BadStep, T.C_NotUnit, T.C_NotUnits, T.C_BadClause, T.C_BadPlace, T.C_FilledTwice, T.C_NoSelection, T.C_TooHeavy, T.C_TooLong, T.C_TooMany, T.C_NoSteps, T.C_NotRefutation, T.C_RunOver, T.C_GivenDiffer, T.C_NotEnded]
section
variable {P : Program} {w : World} {K : PySem.W.Frag} {mg : Str → Option Value} {base : Heap}
theorem ok_BadName___init__ (T : Top0 P K mg) : FnOk P w K mg base CX0 1 T.fI_BadName (fnI s_BadName___init__ "BadName.__init__" T.cc_BadName T.cd_BadName T.E_BadName.kI T.E_BadName.doI T.E_BadName.pI T.E_BadName.anI T.E_BadName.ctI) ["self", "name"] (spErrQ K T.C_BadName "name") := by
  refine err_fn (N := ["self", "name", "__class__"]) (k := 0) (ta := taErrQ K "name ") (ts := tOst K "name" (tVar 0) (tVar 1)) T.E_BadName.S T.E_BadName.ox T.n_super (nscope_by (by decide +kernel)) rfl T.E_BadName.hc rfl (fun A outer s H E hr => ?_) (fun A outer s H E hr => ?_) (fun env => rfl) (fun L => rfl) (fun L => rfl) (fun env => rfl) (fun vs H Q E h => ?_) (fun vs H Q E h => err_readQ T.E_BadName.ox T.E_BadName.no (by decide) h)
  · exact pa_cons (pe_joined (.cons pe_str (.cons (pe_fmtQ hr (pv 1)) .nil))) pa_nil
  · exact pss_one (ps_ost (pv 0) (pv 1))
  · obtain ⟨a, y, rfl, _⟩ := h
    rfl
theorem ok_NameTaken___init__ (T : Top0 P K mg) : FnOk P w K mg base CX0 1 T.fI_NameTaken (fnI s_NameTaken___init__ "NameTaken.__init__" T.cc_NameTaken T.cd_NameTaken T.E_NameTaken.kI T.E_NameTaken.doI T.E_NameTaken.pI T.E_NameTaken.anI T.E_NameTaken.ctI) ["self", "name"] (spErrQ K T.C_NameTaken "name") := by
  refine err_fn (N := ["self", "name", "__class__"]) (k := 0) (ta := taErrQ K "name ") (ts := tOst K "name" (tVar 0) (tVar 1)) T.E_NameTaken.S T.E_NameTaken.ox T.n_super (nscope_by (by decide +kernel)) rfl T.E_NameTaken.hc rfl (fun A outer s H E hr => ?_) (fun A outer s H E hr => ?_) (fun env => rfl) (fun L => rfl) (fun L => rfl) (fun env => rfl) (fun vs H Q E h => ?_) (fun vs H Q E h => err_readQ T.E_NameTaken.ox T.E_NameTaken.no (by decide) h)
  · exact pa_cons (pe_joined (.cons pe_str (.cons (pe_fmtQ hr (pv 1)) .nil))) pa_nil
  · exact pss_one (ps_ost (pv 0) (pv 1))
  · obtain ⟨a, y, rfl, _⟩ := h
    rfl
theorem ok_NoSort___init__ (T : Top0 P K mg) : FnOk P w K mg base CX0 1 T.fI_NoSort (fnI s_NoSort___init__ "NoSort.__init__" T.cc_NoSort T.cd_NoSort T.E_NoSort.kI T.E_NoSort.doI T.E_NoSort.pI T.E_NoSort.anI T.E_NoSort.ctI) ["self", "name"] (spErrQ K T.C_NoSort "name") := by
  refine err_fn (N := ["self", "name", "__class__"]) (k := 0) (ta := taErrQ K "name ") (ts := tOst K "name" (tVar 0) (tVar 1)) T.E_NoSort.S T.E_NoSort.ox T.n_super (nscope_by (by decide +kernel)) rfl T.E_NoSort.hc rfl (fun A outer s H E hr => ?_) (fun A outer s H E hr => ?_) (fun env => rfl) (fun L => rfl) (fun L => rfl) (fun env => rfl) (fun vs H Q E h => ?_) (fun vs H Q E h => err_readQ T.E_NoSort.ox T.E_NoSort.no (by decide) h)
  · exact pa_cons (pe_joined (.cons pe_str (.cons (pe_fmtQ hr (pv 1)) .nil))) pa_nil
  · exact pss_one (ps_ost (pv 0) (pv 1))
  · obtain ⟨a, y, rfl, _⟩ := h
    rfl
theorem ok_ReservedName___init__ (T : Top0 P K mg) : FnOk P w K mg base CX0 1 T.fI_ReservedName (fnI s_ReservedName___init__ "ReservedName.__init__" T.cc_ReservedName T.cd_ReservedName T.E_ReservedName.kI T.E_ReservedName.doI T.E_ReservedName.pI T.E_ReservedName.anI T.E_ReservedName.ctI) ["self", "name"] (spErrQ K T.C_ReservedName "name") := by
  refine err_fn (N := ["self", "name", "__class__"]) (k := 0) (ta := taErrQ K "name ") (ts := tOst K "name" (tVar 0) (tVar 1)) T.E_ReservedName.S T.E_ReservedName.ox T.n_super (nscope_by (by decide +kernel)) rfl T.E_ReservedName.hc rfl (fun A outer s H E hr => ?_) (fun A outer s H E hr => ?_) (fun env => rfl) (fun L => rfl) (fun L => rfl) (fun env => rfl) (fun vs H Q E h => ?_) (fun vs H Q E h => err_readQ T.E_ReservedName.ox T.E_ReservedName.no (by decide) h)
  · exact pa_cons (pe_joined (.cons pe_str (.cons (pe_fmtQ hr (pv 1)) .nil))) pa_nil
  · exact pss_one (ps_ost (pv 0) (pv 1))
  · obtain ⟨a, y, rfl, _⟩ := h
    rfl
theorem ok_NotSentence___init__ (T : Top0 P K mg) : FnOk P w K mg base CX0 1 T.fI_NotSentence (fnI s_NotSentence___init__ "NotSentence.__init__" T.cc_NotSentence T.cd_NotSentence T.E_NotSentence.kI T.E_NotSentence.doI T.E_NotSentence.pI T.E_NotSentence.anI T.E_NotSentence.ctI) ["self", "name"] (spErrQ K T.C_NotSentence "name") := by
  refine err_fn (N := ["self", "name", "__class__"]) (k := 0) (ta := taErrQ K "name ") (ts := tOst K "name" (tVar 0) (tVar 1)) T.E_NotSentence.S T.E_NotSentence.ox T.n_super (nscope_by (by decide +kernel)) rfl T.E_NotSentence.hc rfl (fun A outer s H E hr => ?_) (fun A outer s H E hr => ?_) (fun env => rfl) (fun L => rfl) (fun L => rfl) (fun env => rfl) (fun vs H Q E h => ?_) (fun vs H Q E h => err_readQ T.E_NotSentence.ox T.E_NotSentence.no (by decide) h)
  · exact pa_cons (pe_joined (.cons pe_str (.cons (pe_fmtQ hr (pv 1)) .nil))) pa_nil
  · exact pss_one (ps_ost (pv 0) (pv 1))
  · obtain ⟨a, y, rfl, _⟩ := h
    rfl
theorem ok_NoAxiom___init__ (T : Top0 P K mg) : FnOk P w K mg base CX0 1 T.fI_NoAxiom (fnI s_NoAxiom___init__ "NoAxiom.__init__" T.cc_NoAxiom T.cd_NoAxiom T.E_NoAxiom.kI T.E_NoAxiom.doI T.E_NoAxiom.pI T.E_NoAxiom.anI T.E_NoAxiom.ctI) ["self", "name"] (spErrQ K T.C_NoAxiom "name") := by
  refine err_fn (N := ["self", "name", "__class__"]) (k := 0) (ta := taErrQ K "name ") (ts := tOst K "name" (tVar 0) (tVar 1)) T.E_NoAxiom.S T.E_NoAxiom.ox T.n_super (nscope_by (by decide +kernel)) rfl T.E_NoAxiom.hc rfl (fun A outer s H E hr => ?_) (fun A outer s H E hr => ?_) (fun env => rfl) (fun L => rfl) (fun L => rfl) (fun env => rfl) (fun vs H Q E h => ?_) (fun vs H Q E h => err_readQ T.E_NoAxiom.ox T.E_NoAxiom.no (by decide) h)
  · exact pa_cons (pe_joined (.cons pe_str (.cons (pe_fmtQ hr (pv 1)) .nil))) pa_nil
  · exact pss_one (ps_ost (pv 0) (pv 1))
  · obtain ⟨a, y, rfl, _⟩ := h
    rfl
theorem ok_BadTable___init__ (T : Top0 P K mg) : FnOk P w K mg base CX0 1 T.fI_BadTable (fnI s_BadTable___init__ "BadTable.__init__" T.cc_BadTable T.cd_BadTable T.E_BadTable.kI T.E_BadTable.doI T.E_BadTable.pI T.E_BadTable.anI T.E_BadTable.ctI) ["self", "name"] (spErrQ K T.C_BadTable "name") := by
  refine err_fn (N := ["self", "name", "__class__"]) (k := 0) (ta := taErrQ K "name ") (ts := tOst K "name" (tVar 0) (tVar 1)) T.E_BadTable.S T.E_BadTable.ox T.n_super (nscope_by (by decide +kernel)) rfl T.E_BadTable.hc rfl (fun A outer s H E hr => ?_) (fun A outer s H E hr => ?_) (fun env => rfl) (fun L => rfl) (fun L => rfl) (fun env => rfl) (fun vs H Q E h => ?_) (fun vs H Q E h => err_readQ T.E_BadTable.ox T.E_BadTable.no (by decide) h)
  · exact pa_cons (pe_joined (.cons pe_str (.cons (pe_fmtQ hr (pv 1)) .nil))) pa_nil
  · exact pss_one (ps_ost (pv 0) (pv 1))
  · obtain ⟨a, y, rfl, _⟩ := h
    rfl
theorem ok_BadWeight___init__ (T : Top0 P K mg) : FnOk P w K mg base CX0 1 T.fI_BadWeight (fnI s_BadWeight___init__ "BadWeight.__init__" T.cc_BadWeight T.cd_BadWeight T.E_BadWeight.kI T.E_BadWeight.doI T.E_BadWeight.pI T.E_BadWeight.anI T.E_BadWeight.ctI) ["self", "name"] (spErrQ K T.C_BadWeight "name") := by
  refine err_fn (N := ["self", "name", "__class__"]) (k := 0) (ta := taErrQ K "name ") (ts := tOst K "name" (tVar 0) (tVar 1)) T.E_BadWeight.S T.E_BadWeight.ox T.n_super (nscope_by (by decide +kernel)) rfl T.E_BadWeight.hc rfl (fun A outer s H E hr => ?_) (fun A outer s H E hr => ?_) (fun env => rfl) (fun L => rfl) (fun L => rfl) (fun env => rfl) (fun vs H Q E h => ?_) (fun vs H Q E h => err_readQ T.E_BadWeight.ox T.E_BadWeight.no (by decide) h)
  · exact pa_cons (pe_joined (.cons pe_str (.cons (pe_fmtQ hr (pv 1)) .nil))) pa_nil
  · exact pss_one (ps_ost (pv 0) (pv 1))
  · obtain ⟨a, y, rfl, _⟩ := h
    rfl
theorem ok_BadSize___init__ (T : Top0 P K mg) : FnOk P w K mg base CX0 1 T.fI_BadSize (fnI s_BadSize___init__ "BadSize.__init__" T.cc_BadSize T.cd_BadSize T.E_BadSize.kI T.E_BadSize.doI T.E_BadSize.pI T.E_BadSize.anI T.E_BadSize.ctI) ["self", "name"] (spErrQ K T.C_BadSize "name") := by
  refine err_fn (N := ["self", "name", "__class__"]) (k := 0) (ta := taErrQ K "name ") (ts := tOst K "name" (tVar 0) (tVar 1)) T.E_BadSize.S T.E_BadSize.ox T.n_super (nscope_by (by decide +kernel)) rfl T.E_BadSize.hc rfl (fun A outer s H E hr => ?_) (fun A outer s H E hr => ?_) (fun env => rfl) (fun L => rfl) (fun L => rfl) (fun env => rfl) (fun vs H Q E h => ?_) (fun vs H Q E h => err_readQ T.E_BadSize.ox T.E_BadSize.no (by decide) h)
  · exact pa_cons (pe_joined (.cons pe_str (.cons (pe_fmtQ hr (pv 1)) .nil))) pa_nil
  · exact pss_one (ps_ost (pv 0) (pv 1))
  · obtain ⟨a, y, rfl, _⟩ := h
    rfl
theorem ok_BadPlace___init__ (T : Top0 P K mg) : FnOk P w K mg base CX0 1 T.fI_BadPlace (fnI s_BadPlace___init__ "BadPlace.__init__" T.cc_BadPlace T.cd_BadPlace T.E_BadPlace.kI T.E_BadPlace.doI T.E_BadPlace.pI T.E_BadPlace.anI T.E_BadPlace.ctI) ["self", "place"] (spErrQ K T.C_BadPlace "place") := by
  refine err_fn (N := ["self", "place", "__class__"]) (k := 0) (ta := taErrQ K "place ") (ts := tOst K "place" (tVar 0) (tVar 1)) T.E_BadPlace.S T.E_BadPlace.ox T.n_super (nscope_by (by decide +kernel)) rfl T.E_BadPlace.hc rfl (fun A outer s H E hr => ?_) (fun A outer s H E hr => ?_) (fun env => rfl) (fun L => rfl) (fun L => rfl) (fun env => rfl) (fun vs H Q E h => ?_) (fun vs H Q E h => err_readQ T.E_BadPlace.ox T.E_BadPlace.no (by decide) h)
  · exact pa_cons (pe_joined (.cons pe_str (.cons (pe_fmtQ hr (pv 1)) .nil))) pa_nil
  · exact pss_one (ps_ost (pv 0) (pv 1))
  · obtain ⟨a, y, rfl, _⟩ := h
    rfl
theorem ok_FilledTwice___init__ (T : Top0 P K mg) : FnOk P w K mg base CX0 1 T.fI_FilledTwice (fnI s_FilledTwice___init__ "FilledTwice.__init__" T.cc_FilledTwice T.cd_FilledTwice T.E_FilledTwice.kI T.E_FilledTwice.doI T.E_FilledTwice.pI T.E_FilledTwice.anI T.E_FilledTwice.ctI) ["self", "variable"] (spErrQ K T.C_FilledTwice "variable") := by
  refine err_fn (N := ["self", "variable", "__class__"]) (k := 0) (ta := taErrQ K "variable ") (ts := tOst K "variable" (tVar 0) (tVar 1)) T.E_FilledTwice.S T.E_FilledTwice.ox T.n_super (nscope_by (by decide +kernel)) rfl T.E_FilledTwice.hc rfl (fun A outer s H E hr => ?_) (fun A outer s H E hr => ?_) (fun env => rfl) (fun L => rfl) (fun L => rfl) (fun env => rfl) (fun vs H Q E h => ?_) (fun vs H Q E h => err_readQ T.E_FilledTwice.ox T.E_FilledTwice.no (by decide) h)
  · exact pa_cons (pe_joined (.cons pe_str (.cons (pe_fmtQ hr (pv 1)) .nil))) pa_nil
  · exact pss_one (ps_ost (pv 0) (pv 1))
  · obtain ⟨a, y, rfl, _⟩ := h
    rfl
theorem ok_NoSelection___init__ (T : Top0 P K mg) : FnOk P w K mg base CX0 1 T.fI_NoSelection (fnI s_NoSelection___init__ "NoSelection.__init__" T.cc_NoSelection T.cd_NoSelection T.E_NoSelection.kI T.E_NoSelection.doI T.E_NoSelection.pI T.E_NoSelection.anI T.E_NoSelection.ctI) ["self", "selection"] (spErrQ K T.C_NoSelection "selection") := by
  refine err_fn (N := ["self", "selection", "__class__"]) (k := 0) (ta := taErrQ K "selection ") (ts := tOst K "selection" (tVar 0) (tVar 1)) T.E_NoSelection.S T.E_NoSelection.ox T.n_super (nscope_by (by decide +kernel)) rfl T.E_NoSelection.hc rfl (fun A outer s H E hr => ?_) (fun A outer s H E hr => ?_) (fun env => rfl) (fun L => rfl) (fun L => rfl) (fun env => rfl) (fun vs H Q E h => ?_) (fun vs H Q E h => err_readQ T.E_NoSelection.ox T.E_NoSelection.no (by decide) h)
  · exact pa_cons (pe_joined (.cons pe_str (.cons (pe_fmtQ hr (pv 1)) .nil))) pa_nil
  · exact pss_one (ps_ost (pv 0) (pv 1))
  · obtain ⟨a, y, rfl, _⟩ := h
    rfl
theorem ok_BadText___init__ (T : Top0 P K mg) : FnOk P w K mg base CX0 1 T.fI_BadText (fnI s_BadText___init__ "BadText.__init__" T.cc_BadText T.cd_BadText T.E_BadText.kI T.E_BadText.doI T.E_BadText.pI T.E_BadText.anI T.E_BadText.ctI) ["self", "column"] (spErrQ K T.C_BadText "column") := by
  refine err_fn (N := ["self", "column", "__class__"]) (k := 0) (ta := taErrQ K "column ") (ts := tOst K "column" (tVar 0) (tVar 1)) T.E_BadText.S T.E_BadText.ox T.n_super (nscope_by (by decide +kernel)) rfl T.E_BadText.hc rfl (fun A outer s H E hr => ?_) (fun A outer s H E hr => ?_) (fun env => rfl) (fun L => rfl) (fun L => rfl) (fun env => rfl) (fun vs H Q E h => ?_) (fun vs H Q E h => err_readQ T.E_BadText.ox T.E_BadText.no (by decide) h)
  · exact pa_cons (pe_joined (.cons pe_str (.cons (pe_fmtQ hr (pv 1)) .nil))) pa_nil
  · exact pss_one (ps_ost (pv 0) (pv 1))
  · obtain ⟨a, y, rfl, _⟩ := h
    rfl
theorem ok_UnknownName___init__ (T : Top0 P K mg) : FnOk P w K mg base CX0 1 T.fI_UnknownName (fnI s_UnknownName___init__ "UnknownName.__init__" T.cc_UnknownName T.cd_UnknownName T.E_UnknownName.kI T.E_UnknownName.doI T.E_UnknownName.pI T.E_UnknownName.anI T.E_UnknownName.ctI) ["self", "column"] (spErrQ K T.C_UnknownName "column") := by
  refine err_fn (N := ["self", "column", "__class__"]) (k := 0) (ta := taErrQ K "column ") (ts := tOst K "column" (tVar 0) (tVar 1)) T.E_UnknownName.S T.E_UnknownName.ox T.n_super (nscope_by (by decide +kernel)) rfl T.E_UnknownName.hc rfl (fun A outer s H E hr => ?_) (fun A outer s H E hr => ?_) (fun env => rfl) (fun L => rfl) (fun L => rfl) (fun env => rfl) (fun vs H Q E h => ?_) (fun vs H Q E h => err_readQ T.E_UnknownName.ox T.E_UnknownName.no (by decide) h)
  · exact pa_cons (pe_joined (.cons pe_str (.cons (pe_fmtQ hr (pv 1)) .nil))) pa_nil
  · exact pss_one (ps_ost (pv 0) (pv 1))
  · obtain ⟨a, y, rfl, _⟩ := h
    rfl
theorem ok_WrongCount___init__ (T : Top0 P K mg) : FnOk P w K mg base CX0 1 T.fI_WrongCount (fnI s_WrongCount___init__ "WrongCount.__init__" T.cc_WrongCount T.cd_WrongCount T.E_WrongCount.kI T.E_WrongCount.doI T.E_WrongCount.pI T.E_WrongCount.anI T.E_WrongCount.ctI) ["self", "column"] (spErrQ K T.C_WrongCount "column") := by
  refine err_fn (N := ["self", "column", "__class__"]) (k := 0) (ta := taErrQ K "column ") (ts := tOst K "column" (tVar 0) (tVar 1)) T.E_WrongCount.S T.E_WrongCount.ox T.n_super (nscope_by (by decide +kernel)) rfl T.E_WrongCount.hc rfl (fun A outer s H E hr => ?_) (fun A outer s H E hr => ?_) (fun env => rfl) (fun L => rfl) (fun L => rfl) (fun env => rfl) (fun vs H Q E h => ?_) (fun vs H Q E h => err_readQ T.E_WrongCount.ox T.E_WrongCount.no (by decide) h)
  · exact pa_cons (pe_joined (.cons pe_str (.cons (pe_fmtQ hr (pv 1)) .nil))) pa_nil
  · exact pss_one (ps_ost (pv 0) (pv 1))
  · obtain ⟨a, y, rfl, _⟩ := h
    rfl
theorem ok_WrongSort___init__ (T : Top0 P K mg) : FnOk P w K mg base CX0 1 T.fI_WrongSort (fnI s_WrongSort___init__ "WrongSort.__init__" T.cc_WrongSort T.cd_WrongSort T.E_WrongSort.kI T.E_WrongSort.doI T.E_WrongSort.pI T.E_WrongSort.anI T.E_WrongSort.ctI) ["self", "column"] (spErrQ K T.C_WrongSort "column") := by
  refine err_fn (N := ["self", "column", "__class__"]) (k := 0) (ta := taErrQ K "column ") (ts := tOst K "column" (tVar 0) (tVar 1)) T.E_WrongSort.S T.E_WrongSort.ox T.n_super (nscope_by (by decide +kernel)) rfl T.E_WrongSort.hc rfl (fun A outer s H E hr => ?_) (fun A outer s H E hr => ?_) (fun env => rfl) (fun L => rfl) (fun L => rfl) (fun env => rfl) (fun vs H Q E h => ?_) (fun vs H Q E h => err_readQ T.E_WrongSort.ox T.E_WrongSort.no (by decide) h)
  · exact pa_cons (pe_joined (.cons pe_str (.cons (pe_fmtQ hr (pv 1)) .nil))) pa_nil
  · exact pss_one (ps_ost (pv 0) (pv 1))
  · obtain ⟨a, y, rfl, _⟩ := h
    rfl
theorem ok_NameBound___init__ (T : Top0 P K mg) : FnOk P w K mg base CX0 1 T.fI_NameBound (fnI s_NameBound___init__ "NameBound.__init__" T.cc_NameBound T.cd_NameBound T.E_NameBound.kI T.E_NameBound.doI T.E_NameBound.pI T.E_NameBound.anI T.E_NameBound.ctI) ["self", "column"] (spErrQ K T.C_NameBound "column") := by
  refine err_fn (N := ["self", "column", "__class__"]) (k := 0) (ta := taErrQ K "column ") (ts := tOst K "column" (tVar 0) (tVar 1)) T.E_NameBound.S T.E_NameBound.ox T.n_super (nscope_by (by decide +kernel)) rfl T.E_NameBound.hc rfl (fun A outer s H E hr => ?_) (fun A outer s H E hr => ?_) (fun env => rfl) (fun L => rfl) (fun L => rfl) (fun env => rfl) (fun vs H Q E h => ?_) (fun vs H Q E h => err_readQ T.E_NameBound.ox T.E_NameBound.no (by decide) h)
  · exact pa_cons (pe_joined (.cons pe_str (.cons (pe_fmtQ hr (pv 1)) .nil))) pa_nil
  · exact pss_one (ps_ost (pv 0) (pv 1))
  · obtain ⟨a, y, rfl, _⟩ := h
    rfl
theorem ok_BadLine___init__ (T : Top0 P K mg) : FnOk P w K mg base CX0 1 T.fI_BadLine (fnI s_BadLine___init__ "BadLine.__init__" T.cc_BadLine T.cd_BadLine T.E_BadLine.kI T.E_BadLine.doI T.E_BadLine.pI T.E_BadLine.anI T.E_BadLine.ctI) ["self", "number"] (spErrQ K T.C_BadLine "number") := by
  refine err_fn (N := ["self", "number", "__class__"]) (k := 0) (ta := taErrQ K "number ") (ts := tOst K "number" (tVar 0) (tVar 1)) T.E_BadLine.S T.E_BadLine.ox T.n_super (nscope_by (by decide +kernel)) rfl T.E_BadLine.hc rfl (fun A outer s H E hr => ?_) (fun A outer s H E hr => ?_) (fun env => rfl) (fun L => rfl) (fun L => rfl) (fun env => rfl) (fun vs H Q E h => ?_) (fun vs H Q E h => err_readQ T.E_BadLine.ox T.E_BadLine.no (by decide) h)
  · exact pa_cons (pe_joined (.cons pe_str (.cons (pe_fmtQ hr (pv 1)) .nil))) pa_nil
  · exact pss_one (ps_ost (pv 0) (pv 1))
  · obtain ⟨a, y, rfl, _⟩ := h
    rfl
theorem ok_NoClause___init__ (T : Top0 P K mg) : FnOk P w K mg base CX0 1 T.fI_NoClause (fnI s_NoClause___init__ "NoClause.__init__" T.cc_NoClause T.cd_NoClause T.E_NoClause.kI T.E_NoClause.doI T.E_NoClause.pI T.E_NoClause.anI T.E_NoClause.ctI) ["self", "number"] (spErrQ K T.C_NoClause "number") := by
  refine err_fn (N := ["self", "number", "__class__"]) (k := 0) (ta := taErrQ K "number ") (ts := tOst K "number" (tVar 0) (tVar 1)) T.E_NoClause.S T.E_NoClause.ox T.n_super (nscope_by (by decide +kernel)) rfl T.E_NoClause.hc rfl (fun A outer s H E hr => ?_) (fun A outer s H E hr => ?_) (fun env => rfl) (fun L => rfl) (fun L => rfl) (fun env => rfl) (fun vs H Q E h => ?_) (fun vs H Q E h => err_readQ T.E_NoClause.ox T.E_NoClause.no (by decide) h)
  · exact pa_cons (pe_joined (.cons pe_str (.cons (pe_fmtQ hr (pv 1)) .nil))) pa_nil
  · exact pss_one (ps_ost (pv 0) (pv 1))
  · obtain ⟨a, y, rfl, _⟩ := h
    rfl
theorem ok_NotWaiting___init__ (T : Top0 P K mg) : FnOk P w K mg base CX0 1 T.fI_NotWaiting (fnI s_NotWaiting___init__ "NotWaiting.__init__" T.cc_NotWaiting T.cd_NotWaiting T.E_NotWaiting.kI T.E_NotWaiting.doI T.E_NotWaiting.pI T.E_NotWaiting.anI T.E_NotWaiting.ctI) ["self", "number"] (spErrQ K T.C_NotWaiting "number") := by
  refine err_fn (N := ["self", "number", "__class__"]) (k := 0) (ta := taErrQ K "number ") (ts := tOst K "number" (tVar 0) (tVar 1)) T.E_NotWaiting.S T.E_NotWaiting.ox T.n_super (nscope_by (by decide +kernel)) rfl T.E_NotWaiting.hc rfl (fun A outer s H E hr => ?_) (fun A outer s H E hr => ?_) (fun env => rfl) (fun L => rfl) (fun L => rfl) (fun env => rfl) (fun vs H Q E h => ?_) (fun vs H Q E h => err_readQ T.E_NotWaiting.ox T.E_NotWaiting.no (by decide) h)
  · exact pa_cons (pe_joined (.cons pe_str (.cons (pe_fmtQ hr (pv 1)) .nil))) pa_nil
  · exact pss_one (ps_ost (pv 0) (pv 1))
  · obtain ⟨a, y, rfl, _⟩ := h
    rfl
theorem ok_BadStep___init__ (T : Top0 P K mg) : FnOk P w K mg base CX0 1 T.fI_BadStep (fnI s_BadStep___init__ "BadStep.__init__" T.cc_BadStep T.cd_BadStep T.E_BadStep.kI T.E_BadStep.doI T.E_BadStep.pI T.E_BadStep.anI T.E_BadStep.ctI) ["self", "index"] (spErrQ K T.C_BadStep "index") := by
  refine err_fn (N := ["self", "index", "__class__"]) (k := 0) (ta := taErrQ K "index ") (ts := tOst K "index" (tVar 0) (tVar 1)) T.E_BadStep.S T.E_BadStep.ox T.n_super (nscope_by (by decide +kernel)) rfl T.E_BadStep.hc rfl (fun A outer s H E hr => ?_) (fun A outer s H E hr => ?_) (fun env => rfl) (fun L => rfl) (fun L => rfl) (fun env => rfl) (fun vs H Q E h => ?_) (fun vs H Q E h => err_readQ T.E_BadStep.ox T.E_BadStep.no (by decide) h)
  · exact pa_cons (pe_joined (.cons pe_str (.cons (pe_fmtQ hr (pv 1)) .nil))) pa_nil
  · exact pss_one (ps_ost (pv 0) (pv 1))
  · obtain ⟨a, y, rfl, _⟩ := h
    rfl
theorem ok_NotUnit___init__ (T : Top0 P K mg) : FnOk P w K mg base CX0 1 T.fI_NotUnit (fnI s_NotUnit___init__ "NotUnit.__init__" T.cc_NotUnit T.cd_NotUnit T.E_NotUnit.kI T.E_NotUnit.doI T.E_NotUnit.pI T.E_NotUnit.anI T.E_NotUnit.ctI) ["self", "index"] (spErrQ K T.C_NotUnit "index") := by
  refine err_fn (N := ["self", "index", "__class__"]) (k := 0) (ta := taErrQ K "index ") (ts := tOst K "index" (tVar 0) (tVar 1)) T.E_NotUnit.S T.E_NotUnit.ox T.n_super (nscope_by (by decide +kernel)) rfl T.E_NotUnit.hc rfl (fun A outer s H E hr => ?_) (fun A outer s H E hr => ?_) (fun env => rfl) (fun L => rfl) (fun L => rfl) (fun env => rfl) (fun vs H Q E h => ?_) (fun vs H Q E h => err_readQ T.E_NotUnit.ox T.E_NotUnit.no (by decide) h)
  · exact pa_cons (pe_joined (.cons pe_str (.cons (pe_fmtQ hr (pv 1)) .nil))) pa_nil
  · exact pss_one (ps_ost (pv 0) (pv 1))
  · obtain ⟨a, y, rfl, _⟩ := h
    rfl
theorem ok_NotUnits___init__ (T : Top0 P K mg) : FnOk P w K mg base CX0 1 T.fI_NotUnits (fnI s_NotUnits___init__ "NotUnits.__init__" T.cc_NotUnits T.cd_NotUnits T.E_NotUnits.kI T.E_NotUnits.doI T.E_NotUnits.pI T.E_NotUnits.anI T.E_NotUnits.ctI) ["self", "index"] (spErrQ K T.C_NotUnits "index") := by
  refine err_fn (N := ["self", "index", "__class__"]) (k := 0) (ta := taErrQ K "index ") (ts := tOst K "index" (tVar 0) (tVar 1)) T.E_NotUnits.S T.E_NotUnits.ox T.n_super (nscope_by (by decide +kernel)) rfl T.E_NotUnits.hc rfl (fun A outer s H E hr => ?_) (fun A outer s H E hr => ?_) (fun env => rfl) (fun L => rfl) (fun L => rfl) (fun env => rfl) (fun vs H Q E h => ?_) (fun vs H Q E h => err_readQ T.E_NotUnits.ox T.E_NotUnits.no (by decide) h)
  · exact pa_cons (pe_joined (.cons pe_str (.cons (pe_fmtQ hr (pv 1)) .nil))) pa_nil
  · exact pss_one (ps_ost (pv 0) (pv 1))
  · obtain ⟨a, y, rfl, _⟩ := h
    rfl
theorem ok_BadClause___init__ (T : Top0 P K mg) : FnOk P w K mg base CX0 1 T.fI_BadClause (fnI s_BadClause___init__ "BadClause.__init__" T.cc_BadClause T.cd_BadClause T.E_BadClause.kI T.E_BadClause.doI T.E_BadClause.pI T.E_BadClause.anI T.E_BadClause.ctI) ["self", "index"] (spErrQ K T.C_BadClause "index") := by
  refine err_fn (N := ["self", "index", "__class__"]) (k := 0) (ta := taErrQ K "index ") (ts := tOst K "index" (tVar 0) (tVar 1)) T.E_BadClause.S T.E_BadClause.ox T.n_super (nscope_by (by decide +kernel)) rfl T.E_BadClause.hc rfl (fun A outer s H E hr => ?_) (fun A outer s H E hr => ?_) (fun env => rfl) (fun L => rfl) (fun L => rfl) (fun env => rfl) (fun vs H Q E h => ?_) (fun vs H Q E h => err_readQ T.E_BadClause.ox T.E_BadClause.no (by decide) h)
  · exact pa_cons (pe_joined (.cons pe_str (.cons (pe_fmtQ hr (pv 1)) .nil))) pa_nil
  · exact pss_one (ps_ost (pv 0) (pv 1))
  · obtain ⟨a, y, rfl, _⟩ := h
    rfl
theorem ok_TooHeavy___init__ (T : Top0 P K mg) : FnOk P w K mg base CX0 1 T.fI_TooHeavy (fnI s_TooHeavy___init__ "TooHeavy.__init__" T.cc_TooHeavy T.cd_TooHeavy T.E_TooHeavy.kI T.E_TooHeavy.doI T.E_TooHeavy.pI T.E_TooHeavy.anI T.E_TooHeavy.ctI) ["self", "load"] (spErrQ K T.C_TooHeavy "load") := by
  refine err_fn (N := ["self", "load", "__class__"]) (k := 0) (ta := taErrQ K "load ") (ts := tOst K "load" (tVar 0) (tVar 1)) T.E_TooHeavy.S T.E_TooHeavy.ox T.n_super (nscope_by (by decide +kernel)) rfl T.E_TooHeavy.hc rfl (fun A outer s H E hr => ?_) (fun A outer s H E hr => ?_) (fun env => rfl) (fun L => rfl) (fun L => rfl) (fun env => rfl) (fun vs H Q E h => ?_) (fun vs H Q E h => err_readQ T.E_TooHeavy.ox T.E_TooHeavy.no (by decide) h)
  · exact pa_cons (pe_joined (.cons pe_str (.cons (pe_fmtQ hr (pv 1)) .nil))) pa_nil
  · exact pss_one (ps_ost (pv 0) (pv 1))
  · obtain ⟨a, y, rfl, _⟩ := h
    rfl
end
end K09

set_option Elab.async false
set_option linter.all false
set_option maxRecDepth 100000
set_option maxHeartbeats 2000000
namespace K09
open PySem PySem.Spec PyProof.Rows L2 NdefX CW RZ
open PySem.W (fnX)
/-! the errors of a list -/
def ErrF (H : Hp) (x : V) (C : Addr) (f : Str) (y : V) : Prop := ∃ a d, x = .ref a ∧ H a = some (exo a C (some d)) ∧ H d = some (exd d [(f, y)])
inductive It where
  | f (C : Addr) (n : Str) (y : V)
  | p (C : Addr)
def It.C : It → Addr
  | .f C _ _ => C
  | .p C => C
def ErrI (H : Hp) (x : V) : It → Prop
  | .f C n y => ErrF H x C n y
  | .p C => ∃ a, x = .ref a ∧ H a = some (ExO (.ref C) a)
inductive ErrsI (H : Hp) : List V → List It → Prop
  | nil : ErrsI H [] []
  | cons {x : V} {xs : List V} {i : It} {is : List It} : ErrI H x i → ErrsI H xs is → ErrsI H (x :: xs) (i :: is)
theorem ErrI.mono {H H' : Hp} (e : Xt H H') {x : V} : ∀ {i : It}, ErrI H x i → ErrI H' x i
  | .f _ _ _, ⟨a, d, h1, h2, h3⟩ => ⟨a, d, h1, e _ _ h2, e _ _ h3⟩
  | .p _, ⟨a, h1, h2⟩ => ⟨a, h1, e _ _ h2⟩
theorem ErrsI.mono {H H' : Hp} (e : Xt H H') : ∀ {xs : List V} {is : List It}, ErrsI H xs is → ErrsI H' xs is
  | _, _, .nil => .nil
  | _, _, .cons h r => .cons (h.mono e) (r.mono e)
theorem ErrsI.len {H : Hp} : ∀ {xs : List V} {is : List It}, ErrsI H xs is → xs.length = is.length
  | _, _, .nil => rfl
  | _, _, .cons _ r => congrArg Nat.succ r.len
theorem ErrsI.app {H : Hp} : ∀ {xs ys : List V} {is js : List It}, ErrsI H xs is → ErrsI H ys js → ErrsI H (xs ++ ys) (is ++ js)
  | _, _, _, _, .nil, h => h
  | _, _, _, _, .cons h r, h2 => .cons h (r.app h2)
theorem ErrsI.get {H : Hp} : ∀ {xs : List V} {is : List It} {k : Nat} {x : V}, ErrsI H xs is → xs[k]? = some x → ∃ i, is[k]? = some i ∧ ErrI H x i
  | _, _, _, _, .nil, e => by simp at e
  | _, _, 0, _, .cons h _, e => by simp at e; subst e; exact ⟨_, rfl, h⟩
  | _, _, k + 1, _, .cons _ r, e => by
    obtain ⟨i, h1, h2⟩ := r.get (k := k) (by simpa using e)
    exact ⟨i, by simpa using h1, h2⟩
/-- what is drawn -/
structure W9 where
  z : Str
  ns : List Int
  a : Str
  b : Str
  n : Int
structure W9.Ok (x : W9) : Prop where
  z1 : ascS x.z = true
  z2 : x.z.length ≤ 10
  n1 : x.ns.length ≤ 10
  n2 : ∀ i ∈ x.ns, 0 ≤ i ∧ i < 60
  a1 : ascS x.a = true
  a2 : x.a.length ≤ 20
  b1 : ascS x.b = true
  b2 : x.b.length ≤ 20
  m1 : 0 ≤ x.n
  m2 : x.n < 1000000
def W9.dN (x : W9) : PyData := .tuple (x.ns.map PyData.int)
def W9.dV (x : W9) : PyData := .tuple [.str x.a, .str x.b]
def W9.d (x : W9) : PyData := .list [.str x.z, x.dN, x.dV, .int x.n]
section
variable {P : Program} {K : PySem.W.Frag} {mg : Str → Option Value}
def itsN (T : Top0 P K mg) (y : V) : List It := [.f T.C_BadName "name" y, .f T.C_NameTaken "name" y, .f T.C_NoSort "name" y, .f T.C_ReservedName "name" y, .f T.C_NotSentence "name" y, .f T.C_NoAxiom "name" y, .f T.C_BadTable "name" y, .f T.C_BadWeight "name" y, .f T.C_BadSize "name" y]
def itsC (T : Top0 P K mg) (y : V) : List It := [.f T.C_BadText "column" y, .f T.C_UnknownName "column" y, .f T.C_WrongCount "column" y, .f T.C_WrongSort "column" y, .f T.C_NameBound "column" y]
def itsM (T : Top0 P K mg) (y : V) : List It := [.f T.C_BadLine "number" y, .f T.C_NoClause "number" y, .f T.C_NotWaiting "number" y]
def itsX (T : Top0 P K mg) (y : V) : List It := [.f T.C_BadStep "index" y, .f T.C_NotUnit "index" y, .f T.C_NotUnits "index" y, .f T.C_BadClause "index" y]
def itsO (T : Top0 P K mg) (y0 y1 y2 y3 : V) : List It := [.f T.C_BadPlace "place" y1, .f T.C_FilledTwice "variable" y2, .f T.C_NoSelection "selection" y0, .f T.C_TooHeavy "load" y3]
def itsP (T : Top0 P K mg) : List It := [.p T.C_TooLong, .p T.C_TooMany, .p T.C_NoSteps, .p T.C_NotRefutation, .p T.C_RunOver, .p T.C_GivenDiffer, .p T.C_NotEnded]
def itsA (T : Top0 P K mg) (y0 y1 y2 y3 : V) : List It := itsN T y0 ++ itsC T y3 ++ itsM T y3 ++ itsX T y3 ++ itsO T y0 y1 y2 y3 ++ itsP T
theorem itsA_C (T : Top0 P K mg) (y0 y1 y2 y3 : V) : (itsA T y0 y1 y2 y3).map It.C = T.CL := rfl
/-- an end: a new list of these errors -/
abbrev ErrsQ (its : List It) (H : Hp) (Q : VK) : Prop := ∀ p H' xs, Xt H H' → H' p = some (.lst xs) → ErrsI H' xs its → Q (.ref p) H'
def sp__law_cell (_ : Top0 P K mg) : Sp := fun vs H Q _ => ∃ (l : Addr) (ns : List Int) (k : Int), vs = [.ref l, .int k] ∧ SqL K H l (ns.map V.int) ∧ ns.length ≤ 63 ∧ (0 ≤ k ∧ k ≤ 1000) ∧ ∀ v, Q (.int v) H
def sp__law_digits (_ : Top0 P K mg) : Sp := fun vs H Q _ => ∃ (c : Int) (a : Addr) (ss : List Int), vs = [.int c, .ref a] ∧ SqL K H a (ss.map V.int) ∧ ss.length ≤ 1000 ∧ (∀ x ∈ ss, 0 < x ∧ x < 1073741824) ∧ ∀ p H' ds, Xt H H' → H' p = some (.lst (ds.map V.int)) → DigOk ds ss → Q (.ref p) H'
def sp__law_text (_ : Top0 P K mg) : Sp := fun vs H Q _ => ∃ (a : Addr) (ns : List Int), vs = [.ref a] ∧ SqL K H a (ns.map V.int) ∧ ns.length ≤ 100 ∧ (∀ n ∈ ns, 0 ≤ n ∧ n < 95) ∧ ∀ z H', Xt H H' → ascS z = true → z.length ≤ ns.length → Q (.str z) H'
def sp__law_values (_ : Top0 P K mg) : Sp := fun vs H Q _ => ∃ c : Int, vs = [.int c] ∧ ∀ v H' (x : W9), Xt H H' → x.Ok → Dp K H' v x.d → Q v H'
def sp__law_named (T : Top0 P K mg) : Sp := fun vs H Q _ => ∃ y : V, vs = [y] ∧ RepV y ∧ ErrsQ (itsN T y) H Q
def sp__law_columned (T : Top0 P K mg) : Sp := fun vs H Q _ => ∃ y : V, vs = [y] ∧ RepV y ∧ ErrsQ (itsC T y) H Q
def sp__law_numbered (T : Top0 P K mg) : Sp := fun vs H Q _ => ∃ y : V, vs = [y] ∧ RepV y ∧ ErrsQ (itsM T y) H Q
def sp__law_indexed (T : Top0 P K mg) : Sp := fun vs H Q _ => ∃ y : V, vs = [y] ∧ RepV y ∧ ErrsQ (itsX T y) H Q
/-- the drawn list stands at v, with these items -/
def VAt (K : PySem.W.Frag) (H : Hp) (v : V) (x : W9) (y0 y1 y2 y3 : V) : Prop := y0 = .str x.z ∧ y3 = .int x.n ∧ Dp K H y1 x.dN ∧ Dp K H y2 x.dV ∧ ∃ a, v = .ref a ∧ SqL K H a [y0, y1, y2, y3]
def sp__law_others (T : Top0 P K mg) : Sp := fun vs H Q _ => ∃ (v : V) (x : W9) (y0 y1 y2 y3 : V), vs = [v] ∧ x.Ok ∧ VAt K H v x y0 y1 y2 y3 ∧ ErrsQ (itsO T y0 y1 y2 y3) H Q
def sp__law_plain (T : Top0 P K mg) : Sp := fun vs H Q _ => vs = [] ∧ ErrsQ (itsP T) H Q
def sp__law_all (T : Top0 P K mg) : Sp := fun vs H Q _ => ∃ (v : V) (x : W9) (y0 y1 y2 y3 : V), vs = [v] ∧ x.Ok ∧ VAt K H v x y0 y1 y2 y3 ∧ ErrsQ (itsA T y0 y1 y2 y3) H Q
def sp__law_kinds (T : Top0 P K mg) : Sp := fun vs H Q _ => ∃ (e : V) (it : It) (i : Nat), vs = [e] ∧ ErrI H e it ∧ T.CL[i]? = some it.C ∧ ∀ p H', Xt H H' → H' p = some (.lst ((List.range 32).map fun j => V.bl (i == j))) → Q (.ref p) H'
def dueV (y0 y1 y2 y3 : V) : List V := List.replicate 9 y0 ++ List.replicate 12 y3 ++ [y1, y2, y0, y3]
def sp__law_fields (T : Top0 P K mg) : Sp := fun vs H Q _ => ∃ (p : Addr) (xs : List V) (y0 y1 y2 y3 : V), vs = [.ref p] ∧ H p = some (.lst xs) ∧ ErrsI H xs (itsA T y0 y1 y2 y3) ∧ ∀ p' H', Xt H H' → H' p' = some (.lst (dueV y0 y1 y2 y3)) → Q (.ref p') H'
def sp__law_due (_ : Top0 P K mg) : Sp := fun vs H Q _ => ∃ (v : V) (a : Addr) (y0 y1 y2 y3 : V), vs = [v] ∧ v = .ref a ∧ SqL K H a [y0, y1, y2, y3] ∧ ∀ p' H', Xt H H' → H' p' = some (.lst (dueV y0 y1 y2 y3)) → Q (.ref p') H'
def sp_law (_ : Top0 P K mg) : Sp := fun vs H Q _ => ∃ (l : Addr) (ns : List Int), vs = [.ref l] ∧ SqL K H l (ns.map V.int) ∧ ns.length ≤ 63 ∧ ∀ H', Q (.bl true) H'
end
/-! readings in short -/
theorem digs_asc (m : Nat) : ∀ c ∈ (Nat.toDigits 10 m).map Char.toNat, c < 128 := by
  intro c hc
  obtain ⟨ch, h, rfl⟩ := List.mem_map.mp hc
  have := Nat.isDigit_of_mem_toDigits (by decide) (by decide) h
  exact PySem.digit_ascii this
theorem num_txt {i : Int} (h0 : 0 ≤ i) (h1 : i < 1000000) : ascS (Str.ofString (toString i)) = true ∧ (Str.ofString (toString i)).length ≤ 7 := by
  obtain ⟨m, rfl⟩ := Int.eq_ofNat_of_zero_le h0
  refine ⟨?_, ?_⟩
  · unfold ascS
    rw [PySem.W.KIN.signs_num]
    exact List.all_eq_true.mpr fun c hc => decide_eq_true (digs_asc m c hc)
  · have h := int_text_length_le10 (a := (m : Int)) (k := 6) (by decide) (by omega)
    rw [PySem.ofString_length]
    omega
theorem small_log {i : Int} (h0 : 0 ≤ i) (h1 : i < 1000000) : i.natAbs.log2 < 1000 := by
  have h2 : i.natAbs < 2 ^ 1000 := Nat.lt_of_lt_of_le (show i.natAbs < 2 ^ 20 by omega) (Nat.pow_le_pow_right (by decide) (by decide))
  by_cases hz : i.natAbs = 0
  · rw [hz]; decide
  · exact (Nat.log2_lt hz).mpr h2
theorem RepX.mono {K : PySem.W.Frag} {H H' : Hp} (e : Xt H H') {y : V} (h : RepX K H y) : RepX K H' y := by
  rcases h with h | ⟨a, xs, rfl, hs, h2, h3⟩
  · exact .inl h
  · exact .inr ⟨a, xs, rfl, xt e hs, h2, h3⟩
section
variable {K : PySem.W.Frag} {σ : L2.St} {H : Hp} {Q : VK} {C : Addr} {fld : Str} {y : V} {ta : TA} {te : TE} {sp : Sp}
theorem k_mkx (h : ta σ H fun vs H1 => vs.length ≤ 1000 ∧ ∀ a, H1 a = none → sp (.ref a :: vs) (upd H1 a (exo a C none)) (fun v H2 => v = .non ∧ Q (.ref a) H2) (fun _ _ _ => False)) : tMkX C sp ta σ H Q := h
theorem m_mkx {R : Addr → Hp → Prop} (hy : RepX K H y) (q : ∀ a H2, Xt H H2 → ErrF H2 (.ref a) C fld y → R a H2) : ([y] : List V).length ≤ 1000 ∧ ∀ a, H a = none → spErrQ K C fld (.ref a :: [y]) (upd H a (exo a C none)) (fun v H2 => v = .non ∧ R a H2) (fun _ _ _ => False) := by
  refine ⟨by show 1 ≤ 1000; decide, fun a ha => ⟨a, y, rfl, upd_same, RepX.mono (xnew ha) hy, fun dx hdx hne => ⟨rfl, q a _ (fun b o e => ?_) ⟨a, dx, rfl, upd_same, ?_⟩⟩⟩⟩
  · have hb : b ≠ a := fun z => by rw [z, ha] at e; cases e
    have hb2 : b ≠ dx := fun z => by
      rw [z] at e hb
      rw [upd_ne hb, e] at hdx; cases hdx
    rw [upd_ne hb, upd_ne hb2, upd_ne hb]; exact e
  · rw [upd_ne hne, upd_same]
theorem k_mkp (q : ∀ a H2, Xt H H2 → ErrI H2 (.ref a) (.p C) → Q (.ref a) H2) : tMkP C σ H Q := fun a ha => q a _ (xnew ha) ⟨a, rfl, upd_same⟩
theorem k_xv (h : te σ H fun x H1 => ∃ (a C d : Addr) (fs : List (Str × V)) (v : V), x = .ref a ∧ XfC K C ∧ PySem.W.findIn K (.ref C) fld = some none ∧ H1 a = some (exo a C (some d)) ∧ H1 d = some (exd d fs) ∧ fs.lookup fld = some v ∧ Q v H1) : tXv K fld te σ H Q := h
theorem look1 : List.lookup fld [(fld, y)] = some y := by
  rw [List.lookup_cons, beq_self_eq_true]
theorem m_xv {x : V} {R : V → Prop} (h : ErrF H x C fld y) (hc : XfC K C) (hn : PySem.W.findIn K (.ref C) fld = some none) (q : R y) : ∃ (a C d : Addr) (fs : List (Str × V)) (v : V), x = .ref a ∧ XfC K C ∧ PySem.W.findIn K (.ref C) fld = some none ∧ H a = some (exo a C (some d)) ∧ H d = some (exd d fs) ∧ fs.lookup fld = some v ∧ R v := by
  obtain ⟨a, d, rfl, h1, h2⟩ := h
  exact ⟨a, C, d, _, y, rfl, hc, hn, h1, h2, look1, q⟩
theorem m_isv {e : V} {it : It} {D : Addr} {b : Bool} (h : ErrI H e it) (hx : ExcC K it.C) (hk : PySem.W.kitOne K (.ref it.C) (.ref D) = some b) (q : Q (.bl b) H) : rIsV K [e, .ref D] H Q := by
  cases it with
  | f C n y =>
    obtain ⟨a, d, rfl, h1, h2⟩ := h
    exact ⟨a, C, .ref D, .ref D, b, rfl, .inl ⟨d, _, h1, h2⟩, hx, fun u r => r, hk, q⟩
  | p C =>
    obtain ⟨a, rfl, h1⟩ := h
    exact ⟨a, C, .ref D, .ref D, b, rfl, .inr h1, hx, fun u r => r, hk, q⟩
theorem m_isVE {e : V} {it : It} {b : Bool} (h : ErrI H e it) (hx : ExcC K it.C) (hk : PySem.W.kitOne K (.ref it.C) (.type "ValueError") = some b) (q : Q (.bl b) H) : rIsV K [e, .ty "ValueError"] H Q := by
  cases it with
  | f C n y =>
    obtain ⟨a, d, rfl, h1, h2⟩ := h
    exact ⟨a, C, .ty "ValueError", .type "ValueError", b, rfl, .inl ⟨d, _, h1, h2⟩, hx, fun u r => r, hk, q⟩
  | p C =>
    obtain ⟨a, rfl, h1⟩ := h
    exact ⟨a, C, .ty "ValueError", .type "ValueError", b, rfl, .inr h1, hx, fun u r => r, hk, q⟩
end
section
variable {P : Program} {K : PySem.W.Frag} {mg : Str → Option Value} {H : Hp}
theorem cl_exc (T : Top0 P K mg) : ∀ c ∈ T.CL, ExcC K c := by
  unfold Top0.CL
  simp only [List.mem_cons, List.not_mem_nil, or_false]
  rintro c (h | h | h | h | h | h | h | h | h | h | h | h | h | h | h | h | h | h | h | h | h | h | h | h | h | h | h | h | h | h | h | h) <;> subst h
  · exact T.xc_BadName
  · exact T.xc_NameTaken
  · exact T.xc_NoSort
  · exact T.xc_ReservedName
  · exact T.xc_NotSentence
  · exact T.xc_NoAxiom
  · exact T.xc_BadTable
  · exact T.xc_BadWeight
  · exact T.xc_BadSize
  · exact T.xc_BadText
  · exact T.xc_UnknownName
  · exact T.xc_WrongCount
  · exact T.xc_WrongSort
  · exact T.xc_NameBound
  · exact T.xc_BadLine
  · exact T.xc_NoClause
  · exact T.xc_NotWaiting
  · exact T.xc_BadStep
  · exact T.xc_NotUnit
  · exact T.xc_NotUnits
  · exact T.xc_BadClause
  · exact T.xc_BadPlace
  · exact T.xc_FilledTwice
  · exact T.xc_NoSelection
  · exact T.xc_TooHeavy
  · exact T.xc_TooLong
  · exact T.xc_TooMany
  · exact T.xc_NoSteps
  · exact T.xc_NotRefutation
  · exact T.xc_RunOver
  · exact T.xc_GivenDiffer
  · exact T.xc_NotEnded
theorem dN_repx {x : W9} (ok : x.Ok) {y : V} (h : Dp K H y x.dN) : RepX K H y := by
  obtain ⟨a, xs, rfl, hs, hd⟩ := Dp.tup_inv h
  have e := DpAll.ints_inv hd
  subst e
  refine .inr ⟨a, _, rfl, hs, by rw [List.length_map]; have := ok.n1; omega, fun v hv => ?_⟩
  obtain ⟨i, hi, rfl⟩ := List.mem_map.mp hv
  have := ok.n2 i hi
  exact .inr ⟨i, rfl, small_log this.1 (by omega)⟩
theorem dV_repx {x : W9} (ok : x.Ok) {y : V} (h : Dp K H y x.dV) : RepX K H y := by
  obtain ⟨a, xs, rfl, hs, hd⟩ := Dp.tup_inv h
  have e := DpAll.strs_inv (zs := [x.a, x.b]) hd
  subst e
  refine .inr ⟨a, _, rfl, hs, by simp, fun v hv => ?_⟩
  simp only [List.map_cons, List.map_nil, List.mem_cons, List.not_mem_nil, or_false] at hv
  have h1 := ok.a2
  have h2 := ok.b2
  rcases hv with rfl | rfl
  · exact .inl ⟨_, rfl, ok.a1, by omega⟩
  · exact .inl ⟨_, rfl, ok.b1, by omega⟩
theorem VAt.mono {H' : Hp} (e : Xt H H') {v : V} {x : W9} {y0 y1 y2 y3 : V} (h : VAt K H v x y0 y1 y2 y3) : VAt K H' v x y0 y1 y2 y3 := by
  obtain ⟨h1, h2, h3, h4, a, h5, h6⟩ := h
  exact ⟨h1, h2, Dp.mono e h3, Dp.mono e h4, a, h5, xl e h6⟩
theorem VAt.of {v : V} {x : W9} (h : Dp K H v x.d) : ∃ y0 y1 y2 y3, VAt K H v x y0 y1 y2 y3 := by
  obtain ⟨a, xs, rfl, hs, hd⟩ := Dp.lst_inv h
  obtain ⟨y0, r0, rfl, h0, hd⟩ := DpAll.cons_inv hd
  obtain ⟨y1, r1, rfl, h1, hd⟩ := DpAll.cons_inv hd
  obtain ⟨y2, r2, rfl, h2, hd⟩ := DpAll.cons_inv hd
  obtain ⟨y3, r3, rfl, h3, hd⟩ := DpAll.cons_inv hd
  have e := DpAll.nil_inv hd
  subst e
  exact ⟨y0, y1, y2, y3, Dp.str_inv h0, Dp.int_inv h3, h1, h2, a, rfl, hs⟩
theorem ErrsI.drop : ∀ (n : Nat) {xs : List V} {is : List It}, ErrsI H xs is → ErrsI H (xs.drop n) (is.drop n)
  | 0, _, _, h => h
  | _ + 1, _, _, .nil => .nil
  | n + 1, _, _, .cons _ h => ErrsI.drop n h
theorem ErrsI.take : ∀ (n : Nat) {xs : List V} {is : List It}, ErrsI H xs is → ErrsI H (xs.take n) (is.take n)
  | 0, _, _, _ => .nil
  | _ + 1, _, _, .nil => .nil
  | n + 1, _, _, .cons h h2 => .cons h (ErrsI.take n h2)
def cutI (is : List It) (lo hi : Option Int) : List It := (is.drop (HT.sIx is.length 0 lo)).take (HT.sIx is.length is.length hi - HT.sIx is.length 0 lo)
theorem ErrsI.cut {xs : List V} {is : List It} {lo hi : Option Int} (h : ErrsI H xs is) : ErrsI H (cutV xs lo hi) (cutI is lo hi) := by
  unfold cutV cutI
  rw [h.len]
  exact ErrsI.take _ (ErrsI.drop _ h)
theorem ErrsI.at {xs : List V} {is : List It} {k : Nat} {i : It} (h : ErrsI H xs is) (e : is[k]? = some i) : ∃ x, xs[k]? = some x ∧ ErrI H x i := by
  have hk : k < xs.length := by rw [h.len]; exact (List.getElem?_eq_some_iff.mp e).1
  obtain ⟨j, h1, h2⟩ := h.get (List.getElem?_eq_getElem hk)
  rw [e] at h1
  cases h1
  exact ⟨_, List.getElem?_eq_getElem hk, h2⟩
end
theorem kit_of {P : Program} {K : PySem.W.Frag} {mg : Str → Option Value} (T : Top0 P K mg) : kitB K T.CL T.C_ClaimError T.C_TextError = true := by
  have h := T.kit
  unfold kitN at h
  rw [addrOf_eq T.a_ClaimError, addrOf_eq T.a_TextError] at h
  have e : (["BadName", "NameTaken", "NoSort", "ReservedName", "NotSentence", "NoAxiom", "BadTable", "BadWeight", "BadSize", "BadText", "UnknownName", "WrongCount", "WrongSort", "NameBound", "BadLine", "NoClause", "NotWaiting", "BadStep", "NotUnit", "NotUnits", "BadClause", "BadPlace", "FilledTwice", "NoSelection", "TooHeavy", "TooLong", "TooMany", "NoSteps", "NotRefutation", "RunOver", "GivenDiffer", "NotEnded"] : List Str).map (addrOf K) = T.CL := by
    simp only [List.map_cons, List.map_nil]
    rw [addrOf_eq T.E_BadName.a, addrOf_eq T.E_NameTaken.a, addrOf_eq T.E_NoSort.a, addrOf_eq T.E_ReservedName.a, addrOf_eq T.E_NotSentence.a, addrOf_eq T.E_NoAxiom.a, addrOf_eq T.E_BadTable.a, addrOf_eq T.E_BadWeight.a, addrOf_eq T.E_BadSize.a, addrOf_eq T.E_BadText.a, addrOf_eq T.E_UnknownName.a, addrOf_eq T.E_WrongCount.a, addrOf_eq T.E_WrongSort.a, addrOf_eq T.E_NameBound.a, addrOf_eq T.E_BadLine.a, addrOf_eq T.E_NoClause.a, addrOf_eq T.E_NotWaiting.a, addrOf_eq T.E_BadStep.a, addrOf_eq T.E_NotUnit.a, addrOf_eq T.E_NotUnits.a, addrOf_eq T.E_BadClause.a, addrOf_eq T.E_BadPlace.a, addrOf_eq T.E_FilledTwice.a, addrOf_eq T.E_NoSelection.a, addrOf_eq T.E_TooHeavy.a, addrOf_eq T.E_TooLong.a, addrOf_eq T.E_TooMany.a, addrOf_eq T.E_NoSteps.a, addrOf_eq T.E_NotRefutation.a, addrOf_eq T.E_RunOver.a, addrOf_eq T.E_GivenDiffer.a, addrOf_eq T.E_NotEnded.a]
    rfl
  rw [e] at h
  exact h
def sg95 : Str := (Str.ofString " !\"#$&'()*+,-./0123456789:;<=>?@ABCDEFGHIJKLMNOPQRSTUVWXYZ[\\]^_`") ++ (Str.ofString "abcdefghijklmnopqrstuvwxyz{|}~\n")
theorem sg95_len : sg95.cps.toList.length = 95 := by decide +kernel
theorem sg95_asc : ∀ c ∈ sg95.cps.toList, c < 128 := by decide +kernel
theorem atI_mem {α : Type} {l : List α} {i : Int} {c : α} (h : atI l i = some c) : c ∈ l := by
  unfold atI at h
  cases e : ixN l.length i with
  | none => rw [e] at h; cases h
  | some j => rw [e] at h; exact List.mem_of_getElem? h
section
variable {P : Program} {K : PySem.W.Frag} {mg : Str → Option Value} {H : Hp}
theorem itsN_x (T : Top0 P K mg) (y : V) : ∀ it ∈ itsN T y, ∃ C, it = .f C "name" y ∧ XfC K C ∧ PySem.W.findIn K (.ref C) "name" = some none := by
  unfold itsN
  simp only [List.mem_cons, List.not_mem_nil, or_false]
  rintro it (h | h | h | h | h | h | h | h | h) <;> subst h
  · exact ⟨_, rfl, T.xf_BadName, T.no_BadName⟩
  · exact ⟨_, rfl, T.xf_NameTaken, T.no_NameTaken⟩
  · exact ⟨_, rfl, T.xf_NoSort, T.no_NoSort⟩
  · exact ⟨_, rfl, T.xf_ReservedName, T.no_ReservedName⟩
  · exact ⟨_, rfl, T.xf_NotSentence, T.no_NotSentence⟩
  · exact ⟨_, rfl, T.xf_NoAxiom, T.no_NoAxiom⟩
  · exact ⟨_, rfl, T.xf_BadTable, T.no_BadTable⟩
  · exact ⟨_, rfl, T.xf_BadWeight, T.no_BadWeight⟩
  · exact ⟨_, rfl, T.xf_BadSize, T.no_BadSize⟩
theorem itsC_x (T : Top0 P K mg) (y : V) : ∀ it ∈ itsC T y, ∃ C, it = .f C "column" y ∧ XfC K C ∧ PySem.W.findIn K (.ref C) "column" = some none := by
  unfold itsC
  simp only [List.mem_cons, List.not_mem_nil, or_false]
  rintro it (h | h | h | h | h) <;> subst h
  · exact ⟨_, rfl, T.xf_BadText, T.no_BadText⟩
  · exact ⟨_, rfl, T.xf_UnknownName, T.no_UnknownName⟩
  · exact ⟨_, rfl, T.xf_WrongCount, T.no_WrongCount⟩
  · exact ⟨_, rfl, T.xf_WrongSort, T.no_WrongSort⟩
  · exact ⟨_, rfl, T.xf_NameBound, T.no_NameBound⟩
theorem itsM_x (T : Top0 P K mg) (y : V) : ∀ it ∈ itsM T y, ∃ C, it = .f C "number" y ∧ XfC K C ∧ PySem.W.findIn K (.ref C) "number" = some none := by
  unfold itsM
  simp only [List.mem_cons, List.not_mem_nil, or_false]
  rintro it (h | h | h) <;> subst h
  · exact ⟨_, rfl, T.xf_BadLine, T.no_BadLine⟩
  · exact ⟨_, rfl, T.xf_NoClause, T.no_NoClause⟩
  · exact ⟨_, rfl, T.xf_NotWaiting, T.no_NotWaiting⟩
theorem itsX_x (T : Top0 P K mg) (y : V) : ∀ it ∈ itsX T y, ∃ C, it = .f C "index" y ∧ XfC K C ∧ PySem.W.findIn K (.ref C) "index" = some none := by
  unfold itsX
  simp only [List.mem_cons, List.not_mem_nil, or_false]
  rintro it (h | h | h | h) <;> subst h
  · exact ⟨_, rfl, T.xf_BadStep, T.no_BadStep⟩
  · exact ⟨_, rfl, T.xf_NotUnit, T.no_NotUnit⟩
  · exact ⟨_, rfl, T.xf_NotUnits, T.no_NotUnits⟩
  · exact ⟨_, rfl, T.xf_BadClause, T.no_BadClause⟩
theorem cut_ints (ds : List Int) (lo hi : Option Int) : ∃ ns : List Int, cutV (ds.map V.int) lo hi = ns.map V.int ∧ ns.length ≤ ds.length ∧ (∀ (k i : Nat) (n : Int), lo = some (k : Int) → k ≤ ds.length → ns[i]? = some n → ds[k + i]? = some n) := by
  refine ⟨(ds.drop (HT.sIx ds.length 0 lo)).take (HT.sIx ds.length ds.length hi - HT.sIx ds.length 0 lo), ?_, ?_, ?_⟩
  · unfold cutV
    rw [List.length_map, List.map_take, List.map_drop]
  · rw [List.length_take, List.length_drop]; omega
  · intro k i n e hk h
    subst e
    have h2 : (cutV (ds.map V.int) (some (k : Int)) hi)[i]? = some (.int n) := by
      unfold cutV
      rw [List.length_map, ← List.map_drop, ← List.map_take, List.getElem?_map, h]
      rfl
    have h3 := cutV_at (by rw [List.length_map]; exact hk) h2
    rw [List.getElem?_map] at h3
    cases q : ds[k + i]? with
    | none => rw [q] at h3; cases h3
    | some m => rw [q] at h3; cases h3; rfl
end
def SS9 : List Int := [9, 7, 26, 9, 1000000, 95, 95, 95, 95, 95, 95, 95, 95, 60, 60, 60, 60, 60, 60]
theorem ss95 : ∀ i : Nat, i < 8 → SS9[5 + i]? = some 95 := by decide
theorem ss60 : ∀ i : Nat, i < 6 → SS9[13 + i]? = some 60 := by decide
def cap26 : Str := "ABCDEFGHIJKLMNOPQRSTUVWXYZ"
theorem cap26_len : cap26.cps.toList.length = 26 := by decide +kernel
theorem cap26_asc : ∀ c ∈ cap26.cps.toList, c < 128 := by decide +kernel
theorem asc_app {a b : Str} (h1 : ascS a = true) (h2 : ascS b = true) : ascS (a ++ b) = true := by
  unfold ascS at *
  rw [app_l, List.all_append, h1, h2]; rfl
theorem asc_cut {a : Str} {lo hi : Option Int} (h1 : ascS a = true) : ascS (cutS a lo hi) = true := by
  unfold ascS at *
  rw [cut_l]
  exact List.all_eq_true.mpr fun c hc => List.all_eq_true.mp h1 c (List.mem_of_mem_drop (List.mem_of_mem_take hc))
theorem asc_one {c : Nat} (h : c < 128) : ascS ⟨#[c]⟩ = true := by
  unfold ascS
  rw [one_l, List.all_cons, decide_eq_true h]; rfl
def dueD (x : W9) : PyData := .list (List.replicate 9 (.str x.z) ++ List.replicate 12 (.int x.n) ++ [x.dN, x.dV, .str x.z, .int x.n])
theorem due_mem {x : W9} {Pr : PyData → Prop} (h1 : Pr (.str x.z)) (h2 : Pr (.int x.n)) (h3 : Pr x.dN) (h4 : Pr x.dV) : ∀ d ∈ List.replicate 9 (PyData.str x.z) ++ List.replicate 12 (PyData.int x.n) ++ [x.dN, x.dV, .str x.z, .int x.n], Pr d := by
  intro d hd
  rw [List.mem_append, List.mem_append] at hd
  rcases hd with (hd | hd) | hd
  · rw [List.eq_of_mem_replicate hd]; exact h1
  · rw [List.eq_of_mem_replicate hd]; exact h2
  · simp only [List.mem_cons, List.not_mem_nil, or_false] at hd
    rcases hd with rfl | rfl | rfl | rfl
    · exact h3
    · exact h4
    · exact h1
    · exact h2
theorem int_sh {i : Int} (h0 : 0 ≤ i) (h1 : i < 1000000) : (PyData.int i).showable = true ∧ (PyData.int i).shown.length ≤ 7 := by
  refine ⟨?_, ?_⟩
  · rw [PyData.showable]
    exact decide_eq_true (Nat.lt_of_lt_of_le (small_log h0 h1) (by decide))
  · rw [PyData.shown]; exact (num_txt h0 h1).2
theorem dN_sh {x : W9} (ok : x.Ok) : x.dN.showable = true ∧ x.dN.hasDict = false ∧ x.dN.depth ≤ 1 ∧ x.dN.shown.length ≤ 1000 := by
  have hm : ∀ d ∈ x.ns.map PyData.int, ∃ i, d = .int i ∧ 0 ≤ i ∧ i < 1000000 := fun d hd => by
    obtain ⟨i, hi, rfl⟩ := List.mem_map.mp hd
    have := ok.n2 i hi
    exact ⟨i, rfl, this.1, by omega⟩
  refine ⟨?_, ?_, ?_, ?_⟩
  · rw [W9.dN, PyData.showable]
    exact sh_all fun d hd => by obtain ⟨i, rfl, a, b⟩ := hm d hd; exact (int_sh a b).1
  · rw [W9.dN, PyData.hasDict]
    exact hd_all fun d hd => by obtain ⟨i, rfl, a, b⟩ := hm d hd; rfl
  · rw [W9.dN, PyData.depth]
    exact Nat.succ_le_succ (dp_all fun d hd => by obtain ⟨i, rfl, a, b⟩ := hm d hd; exact Nat.le_refl _)
  · have h := tup_text_le (B := 7) (ds := x.ns.map PyData.int) fun d hd => by obtain ⟨i, rfl, a, b⟩ := hm d hd; exact (int_sh a b).2
    rw [List.length_map] at h
    have := ok.n1
    exact Nat.le_trans h (by omega)
theorem dV_sh {x : W9} (ok : x.Ok) : x.dV.showable = true ∧ x.dV.hasDict = false ∧ x.dV.depth ≤ 1 ∧ x.dV.shown.length ≤ 1000 := by
  refine ⟨rfl, rfl, ?_, ?_⟩
  · rw [W9.dV, PyData.depth]
    exact Nat.succ_le_succ (dp_all fun d hd => by
      simp only [List.mem_cons, List.not_mem_nil, or_false] at hd
      rcases hd with rfl | rfl <;> exact Nat.le_refl _)
  · have h := tup_text_le (B := 210) (ds := [PyData.str x.a, PyData.str x.b]) fun d hd => by
      simp only [List.mem_cons, List.not_mem_nil, or_false] at hd
      have h1 := str_text_le ok.a1
      have h2 := str_text_le ok.b1
      have h3 := ok.a2
      have h4 := ok.b2
      rcases hd with rfl | rfl <;> omega
    exact Nat.le_trans h (by show (210 + 2) * 2 + 2 ≤ 1000; decide)
theorem due_sh {x : W9} (ok : x.Ok) : (dueD x).showable = true ∧ (dueD x).hasDict = false ∧ (dueD x).depth ≤ 50 ∧ (dueD x).shown.length ≤ sizeLine := by
  obtain ⟨n1, n2, n3, n4⟩ := dN_sh ok
  obtain ⟨v1, v2, v3, v4⟩ := dV_sh ok
  have hi := int_sh ok.m1 ok.m2
  have hz := str_text_le ok.z1
  have hz2 := ok.z2
  refine ⟨?_, ?_, ?_, ?_⟩
  · rw [dueD, PyData.showable]
    exact sh_all (due_mem rfl hi.1 n1 v1)
  · rw [dueD, PyData.hasDict]
    exact hd_all (due_mem rfl rfl n2 v2)
  · rw [dueD, PyData.depth]
    exact Nat.le_trans (Nat.succ_le_succ (dp_all (n := 1) (due_mem (Nat.zero_le _) (Nat.zero_le _) n3 v3))) (by decide)
  · have h := list_text_le (B := 1000) (ds := List.replicate 9 (PyData.str x.z) ++ List.replicate 12 (PyData.int x.n) ++ [x.dN, x.dV, .str x.z, .int x.n]) (due_mem (Pr := fun d => d.shown.length ≤ 1000) (by omega) (by omega) n4 v4)
    exact Nat.le_trans h (szL (Nat.le_of_ble_eq_true rfl))
theorem dp_rep {K : PySem.W.Frag} {H : Hp} {v : V} {d : PyData} (h : Dp K H v d) : ∀ n, DpAll K H (List.replicate n v) (List.replicate n d)
  | 0 => .nil
  | n + 1 => .cons h (dp_rep h n)
theorem due_dp {K : PySem.W.Frag} {H : Hp} {v : V} {x : W9} {y0 y1 y2 y3 : V} {p : Addr} (hV : VAt K H v x y0 y1 y2 y3) (h : H p = some (.lst (dueV y0 y1 y2 y3))) : Dp K H (.ref p) (dueD x) := by
  obtain ⟨rfl, rfl, h1, h2, _⟩ := hV
  exact .of_lst h (((dp_rep (.str _) 9).app (dp_rep (.int _) 12)).app (.cons h1 (.cons h2 (.cons (.str _) (.cons (.int _) .nil)))))
theorem rep_due {K : PySem.W.Frag} {H : Hp} {Q : VK} {v : V} {x : W9} {y0 y1 y2 y3 : V} {p : Addr} (ok : x.Ok) (hV : VAt K H v x y0 y1 y2 y3) (h : H p = some (.lst (dueV y0 y1 y2 y3))) (q : Q (.str (dueD x).shown) H) : rRepr K [.ref p] H Q := by
  obtain ⟨a, b, c, d⟩ := due_sh ok
  exact ⟨p, _, rfl, due_dp hV h, a, b, c, d, q⟩
/-- which class stands where in the two lists -/
theorem two_at {P : Program} {K : PySem.W.Frag} {mg : Str → Option Value} (T : Top0 P K mg) {a0 a1 a2 a3 b0 b1 b2 b3 : V} {k : Nat} {it : It} (h : (itsA T a0 a1 a2 a3 ++ itsA T b0 b1 b2 b3)[k]? = some it) :
    ∃ i : Nat, T.CL[i]? = some it.C ∧ i < 32 ∧ (i : Int) = if (k : Int) < 32 then (k : Int) else (k : Int) - 32 := by
  have l1 : (itsA T a0 a1 a2 a3).length = 32 := rfl
  have hk : k < 64 := (List.getElem?_eq_some_iff.mp h).1
  by_cases h32 : k < 32
  · rw [List.getElem?_append_left (by rw [l1]; exact h32)] at h
    refine ⟨k, ?_, h32, by rw [if_pos (by omega)]⟩
    rw [← itsA_C T a0 a1 a2 a3, List.getElem?_map, h]; rfl
  · rw [List.getElem?_append_right (by rw [l1]; omega), l1] at h
    refine ⟨k - 32, ?_, by omega, by rw [if_neg (by omega)]; omega⟩
    rw [← itsA_C T b0 b1 b2 b3, List.getElem?_map, h]; rfl
theorem one_true : ∀ i : Nat, i < 32 → ((List.range 32).map fun j => V.bl (i == j)).countP (fun z => eqV z (.bl true)) = 1 := by decide +kernel
theorem flat_kinds (i : Nat) : (((List.range 32).map fun j => V.bl (i == j)).all flatV) = true := by
  rw [List.all_eq_true]
  intro v hv
  obtain ⟨j, _, rfl⟩ := List.mem_map.mp hv
  rfl
theorem kinds_at {i : Nat} (h : i < 32) : atI ((List.range 32).map fun j => V.bl (i == j)) (i : Int) = some (.bl true) := by
  refine atI_nat ?_
  rw [List.getElem?_map, List.getElem?_range h]
  show some (V.bl (i == i)) = _
  rw [beq_self_eq_true]
end K09

set_option Elab.async false
set_option linter.all false
set_option maxRecDepth 100000
set_option maxHeartbeats 2000000
namespace K09
open PySem PySem.Spec PyProof.Rows L2 NdefX CW RZ
open PySem.W (fnX)
def sp_lawK (K : PySem.W.Frag) : Sp := fun vs H Q _ => ∃ (l : Addr) (ns : List Int), vs = [.ref l] ∧ SqL K H l (ns.map V.int) ∧ ns.length ≤ 63 ∧ ∀ H', Q (.bl true) H'
local macro_rules | `(tactic| walk_at "lb") => `(tactic| repeat' (with_reducible first | refine' lb_app ?_ ?_ | refine' lb_cut ?_ | exact lb_one | refine' lb_up ?_ | exact Nat.le_refl _))
local macro_rules | `(tactic| walk_at "s1") => `(tactic| with_reducible first
  | refine k_seq ?_ | refine k_asg ?_ | refine k_ret ?_ | refine k_drop ?_ | refine k_ifs ?_ | refine k_next ?_
  | refine k_name ?_ | refine k_c ?_ | refine k_op ?_ | refine k_cons ?_ | refine k_nil ?_ | refine k_cb ?_ | refine k_call ?_ | refine k_un ?_
  | refine k_test ?_ | refine k_tb ?_ | refine k_not ?_ | refine k_and ?_ | refine k_or ?_ | refine k_andV ?_ | refine k_orV ?_ | refine k_notV ?_ | refine k_ife ?_ | refine k_chain ?_
  | refine k_callN ?_ | refine k_fld ?_ | refine k_sfld ?_ | refine k_dget ?_ | refine k_din ?_ | refine k_dput ?_ | refine k_meth ?_ | refine k_make ?_ | refine k_dc ?_ | refine k_bm0 ?_ | refine k_lst0 ?_ | refine k_tup0 ?_ | refine k_bm ?_ | refine k_for ?_ | refine k_ilist ?_ | refine k_itup ?_ | refine k_istr ?_ | refine k_izip ?_ | refine k_irng1 ?_ | refine k_irng2 ?_ | refine k_rev ?_ | refine v_isstr ?_ | refine v_isi_str ?_ | refine v_isi_bool ?_ | refine k_sl ?_ | refine k_nopart ?_ | refine k_part ?_ | refine k_lcl ?_ | refine k_m0 ?_ | refine k_m1 ?_ | refine k_bl ?_
  | refine v_I0 ?_ | refine v_plus_int ?_ | refine v_int ?_ | refine v_neg ?_ | refine v_in_s ?_ | refine v_notin_s ?_ | refine w_in_s ?_ | refine w_notin_s ?_ | refine v_isN ?_ | refine v_notN ?_ | refine v_leS ?_ | refine k_tr ?_ | refine v_isi_int ?_ | refine v_isi_intB ?_)
local macro_rules | `(tactic| walk_at "s") => `(tactic| first
  | walk_at "s1"
  | ((with_reducible refine' k_var ?hv ?_); case hv => exact rfl)
  | ((with_reducible refine' v_I ?hc ?_); case hc => first | (show (0 : Int) < _; first | decide | omega | assumption) | exact ⟨by decide, by decide⟩ | exact ⟨by decide, by decide, by decide⟩ | exact ⟨by omega, by decide⟩)
  | ((with_reducible refine' v_times_int ?hc ?_); case hc => first | exact .inr ⟨by decide, by decide⟩ | exact .inl ⟨by decide, by decide⟩ | exact .inr ⟨by omega, by omega⟩ | exact .inl ⟨by omega, by omega⟩)
  | ((with_reducible refine' u_times_int ?hc ?_); case hc => first | exact .inr ⟨by decide, by decide⟩ | exact .inl ⟨by decide, by decide⟩ | exact .inr ⟨by omega, by omega⟩ | exact .inl ⟨by omega, by omega⟩)
  | ((with_reducible refine' v_eq ?hc ?_); case hc => exact rfl)
  | ((with_reducible refine' v_ne ?hc ?_); case hc => exact rfl)
  | ((with_reducible refine' v_eqU ?hc ?_); case hc => exact rfl)
  | ((with_reducible refine' v_neU ?hc ?_); case hc => exact rfl)
  | ((with_reducible refine' v_len_l ?hc ?_); case hc => first | assumption | exact sql (by assumption))
  | ((with_reducible refine' v_len_s ?hc ?_); case hc => first | exact szL (by omega) | decide)
  | ((with_reducible refine' v_ix_l ?hs ?ha ?_); (case hs => first | assumption | exact sql (by assumption)); (case ha => assumption))
  | ((with_reducible refine' v_sl_s ?hc ?_); case hc => first | exact szL (Nat.le_trans (by walk_at "lb") (by omega)) | exact szL (by omega) | decide)
  | ((with_reducible refine' v_plus_str ?hc ?_); case hc => first | exact szL (Nat.le_trans (Nat.add_le_add (by walk_at "lb") (by walk_at "lb")) (by omega)) | exact szL (by omega) | decide)
  | ((with_reducible refine' v_new ?hz ?_); case hz => first | decide | (simp only [List.length_cons, List.length_nil]; decide))
  | ((with_reducible refine' v_newT ?hz ?_); case hz => first | decide | (simp only [List.length_cons, List.length_nil]; decide))
  | ((with_reducible refine' v_upper ?hz ?_); case hz => (refine Nat.le_trans (by walk_at "lb") ?_; omega))
  | ((with_reducible refine' v_times_str ?hz ?_); case hz => exact ⟨by omega, by omega, by omega⟩)
  | ((with_reducible refine' u_times_str ?hz ?_); case hz => exact ⟨by omega, by omega, by omega⟩)
  | refine ⟨(rfl : List.length _ = _), (rfl : List.length _ = _), ?_⟩
  | with_reducible refine' ⟨_, rfl, ?_⟩
  | refine k_no ?_ | refine k_yes ?_)
local macro_rules | `(tactic| walk_at "s") => `(tactic| with_reducible first | refine k_mkx ?_ | refine k_xv ?_)
local macro_rules | `(tactic| walk_at "0") => `(tactic| (with_reducible refine k_seq ?_))
local macro_rules | `(tactic| walk_at "1") => `(tactic| (with_reducible refine k_asg ?_))
local macro_rules | `(tactic| walk_at "2") => `(tactic| (with_reducible refine k_ret ?_))
local macro_rules | `(tactic| walk_at "3") => `(tactic| (with_reducible refine k_drop ?_))
local macro_rules | `(tactic| walk_at "4") => `(tactic| (with_reducible refine k_ifs ?_))
local macro_rules | `(tactic| walk_at "5") => `(tactic| (with_reducible refine k_next ?_))
local macro_rules | `(tactic| walk_at "6") => `(tactic| (with_reducible refine k_name ?_))
local macro_rules | `(tactic| walk_at "7") => `(tactic| (with_reducible refine k_c ?_))
local macro_rules | `(tactic| walk_at "8") => `(tactic| (with_reducible refine k_op ?_))
local macro_rules | `(tactic| walk_at "9") => `(tactic| (with_reducible refine k_cons ?_))
local macro_rules | `(tactic| walk_at "10") => `(tactic| (with_reducible refine k_nil ?_))
local macro_rules | `(tactic| walk_at "11") => `(tactic| (with_reducible refine k_cb ?_))
local macro_rules | `(tactic| walk_at "14") => `(tactic| (with_reducible refine k_test ?_))
local macro_rules | `(tactic| walk_at "34") => `(tactic| (with_reducible refine k_lst0 ?_))
local macro_rules | `(tactic| walk_at "36") => `(tactic| (with_reducible refine k_bm ?_))
local macro_rules | `(tactic| walk_at "37") => `(tactic| (with_reducible refine k_for ?_))
local macro_rules | `(tactic| walk_at "38") => `(tactic| (with_reducible refine k_ilist ?_))
local macro_rules | `(tactic| walk_at "42") => `(tactic| (with_reducible refine k_irng1 ?_))
local macro_rules | `(tactic| walk_at "55") => `(tactic| (with_reducible refine v_I0 ?_))
local macro_rules | `(tactic| walk_at "56") => `(tactic| (with_reducible refine v_plus_int ?_))
local macro_rules | `(tactic| walk_at "57") => `(tactic| (with_reducible refine v_int ?_))
local macro_rules | `(tactic| walk_at "69") => `(tactic| (((with_reducible refine' k_var ?hv ?_); case hv => exact rfl)))
local macro_rules | `(tactic| walk_at "70") => `(tactic| (((with_reducible refine' v_I ?hc ?_); case hc => first | (show (0 : Int) < _; first | decide | omega | assumption) | exact ⟨by decide, by decide⟩ | exact ⟨by decide, by decide, by decide⟩ | exact ⟨by omega, by decide⟩)))
local macro_rules | `(tactic| walk_at "72") => `(tactic| (((with_reducible refine' u_times_int ?hc ?_); case hc => first | exact .inr ⟨by decide, by decide⟩ | exact .inl ⟨by decide, by decide⟩ | exact .inr ⟨by omega, by omega⟩ | exact .inl ⟨by omega, by omega⟩)))
local macro_rules | `(tactic| walk_at "77") => `(tactic| (((with_reducible refine' v_len_l ?hc ?_); case hc => first | assumption | exact sql (by assumption))))
local macro_rules | `(tactic| walk_at "79") => `(tactic| (((with_reducible refine' v_ix_l ?hs ?ha ?_); (case hs => first | assumption | exact sql (by assumption)); (case ha => assumption))))
local macro_rules | `(tactic| walk_at "82") => `(tactic| (((with_reducible refine' v_new ?hz ?_); case hz => first | decide | (simp only [List.length_cons, List.length_nil]; decide))))
local macro_rules | `(tactic| walk_at "88") => `(tactic| (with_reducible refine' ⟨_, rfl, ?_⟩))
section
variable {P : Program} {w : World} {K : PySem.W.Frag} {mg : Str → Option Value} {base : Heap}
theorem ok__law_cell (T : Top0 P K mg) : FnOk P w K mg base CX0 1 T.f__law_cell T.fd__law_cell ["script", "k"] (sp__law_cell T) := by
  refine T.F__law_cell.ok sc__law_cell (fun vs H Q E h => ?_) (fun cdv A outer s H vs Q E hr h => ?_)
  · obtain ⟨l, ns, k, rfl, hS, hn, hk, q⟩ := h
    rfl
  · obtain ⟨l, ns, k, rfl, hS, hn, hk, q⟩ := h
    refine ⟨_, (pss_cons (ps_if (pt_cmpR op_lt (pv 1) (pe_callB (r := rLenU K) call_lenU (by rfl) T.n_len PySem.boot_len (pa_cons (pv 0) pa_nil)) (nomark _)) (pss_one (ps_ret (pe_ix (r := rIx K) ix_seq (pv 0) (pv 1) (fun _ _ => rfl)))) pss_nil)
      (pss_cons (ps_set (i := 2) sc__law_cell.nd rfl (Or.inl rfl) pe_int)
      (pss_cons (ps_for PassesOwn.never rfl (pi_list (pv 0)) (pg_name (i := 3) sc__law_cell.nd rfl (Or.inl rfl)) (pss_one (ps_set (i := 2) sc__law_cell.nd rfl (Or.inl rfl) (pe_op op_mod (pe_callTy call_intU (by rfl) T.n_int PyProof.Rows.boot_int (pa_cons (pe_op (r := rPlus K) op_plus (pe_op op_timesU (pv 2) pe_int) (pe_op op_mod (pe_callTy call_intU (by rfl) T.n_int PyProof.Rows.boot_int (pa_cons (pv 3) pa_nil)) pe_int)) pa_nil)) pe_int))))
      (pss_one (ps_ret (pe_op op_mod (pe_callTy call_intU (by rfl) T.n_int PyProof.Rows.boot_int (pa_cons (pe_op op_timesU (pe_op op_timesU (pe_op (r := rPlus K) op_plus (pv 2) pe_int) (pe_op (r := rPlus K) op_plus (pv 1) pe_int)) pe_int) pa_nil)) pe_int)))))), ?_⟩
    walk_at "0"
    walk_at "4"
    walk_at "14"
    walk_at "8"
    walk_at "69"
    walk_at "11"
    walk_at "9"
    walk_at "69"
    walk_at "10"
    walk_at "77"
    walk_at "55"
    walk_at "88"
    refine k_if (fun hlt => ?_) (fun hge => ?_)
    · rw [List.length_map] at hlt
      obtain ⟨n, e, _⟩ := atI_int (ns := ns) (i := k) hk.1 hlt
      walk_at "2"
      walk_at "8"
      walk_at "69"
      walk_at "69"
      walk_at "79"
      exact q n
    · walk_at "5"
      walk_at "0"
      walk_at "1"
      walk_at "7"
      walk_at "6"
      walk_at "0"
      walk_at "37"
      walk_at "38"
      walk_at "69"
      walk_at "88"
      refine ⟨⟨_, hS⟩, for_list (xs := ns.map V.int) (fun i σ' H' => ∃ sd y, σ' = [some (.ref l), some (.int k), some (.int sd), y] ∧ 0 ≤ sd ∧ sd < 1000003 ∧ H' = H) ⟨17, none, rfl, by decide, by decide, rfl⟩ ?_ ?_ ?_⟩
      · rintro i σ' H' hi ⟨sd, y, rfl, h1, h2, rfl⟩
        exact hS
      · rintro i x σ' H' hx ⟨sd, y, rfl, h1, h2, rfl⟩
        obtain ⟨n, rfl, _⟩ := map_int_at hx
        walk_at "6"
        walk_at "1"
        walk_at "8"
        walk_at "11"
        walk_at "9"
        walk_at "8"
        walk_at "8"
        walk_at "69"
        walk_at "7"
        walk_at "72"
        walk_at "8"
        walk_at "11"
        walk_at "9"
        walk_at "69"
        walk_at "10"
        walk_at "57"
        walk_at "7"
        walk_at "70"
        walk_at "56"
        walk_at "10"
        walk_at "57"
        walk_at "7"
        walk_at "70"
        walk_at "6"
        exact ⟨_, _, rfl, by omega, by omega, rfl⟩
      · rintro σ' H' ⟨sd, y, rfl, h1, h2, rfl⟩
        walk_at "2"
        walk_at "8"
        walk_at "11"
        walk_at "9"
        walk_at "8"
        walk_at "8"
        walk_at "8"
        walk_at "69"
        walk_at "7"
        walk_at "56"
        walk_at "8"
        walk_at "69"
        walk_at "7"
        walk_at "56"
        walk_at "72"
        walk_at "7"
        walk_at "72"
        walk_at "10"
        walk_at "57"
        walk_at "7"
        walk_at "70"
        exact q _

theorem ok__law_digits (T : Top0 P K mg) : FnOk P w K mg base CX0 1 T.f__law_digits T.fd__law_digits ["cell", "sizes"] (sp__law_digits T) := by
  refine T.F__law_digits.ok sc__law_digits (fun vs H Q E h => ?_) (fun cdv A outer s H vs Q E hr h => ?_)
  · obtain ⟨c, a, ss, rfl, hS, hl, hb, q⟩ := h
    rfl
  · obtain ⟨c, a, ss, rfl, hS, hl, hb, q⟩ := h
    refine ⟨_, (pss_cons (ps_set (i := 2) sc__law_digits.nd rfl (Or.inl rfl) (pe_lst pa_nil))
      (pss_cons (ps_set (i := 3) sc__law_digits.nd rfl (Or.inl rfl) (pe_callTy call_intU (by rfl) T.n_int PyProof.Rows.boot_int (pa_cons (pv 0) pa_nil)))
      (pss_cons (ps_if (pt_cmpR op_ge (pv 3) (pe_op op_pow pe_int pe_int) (nomark _)) (pss_cons (ps_set (i := 3) sc__law_digits.nd rfl (Or.inl rfl) (pe_op op_sub (pv 3) (pe_op op_pow pe_int pe_int)))
      (pss_cons (ps_for PassesOwn.never rfl (pi_list (pv 1)) (pg_name (i := 4) sc__law_digits.nd rfl (Or.inl rfl)) (pss_cons (ps_expr (pe_bm PySem.F.plainAttrs_list PySem.F.slot_list_append PySem.F.type_list_append mt_append (pv 2) (pa_cons (pe_op op_mod (pe_callTy call_intU (by rfl) T.n_int PyProof.Rows.boot_int (pa_cons (pv 3) pa_nil)) (pv 4)) pa_nil)))
      (pss_one (ps_set (i := 3) sc__law_digits.nd rfl (Or.inl rfl) (pe_op op_fdivW (pe_callTy call_intU (by rfl) T.n_int PyProof.Rows.boot_int (pa_cons (pv 3) pa_nil)) (pv 4))))))
      (pss_one (ps_ret (pv 2))))) pss_nil)
      (pss_cons (ps_set (i := 5) sc__law_digits.nd rfl (Or.inl rfl) (pe_op op_mod (pe_callTy call_intU (by rfl) T.n_int PyProof.Rows.boot_int (pa_cons (pv 3) pa_nil)) pe_int))
      (pss_cons (ps_for PassesOwn.never rfl (pi_range1 (by rfl) T.n_range (pa_cons (pe_callB (r := rLenU K) call_lenU (by rfl) T.n_len PySem.boot_len (pa_cons (pv 1) pa_nil)) pa_nil)) (pg_name (i := 6) sc__law_digits.nd rfl (Or.inl rfl)) (pss_cons (ps_set (i := 5) sc__law_digits.nd rfl (Or.inl rfl) (pe_op op_mod (pe_callTy call_intU (by rfl) T.n_int PyProof.Rows.boot_int (pa_cons (pe_op (r := rPlus K) op_plus (pe_op (r := rPlus K) op_plus (pe_op op_timesU (pv 5) pe_int) (pe_op op_timesU pe_int (pv 6))) pe_int) pa_nil)) pe_int))
      (pss_cons (ps_set (i := 7) sc__law_digits.nd rfl (Or.inl rfl) (pe_op op_mod (pe_callTy call_intU (by rfl) T.n_int PyProof.Rows.boot_int (pa_cons (pe_op op_timesU (pv 5) (pe_op (r := rPlus K) op_plus (pe_op op_fdivW (pv 5) pe_int) pe_int)) pa_nil)) pe_int))
      (pss_one (ps_expr (pe_bm PySem.F.plainAttrs_list PySem.F.slot_list_append PySem.F.type_list_append mt_append (pv 2) (pa_cons (pe_op op_mod (pe_op op_fdivW (pv 7) pe_int) (pe_ix (r := rIx K) ix_seq (pv 1) (pv 6) (fun _ _ => rfl))) pa_nil)))))))
      (pss_one (ps_ret (pv 2)))))))), ?_⟩
    walk_at "0"
    walk_at "1"
    walk_at "34"
    walk_at "10"
    walk_at "82"
    intro o H1 no x1 eo
    walk_at "6"
    walk_at "0"
    walk_at "1"
    walk_at "11"
    walk_at "9"
    walk_at "69"
    walk_at "10"
    walk_at "57"
    walk_at "6"
    walk_at "0"
    walk_at "4"
    walk_at "14"
    walk_at "8"
    walk_at "69"
    walk_at "8"
    walk_at "7"
    walk_at "7"
    walk_at "70"
    walk_at "55"
    walk_at "88"
    refine k_if (fun hge => ?_) (fun hlt => ?_)
    · walk_at "0"
      walk_at "1"
      walk_at "8"
      walk_at "69"
      walk_at "8"
      walk_at "7"
      walk_at "7"
      walk_at "70"
      walk_at "55"
      walk_at "6"
      walk_at "0"
      walk_at "37"
      walk_at "38"
      walk_at "69"
      walk_at "88"
      refine ⟨⟨_, xl x1 hS⟩, for_list (xs := ss.map V.int) (fun i σ' H' => ∃ (rest : Int) (y : Option V) (ds : List Int), σ' = [some (.int c), some (.ref a), some (.ref o), some (.int rest), y, none, none, none] ∧ i ≤ ss.length ∧ Xt H H' ∧ H' o = some (.lst (ds.map V.int)) ∧ DigOk ds (ss.take i)) ⟨_, none, [], rfl, Nat.zero_le _, x1, eo, DigOk.nil⟩ ?_ ?_ ?_⟩
      · rintro i σ' H' hi ⟨rest, y, ds, rfl, hi2, x2, e2, hd⟩
        exact xl x2 hS
      · rintro i x σ' H' hx ⟨rest, y, ds, rfl, hi2, x2, e2, hd⟩
        obtain ⟨n, rfl, hn⟩ := map_int_at hx
        have hb2 := hb n (List.mem_of_getElem? hn)
        have hi3 : i < ss.length := (List.getElem?_eq_some_iff.mp hn).1
        have hdl : ds.length = i := by rw [hd.1, List.length_take]; omega
        walk_at "6"
        walk_at "0"
        walk_at "3"
        walk_at "36"
        walk_at "69"
        refine ⟨ty_l e2, ?_⟩
        walk_at "9"
        walk_at "8"
        walk_at "11"
        walk_at "9"
        walk_at "69"
        walk_at "10"
        walk_at "57"
        walk_at "69"
        walk_at "70"
        walk_at "10"
        refine v_app e2 (by rw [List.length_map]; omega) ?_
        walk_at "1"
        walk_at "8"
        walk_at "11"
        walk_at "9"
        walk_at "69"
        walk_at "10"
        walk_at "57"
        walk_at "69"
        refine v_I (wide_div (b := 30) hb2.1 (by omega) (by decide) (by decide)) ?_
        walk_at "6"
        refine ⟨_, _, ds ++ [rest % n], rfl, hi3, xmut x2 no, ?_, hd.snoc hn (Int.emod_nonneg _ (by omega)) (Int.emod_lt_of_pos _ hb2.1)⟩
        rw [upd_same, List.map_append]
        rfl
      · rintro σ' H' ⟨rest, y, ds, rfl, hi2, x2, e2, hd⟩
        walk_at "2"
        walk_at "69"
        rw [List.length_map, List.take_length] at hd
        exact q o H' ds x2 e2 hd
    · walk_at "5"
      walk_at "0"
      walk_at "1"
      walk_at "8"
      walk_at "11"
      walk_at "9"
      walk_at "69"
      walk_at "10"
      walk_at "57"
      walk_at "7"
      walk_at "70"
      walk_at "6"
      walk_at "0"
      walk_at "37"
      walk_at "42"
      walk_at "9"
      walk_at "11"
      walk_at "9"
      walk_at "69"
      walk_at "10"
      refine v_len_l (xl x1 hS) ?_
      walk_at "10"
      walk_at "88"
      rw [List.length_map]
      refine ⟨by omega, by omega, ?_⟩
      rw [Int.toNat_natCast]
      refine for_range (lo := 0) (n := ss.length) (fun i σ' H' => ∃ (rest sd : Int) (y z : Option V) (ds : List Int), σ' = [some (.int c), some (.ref a), some (.ref o), some (.int rest), none, some (.int sd), y, z] ∧ i ≤ ss.length ∧ (0 ≤ sd ∧ sd < 2147483647) ∧ Xt H H' ∧ H' o = some (.lst (ds.map V.int)) ∧ DigOk ds (ss.take i)) ⟨_, _, none, none, [], rfl, Nat.zero_le _, ⟨by omega, by omega⟩, x1, eo, DigOk.nil⟩ ?_ ?_
      · rintro i σ' H' hi ⟨rest, sd, y, z, ds, rfl, hi2, ⟨h1, h2⟩, x2, e2, hd⟩
        obtain ⟨n, hn⟩ : ∃ n, ss[i]? = some n := ⟨_, List.getElem?_eq_getElem hi⟩
        have hb2 := hb n (List.mem_of_getElem? hn)
        have hdl : ds.length = i := by rw [hd.1, List.length_take]; omega
        have ha : atI (ss.map V.int) (0 + (i : Int)) = some (.int n) := by
          rw [Int.zero_add]
          exact atI_nat (by rw [List.getElem?_map, hn]; rfl)
        walk_at "6"
        walk_at "0"
        walk_at "1"
        walk_at "8"
        walk_at "11"
        walk_at "9"
        walk_at "8"
        walk_at "8"
        walk_at "8"
        walk_at "69"
        walk_at "7"
        walk_at "72"
        walk_at "8"
        walk_at "7"
        walk_at "69"
        walk_at "72"
        walk_at "56"
        walk_at "7"
        walk_at "56"
        walk_at "10"
        walk_at "57"
        walk_at "7"
        walk_at "70"
        walk_at "6"
        walk_at "0"
        walk_at "1"
        walk_at "8"
        walk_at "11"
        walk_at "9"
        walk_at "8"
        walk_at "69"
        walk_at "8"
        walk_at "8"
        walk_at "69"
        walk_at "7"
        walk_at "70"
        walk_at "7"
        walk_at "56"
        walk_at "72"
        walk_at "10"
        walk_at "57"
        walk_at "7"
        walk_at "70"
        walk_at "6"
        walk_at "3"
        walk_at "36"
        walk_at "69"
        have h3 : 0 ≤ (sd * 48271 + 974711 * (0 + (i : Int)) + 12345) % 2147483647 := by omega
        have h4 : (sd * 48271 + 974711 * (0 + (i : Int)) + 12345) % 2147483647 < 2147483647 := by omega
        generalize (sd * 48271 + 974711 * (0 + (i : Int)) + 12345) % 2147483647 = sd2 at h3 h4 ⊢
        skip
        refine ⟨ty_l e2, ?_⟩
        walk_at "9"
        walk_at "8"
        walk_at "8"
        walk_at "69"
        walk_at "7"
        walk_at "70"
        walk_at "8"
        walk_at "69"
        walk_at "69"
        refine v_ix_l (xl x2 hS) ha ?_
        walk_at "70"
        walk_at "10"
        refine v_app e2 (by rw [List.length_map]; omega) ?_
        skip
        refine ⟨rest, _, _, _, ds ++ [sd2 * (sd2 / 65537 + 3) % 2147483629 / 19 % n], rfl, hi, ⟨h3, h4⟩, xmut x2 no, ?_, hd.snoc hn (Int.emod_nonneg _ (by omega)) (Int.emod_lt_of_pos _ hb2.1)⟩
        rw [upd_same, List.map_append]
        rfl
      · rintro σ' H' ⟨rest, sd, y, z, ds, rfl, hi2, ⟨h1, h2⟩, x2, e2, hd⟩
        walk_at "2"
        walk_at "69"
        rw [List.take_length] at hd
        exact q o H' ds x2 e2 hd

theorem ok__law_text (T : Top0 P K mg) : FnOk P w K mg base CX0 1 T.f__law_text T.fd__law_text ["row"] (sp__law_text T) := by
  refine T.F__law_text.ok sc__law_text (fun vs H Q E h => ?_) (fun cdv A outer s H vs Q E hr h => ?_)
  · obtain ⟨a, ns, rfl, hS, hn, hb, q⟩ := h
    rfl
  · obtain ⟨a, ns, rfl, hS, hn, hb, q⟩ := h
    refine ⟨_, (pss_cons (ps_set (i := 1) sc__law_text.nd rfl (Or.inr rfl) pe_str)
      (pss_cons (ps_set (i := 1) sc__law_text.nd rfl (Or.inr rfl) (pe_op (r := rPlus K) op_plus (pv 1) pe_str))
      (pss_one (ps_ret (pe_joinN pe_str (pe_lc (own := [("digit", 2)]) (g := gName 2) rfl sc__law_text.nd (pi_list (pv 0)) (blkOk_by (N := N__law_text) (sc := defScope s__law_text) (by decide +kernel)) (fun _ _ _ _ _ => (pg_name (i := 2) sc__law_text.nd rfl (Or.inl rfl))) (fun _ _ _ _ _ => pts_nil) (fun _ _ _ _ _ => (pe_ix (r := rIx K) ix_seq (pv 1) (pv 2) (fun _ _ => rfl))))))))), ?_⟩
    repeat walk_at "s"
    refine ⟨⟨_, hS⟩, ?_⟩
    refine' b_lst (fun _ y => ∃ c : Nat, y = .str ⟨#[c]⟩ ∧ c < 128) hS ?hn (fun x => ?hw) ?hb ?hk
    case hn => rw [List.length_map]; omega
    case hw => rfl
    case hb =>
      intro i x H' hx xx R hR
      obtain ⟨n, rfl, hni⟩ := map_int_at hx
      have hmem := List.mem_of_getElem? hni
      have h2 := hb n hmem
      obtain ⟨c, hc, _⟩ := atI_ok (l := sg95.cps.toList) (i := n) h2.1 (by rw [sg95_len]; exact h2.2)
      repeat walk_at "s"
      refine v_ix_s (by decide) hc ?_
      exact hR _ _ (xrefl _) ⟨c, rfl, sg95_asc c (atI_mem hc)⟩
    case hk =>
      intro D ys H2 hD hl hP x2 e2
      rw [List.length_map] at hl
      refine v_joinP e2 hP (by omega) fun cs hcl hca => ?_
      exact q _ _ x2 (List.all_eq_true.mpr fun c hc => decide_eq_true (hca c hc)) (by rw [ofl_len]; omega)

theorem ok__law_fields (T : Top0 P K mg) : FnOk P w K mg base CX0 2 T.f__law_fields T.fd__law_fields ["made"] (sp__law_fields T) := by
  refine T.F__law_fields.ok sc__law_fields (fun vs H Q E h => ?_) (fun cdv A outer s H vs Q E hr h => ?_)
  · obtain ⟨p, xs, y0, y1, y2, y3, rfl, hp, hE, q⟩ := h
    rfl
  · obtain ⟨p, xs, y0, y1, y2, y3, rfl, hp, hE, q⟩ := h
    refine ⟨_, (pss_cons (ps_set (i := 1) sc__law_fields.nd rfl (Or.inl rfl) (pe_op (r := rPlus K) op_plus (pe_op (r := rPlus K) op_plus (pe_lc (own := [("e", 2)]) (g := gName 2) rfl sc__law_fields.nd (pi_list (pe_slice (r := rSlU K) sl_any (pv 0) po_none (po_some pe_int))) (blkOk_by (N := N__law_fields) (sc := defScope s__law_fields) (by decide +kernel)) (fun _ _ _ _ _ => (pg_name (i := 2) sc__law_fields.nd rfl (Or.inl rfl))) (fun _ _ _ _ _ => pts_nil) (fun _ _ _ _ _ => (show PE _ _ (tXv K _ _) from pe_xv (pv 2)))) (pe_lc (own := [("e", 2)]) (g := gName 2) rfl sc__law_fields.nd (pi_list (pe_slice (r := rSlU K) sl_any (pv 0) (po_some pe_int) (po_some pe_int))) (blkOk_by (N := N__law_fields) (sc := defScope s__law_fields) (by decide +kernel)) (fun _ _ _ _ _ => (pg_name (i := 2) sc__law_fields.nd rfl (Or.inl rfl))) (fun _ _ _ _ _ => pts_nil) (fun _ _ _ _ _ => (show PE _ _ (tXv K _ _) from pe_xv (pv 2))))) (pe_lc (own := [("e", 2)]) (g := gName 2) rfl sc__law_fields.nd (pi_list (pe_slice (r := rSlU K) sl_any (pv 0) (po_some pe_int) (po_some pe_int))) (blkOk_by (N := N__law_fields) (sc := defScope s__law_fields) (by decide +kernel)) (fun _ _ _ _ _ => (pg_name (i := 2) sc__law_fields.nd rfl (Or.inl rfl))) (fun _ _ _ _ _ => pts_nil) (fun _ _ _ _ _ => (show PE _ _ (tXv K _ _) from pe_xv (pv 2))))))
      (pss_cons (ps_set (i := 1) sc__law_fields.nd rfl (Or.inl rfl) (pe_op (r := rPlus K) op_plus (pv 1) (pe_lc (own := [("e", 2)]) (g := gName 2) rfl sc__law_fields.nd (pi_list (pe_slice (r := rSlU K) sl_any (pv 0) (po_some pe_int) (po_some pe_int))) (blkOk_by (N := N__law_fields) (sc := defScope s__law_fields) (by decide +kernel)) (fun _ _ _ _ _ => (pg_name (i := 2) sc__law_fields.nd rfl (Or.inl rfl))) (fun _ _ _ _ _ => pts_nil) (fun _ _ _ _ _ => (show PE _ _ (tXv K _ _) from pe_xv (pv 2))))))
      (pss_one (ps_ret (pe_op (r := rPlus K) op_plus (pv 1) (pe_lst (pa_cons (show PE _ _ (tXv K _ _) from pe_xv (pe_ix (r := rIx K) ix_seq (pv 0) pe_int (fun _ _ => rfl))) (pa_cons (show PE _ _ (tXv K _ _) from pe_xv (pe_ix (r := rIx K) ix_seq (pv 0) pe_int (fun _ _ => rfl))) (pa_cons (show PE _ _ (tXv K _ _) from pe_xv (pe_ix (r := rIx K) ix_seq (pv 0) pe_int (fun _ _ => rfl))) (pa_cons (show PE _ _ (tXv K _ _) from pe_xv (pe_ix (r := rIx K) ix_seq (pv 0) pe_int (fun _ _ => rfl))) pa_nil)))))))))), ?_⟩
    repeat walk_at "s"
    refine v_sl_l (sql ((xrefl _) _ _ hp)) fun pa0 Ha0 na0 xa0 ea0 => ?_
    have hC0 : ErrsI H (cutV xs none (some 9)) (itsN T y0) := hE.cut (lo := none) (hi := (some 9))
    repeat walk_at "s"
    refine ⟨⟨_, sql ea0⟩, ?_⟩
    refine' b_lst (fun _ v => v = y0) (sql ea0) ?hn (fun x => ?hw) ?hb ?hk
    case hn => rw [hC0.len]; exact Nat.lt_of_lt_of_le (show 9 < 100 by decide) (by decide)
    case hw => rfl
    case hb =>
      intro i x H' hx xx R hR
      obtain ⟨it, hit, hei⟩ := hC0.get hx
      obtain ⟨C, rfl, hxf, hno⟩ := itsN_x T y0 it (List.mem_of_getElem? hit)
      repeat walk_at "s"
      refine m_xv (ErrI.mono (xtr (xrefl _) (xtr xa0 xx)) (i := .f _ _ _) hei) hxf hno ?_
      exact hR _ _ (xrefl _) rfl
    case hk =>
      intro Da0 ysa0 Hba0 hDa0 hla0 hPa0 xba0 eba0
      have eya0 := list_const (n := 9) (by rw [hla0, hC0.len]; rfl) hPa0
      subst eya0
      have X0 := (xtr (xrefl _) (xtr xa0 xba0))
      repeat walk_at "s"
      repeat walk_at "s"
      refine v_sl_l (sql (X0 _ _ hp)) fun pa1 Ha1 na1 xa1 ea1 => ?_
      have hC1 : ErrsI H (cutV xs (some 9) (some 14)) (itsC T y3) := hE.cut (lo := (some 9)) (hi := (some 14))
      repeat walk_at "s"
      refine ⟨⟨_, sql ea1⟩, ?_⟩
      refine' b_lst (fun _ v => v = y3) (sql ea1) ?hn (fun x => ?hw) ?hb ?hk
      case hn => rw [hC1.len]; exact Nat.lt_of_lt_of_le (show 5 < 100 by decide) (by decide)
      case hw => rfl
      case hb =>
        intro i x H' hx xx R hR
        obtain ⟨it, hit, hei⟩ := hC1.get hx
        obtain ⟨C, rfl, hxf, hno⟩ := itsC_x T y3 it (List.mem_of_getElem? hit)
        repeat walk_at "s"
        refine m_xv (ErrI.mono (xtr X0 (xtr xa1 xx)) (i := .f _ _ _) hei) hxf hno ?_
        exact hR _ _ (xrefl _) rfl
      case hk =>
        intro Da1 ysa1 Hba1 hDa1 hla1 hPa1 xba1 eba1
        have eya1 := list_const (n := 5) (by rw [hla1, hC1.len]; rfl) hPa1
        subst eya1
        have X1 := (xtr X0 (xtr xa1 xba1))
        repeat walk_at "s"
        refine v_plus_lst ((xtr xa1 xba1) _ _ eba0) eba1 (by first | exact szL (Nat.le_of_ble_eq_true rfl)) fun pc1 Hc1 nc1 xc1 ec1 => ?_
        have Y1 := xtr X1 xc1
        repeat walk_at "s"
        repeat walk_at "s"
        refine v_sl_l (sql (Y1 _ _ hp)) fun pa2 Ha2 na2 xa2 ea2 => ?_
        have hC2 : ErrsI H (cutV xs (some 14) (some 17)) (itsM T y3) := hE.cut (lo := (some 14)) (hi := (some 17))
        repeat walk_at "s"
        refine ⟨⟨_, sql ea2⟩, ?_⟩
        refine' b_lst (fun _ v => v = y3) (sql ea2) ?hn (fun x => ?hw) ?hb ?hk
        case hn => rw [hC2.len]; exact Nat.lt_of_lt_of_le (show 3 < 100 by decide) (by decide)
        case hw => rfl
        case hb =>
          intro i x H' hx xx R hR
          obtain ⟨it, hit, hei⟩ := hC2.get hx
          obtain ⟨C, rfl, hxf, hno⟩ := itsM_x T y3 it (List.mem_of_getElem? hit)
          repeat walk_at "s"
          refine m_xv (ErrI.mono (xtr Y1 (xtr xa2 xx)) (i := .f _ _ _) hei) hxf hno ?_
          exact hR _ _ (xrefl _) rfl
        case hk =>
          intro Da2 ysa2 Hba2 hDa2 hla2 hPa2 xba2 eba2
          have eya2 := list_const (n := 3) (by rw [hla2, hC2.len]; rfl) hPa2
          subst eya2
          have X2 := (xtr Y1 (xtr xa2 xba2))
          repeat walk_at "s"
          refine v_plus_lst ((xtr xa2 xba2) _ _ ec1) eba2 (by first | exact szL (Nat.le_of_ble_eq_true rfl)) fun pc2 Hc2 nc2 xc2 ec2 => ?_
          have Y2 := xtr X2 xc2
          repeat walk_at "s"
          repeat walk_at "s"
          refine v_sl_l (sql (Y2 _ _ hp)) fun pa3 Ha3 na3 xa3 ea3 => ?_
          have hC3 : ErrsI H (cutV xs (some 17) (some 21)) (itsX T y3) := hE.cut (lo := (some 17)) (hi := (some 21))
          repeat walk_at "s"
          refine ⟨⟨_, sql ea3⟩, ?_⟩
          refine' b_lst (fun _ v => v = y3) (sql ea3) ?hn (fun x => ?hw) ?hb ?hk
          case hn => rw [hC3.len]; exact Nat.lt_of_lt_of_le (show 4 < 100 by decide) (by decide)
          case hw => rfl
          case hb =>
            intro i x H' hx xx R hR
            obtain ⟨it, hit, hei⟩ := hC3.get hx
            obtain ⟨C, rfl, hxf, hno⟩ := itsX_x T y3 it (List.mem_of_getElem? hit)
            repeat walk_at "s"
            refine m_xv (ErrI.mono (xtr Y2 (xtr xa3 xx)) (i := .f _ _ _) hei) hxf hno ?_
            exact hR _ _ (xrefl _) rfl
          case hk =>
            intro Da3 ysa3 Hba3 hDa3 hla3 hPa3 xba3 eba3
            have eya3 := list_const (n := 4) (by rw [hla3, hC3.len]; rfl) hPa3
            subst eya3
            have X3 := (xtr Y2 (xtr xa3 xba3))
            repeat walk_at "s"
            refine v_plus_lst ((xtr xa3 xba3) _ _ ec2) eba3 (by first | exact szL (Nat.le_of_ble_eq_true rfl)) fun pc3 Hc3 nc3 xc3 ec3 => ?_
            have Y3 := xtr X3 xc3
            repeat walk_at "s"
            obtain ⟨x21, hx21, he21⟩ := hE.at (k := 21) (i := .f T.C_BadPlace "place" y1) rfl
            refine v_ix_l (sql (Y3 _ _ hp)) (atI_nat (j := 21) hx21) ?_
            repeat walk_at "s"
            refine m_xv (ErrI.mono Y3 (i := .f _ _ _) he21) T.xf_BadPlace T.no_BadPlace ?_
            repeat walk_at "s"
            obtain ⟨x22, hx22, he22⟩ := hE.at (k := 22) (i := .f T.C_FilledTwice "variable" y2) rfl
            refine v_ix_l (sql (Y3 _ _ hp)) (atI_nat (j := 22) hx22) ?_
            repeat walk_at "s"
            refine m_xv (ErrI.mono Y3 (i := .f _ _ _) he22) T.xf_FilledTwice T.no_FilledTwice ?_
            repeat walk_at "s"
            obtain ⟨x23, hx23, he23⟩ := hE.at (k := 23) (i := .f T.C_NoSelection "selection" y0) rfl
            refine v_ix_l (sql (Y3 _ _ hp)) (atI_nat (j := 23) hx23) ?_
            repeat walk_at "s"
            refine m_xv (ErrI.mono Y3 (i := .f _ _ _) he23) T.xf_NoSelection T.no_NoSelection ?_
            repeat walk_at "s"
            obtain ⟨x24, hx24, he24⟩ := hE.at (k := 24) (i := .f T.C_TooHeavy "load" y3) rfl
            refine v_ix_l (sql (Y3 _ _ hp)) (atI_nat (j := 24) hx24) ?_
            repeat walk_at "s"
            refine m_xv (ErrI.mono Y3 (i := .f _ _ _) he24) T.xf_TooHeavy T.no_TooHeavy ?_
            repeat walk_at "s"
            intro pz Hz nz xz ez
            repeat walk_at "s"
            refine v_plus_lst (xz _ _ ec3) ez (by first | exact szL (Nat.le_of_ble_eq_true rfl)) fun pw Hw nw xw ew => ?_
            exact q pw Hw (xtr Y3 (xtr xz xw)) ew

theorem ok__law_due (T : Top0 P K mg) : FnOk P w K mg base CX0 2 T.f__law_due T.fd__law_due ["values"] (sp__law_due T) := by
  refine T.F__law_due.ok sc__law_due (fun vs H Q E h => ?_) (fun cdv A outer s H vs Q E hr h => ?_)
  · obtain ⟨v, a, y0, y1, y2, y3, rfl, rfl, hS, q⟩ := h
    rfl
  · obtain ⟨v, a, y0, y1, y2, y3, rfl, rfl, hS, q⟩ := h
    refine ⟨_, (pss_cons (ps_set (i := 1) sc__law_due.nd rfl (Or.inl rfl) (pe_op (r := rPlus K) op_plus (pe_lc (own := [("k", 2)]) (g := gName 2) rfl sc__law_due.nd (pi_range1 (by rfl) T.n_range (pa_cons pe_int pa_nil)) (blkOk_by (N := N__law_due) (sc := defScope s__law_due) (by decide +kernel)) (fun _ _ _ _ _ => (pg_name (i := 2) sc__law_due.nd rfl (Or.inl rfl))) (fun _ _ _ _ _ => pts_nil) (fun _ _ _ _ _ => (pe_ix (r := rIx K) ix_seq (pv 0) pe_int (fun _ _ => rfl)))) (pe_lc (own := [("k", 2)]) (g := gName 2) rfl sc__law_due.nd (pi_range1 (by rfl) T.n_range (pa_cons pe_int pa_nil)) (blkOk_by (N := N__law_due) (sc := defScope s__law_due) (by decide +kernel)) (fun _ _ _ _ _ => (pg_name (i := 2) sc__law_due.nd rfl (Or.inl rfl))) (fun _ _ _ _ _ => pts_nil) (fun _ _ _ _ _ => (pe_ix (r := rIx K) ix_seq (pv 0) pe_int (fun _ _ => rfl))))))
      (pss_one (ps_ret (pe_op (r := rPlus K) op_plus (pv 1) (pe_lst (pa_cons (pe_ix (r := rIx K) ix_seq (pv 0) pe_int (fun _ _ => rfl)) (pa_cons (pe_ix (r := rIx K) ix_seq (pv 0) pe_int (fun _ _ => rfl)) (pa_cons (pe_ix (r := rIx K) ix_seq (pv 0) pe_int (fun _ _ => rfl)) (pa_cons (pe_ix (r := rIx K) ix_seq (pv 0) pe_int (fun _ _ => rfl)) pa_nil))))))))), ?_⟩
    repeat walk_at "s"
    refine ⟨by decide, by decide, ?_⟩
    refine' b_rng (fun _ v => v = y0) ?hn (fun x => ?hw) ?hb ?hk
    case hn => decide
    case hw => rfl
    case hb =>
      intro i H' hi xx R hR
      repeat walk_at "s"
      refine v_ix_l (xl xx hS) (v := y0) rfl ?_
      exact hR _ _ (xrefl _) rfl
    case hk =>
      intro D ys H2 hD hl hP x2 e2
      have ey := list_const hl hP
      subst ey
      repeat walk_at "s"
      refine ⟨by decide, by decide, ?_⟩
      refine' b_rng (fun _ v => v = y3) ?hn (fun x => ?hw) ?hb ?hk
      case hn => decide
      case hw => rfl
      case hb =>
        intro i H' hi xx R hR
        repeat walk_at "s"
        refine v_ix_l (xl (xtr x2 xx) hS) (v := y3) rfl ?_
        exact hR _ _ (xrefl _) rfl
      case hk =>
        intro D2 ys2 H4 hD2 hl2 hP2 x4 e4
        have ey2 := list_const hl2 hP2
        subst ey2
        repeat walk_at "s"
        refine v_plus_lst (x4 _ _ e2) e4 (by first | exact szL (Nat.le_of_ble_eq_true rfl)) fun p5 H5 n5 x5 e5 => ?_
        have X5 := xtr x2 (xtr x4 x5)
        repeat walk_at "s"
        refine v_ix_l (xl X5 hS) (v := y1) rfl ?_
        repeat walk_at "s"
        refine v_ix_l (xl X5 hS) (v := y2) rfl ?_
        repeat walk_at "s"
        refine v_ix_l (xl X5 hS) (v := y0) rfl ?_
        repeat walk_at "s"
        refine v_ix_l (xl X5 hS) (v := y3) rfl ?_
        repeat walk_at "s"
        intro p6 H6 n6 x6 e6
        repeat walk_at "s"
        refine v_plus_lst (x6 _ _ e5) e6 (by first | exact szL (Nat.le_of_ble_eq_true rfl)) fun p7 H7 n7 x7 e7 => ?_
        exact q p7 H7 (xtr X5 (xtr x6 x7)) e7

theorem ok__law_values (T : Top0 P K mg) : FnOk P w K mg base CX0 3 T.f__law_values T.fd__law_values ["cell"] (sp__law_values T) := by
  refine T.F__law_values.ok sc__law_values (fun vs H Q E h => ?_) (fun cdv A outer s H vs Q E hr h => ?_)
  · obtain ⟨c, rfl, q⟩ := h
    rfl
  · obtain ⟨c, rfl, q⟩ := h
    refine ⟨_, (pss_cons (ps_set (i := 1) sc__law_values.nd rfl (Or.inl rfl) (pe_call (ok__law_digits T) (hr.mono (by first | decide | exact Nat.le_refl _ | omega | (show _ ≤ _ + n; omega))) (by rfl) T.g__law_digits T.F__law_digits.kp T.b__law_digits .nil pass0 (pa_cons (pv 0) (pa_cons (pe_op (r := rPlus K) op_plus (pe_op (r := rPlus K) op_plus (pe_lst (pa_cons pe_int (pa_cons pe_int (pa_cons pe_int (pa_cons pe_int (pa_cons pe_int pa_nil)))))) (pe_lc (own := [("k", 4)]) (g := gName 4) rfl sc__law_values.nd (pi_range1 (by rfl) T.n_range (pa_cons pe_int pa_nil)) (blkOk_by (N := N__law_values) (sc := defScope s__law_values) (by decide +kernel)) (fun _ _ _ _ _ => (pg_name (i := 4) sc__law_values.nd rfl (Or.inl rfl))) (fun _ _ _ _ _ => pts_nil) (fun _ _ _ _ _ => pe_int))) (pe_lc (own := [("k", 4)]) (g := gName 4) rfl sc__law_values.nd (pi_range1 (by rfl) T.n_range (pa_cons pe_int pa_nil)) (blkOk_by (N := N__law_values) (sc := defScope s__law_values) (by decide +kernel)) (fun _ _ _ _ _ => (pg_name (i := 4) sc__law_values.nd rfl (Or.inl rfl))) (fun _ _ _ _ _ => pts_nil) (fun _ _ _ _ _ => pe_int))) pa_nil))))
      (pss_cons (ps_set (i := 2) sc__law_values.nd rfl (Or.inl rfl) pe_str)
      (pss_cons (ps_set (i := 3) sc__law_values.nd rfl (Or.inl rfl) (pe_call (ok__law_text T) (hr.mono (by first | decide | exact Nat.le_refl _ | omega | (show _ ≤ _ + n; omega))) (by rfl) T.g__law_text T.F__law_text.kp T.b__law_text .nil pass0 (pa_cons (pe_slice (r := rSlU K) sl_any (pv 1) (po_some pe_int) (po_some (pe_op (r := rPlus K) op_plus pe_int (pe_ix (r := rIx K) ix_seq (pv 1) pe_int (fun _ _ => rfl))))) pa_nil)))
      (pss_one (ps_ret (pe_lst (pa_cons (pv 3) (pa_cons (pe_callTy (r := rTup K) call_tupU (by rfl) T.n_tuple (by decide +kernel) (pa_cons (pe_slice (r := rSlU K) sl_any (pv 1) (po_some pe_int) (po_some (pe_op (r := rPlus K) op_plus pe_int (pe_ix (r := rIx K) ix_seq (pv 1) pe_int (fun _ _ => rfl))))) pa_nil)) (pa_cons (pe_tup (pa_cons (pe_op (r := rPlus K) op_plus (pe_ix (r := rIx K) ix_seq (pv 2) (pe_ix (r := rIx K) ix_seq (pv 1) pe_int (fun _ _ => rfl)) (fun _ _ => rfl)) (pe_callTy call_str_int (by rfl) T.n_str PyProof.Rows.boot_str (pa_cons (pe_ix (r := rIx K) ix_seq (pv 1) pe_int (fun _ _ => rfl)) pa_nil))) (pa_cons (pe_op (r := rPlus K) op_plus pe_str (pe_slice (r := rSlU K) sl_any (pe_callTy call_str_int (by rfl) T.n_str PyProof.Rows.boot_str (pa_cons (pe_ix (r := rIx K) ix_seq (pv 1) pe_int (fun _ _ => rfl)) pa_nil)) po_none (po_some pe_int))) pa_nil))) (pa_cons (pe_ix (r := rIx K) ix_seq (pv 1) pe_int (fun _ _ => rfl)) pa_nil)))))))))), ?_⟩
    repeat walk_at "s"
    intro p1 H1 n1 x1 e1
    repeat walk_at "s"
    refine ⟨by decide, by decide, ?_⟩
    refine' b_rng (fun _ y => y = .int 95) ?hn (fun x => ?hw) ?hb ?hk
    case hn => decide
    case hw => rfl
    case hb =>
      intro i H' hi x R hR
      repeat walk_at "s"
      exact hR _ _ (xrefl _) rfl
    case hk =>
      intro D ys H2 hD hl hP x2 e2
      have ey := list_const hl hP
      subst ey
      repeat walk_at "s"
      refine v_plus_lst (x2 _ _ e1) e2 (by first | exact szL (Nat.le_of_ble_eq_true rfl)) fun p3 H3 n3 x3 e3 => ?_
      repeat walk_at "s"
      refine ⟨by decide, by decide, ?_⟩
      refine' b_rng (fun _ y => y = .int 60) ?hn (fun x => ?hw) ?hb ?hk
      case hn => decide
      case hw => rfl
      case hb =>
        intro i H' hi x R hR
        repeat walk_at "s"
        exact hR _ _ (xrefl _) rfl
      case hk =>
        intro D2 ys2 H4 hD2 hl2 hP2 x4 e4
        have ey2 := list_const hl2 hP2
        subst ey2
        repeat walk_at "s"
        refine v_plus_lst (x4 _ _ e3) e4 (by first | exact szL (Nat.le_of_ble_eq_true rfl)) fun p5 H5 n5 x5 e5 => ?_
        repeat walk_at "s"
        refine ⟨c, p5, SS9, rfl, sql e5, by decide, by decide, fun p6 H6 ds x6 e6 hd => ?_⟩
        have X6 := xtr x1 (xtr x2 (xtr x3 (xtr x4 (xtr x5 x6))))
        obtain ⟨d0, g0, a0, b0⟩ := hd.get 0 (0 : Int) rfl rfl
        obtain ⟨d1, g1, a1, b1⟩ := hd.get 1 (1 : Int) rfl rfl
        obtain ⟨d2, g2, a2, b2⟩ := hd.get 2 (2 : Int) rfl rfl
        obtain ⟨d3, g3, a3, b3⟩ := hd.get 3 (3 : Int) rfl rfl
        obtain ⟨d4, g4, a4, b4⟩ := hd.get 4 (4 : Int) rfl rfl
        have dl : ds.length = 19 := hd.1
        have dlV : (ds.map V.int).length = 19 := by rw [List.length_map, dl]
        clear e1 e2 e3 e4 e5
        repeat walk_at "s"
        refine v_sl_l (sql e6) fun p7 H7 n7 x7 e7 => ?_
        obtain ⟨ns, hns, hnl, hnb⟩ := cut_ints ds (some 5) (some (5 + d0))
        have hcl := cutV_len (xs := ds.map V.int) (lo := 5) (hi := 5 + d0) (by omega) (by omega) (by omega)
        rw [hns, List.length_map] at hcl
        rw [hns] at e7
        repeat walk_at "s"
        refine ⟨p7, ns, rfl, sql e7, by omega, fun n hn => ?_, fun z H8 x8 hz hzl => ?_⟩
        · obtain ⟨i, hi⟩ := List.getElem?_of_mem hn
          have hil : i < ns.length := (List.getElem?_eq_some_iff.mp hi).1
          obtain ⟨s, hs, u0, u1⟩ := hd.at (hnb 5 i n rfl (by omega) hi)
          rw [ss95 i (by omega)] at hs
          cases hs
          exact ⟨u0, u1⟩
        · have e68 := x8 _ _ (x7 _ _ e6)
          repeat walk_at "s"
          try (with_reducible refine v_ix_l (sql e68) g1 ?_)
          repeat walk_at "s"
          refine v_sl_l (sql e68) fun p9 H9 n9 x9 e9 => ?_
          obtain ⟨ms, hms, hml, hmb⟩ := cut_ints ds (some 13) (some (13 + d1))
          have hcm := cutV_len (xs := ds.map V.int) (lo := 13) (hi := 13 + d1) (by omega) (by omega) (by omega)
          rw [hms, List.length_map] at hcm
          rw [hms] at e9
          repeat walk_at "s"
          refine v_tupl (sql e9) fun pt H10 n10 x10 e10 => ?_
          have e610 := x10 _ _ (x9 _ _ e68)
          obtain ⟨cc, hcc, hcm2⟩ := atI_ok (l := cap26.cps.toList) (i := d2) a2 (by rw [cap26_len]; exact b2)
          have hc128 := cap26_asc cc (atI_mem hcc)
          repeat walk_at "s"
          try (with_reducible refine v_ix_l (sql e610) g2 ?_)
          repeat walk_at "s"
          refine v_ix_s (by decide) hcc ?_
          repeat walk_at "s"
          try (with_reducible refine v_ix_l (sql e610) g3 ?_)
          repeat walk_at "s"
          obtain ⟨t1, t2⟩ := num_txt a3 (by omega)
          refine ⟨Nat.lt_of_lt_of_le (small_log a3 (by omega)) (by decide), ?_⟩
          repeat walk_at "s"
          try (with_reducible refine v_plus_str (szL (Nat.le_of_lt_succ (by show 1 + _ < _; omega))) ?_)
          repeat walk_at "s"
          try (with_reducible refine v_ix_l (sql e610) g4 ?_)
          repeat walk_at "s"
          obtain ⟨t3, t4⟩ := num_txt a4 b4
          refine ⟨Nat.lt_of_lt_of_le (small_log a4 b4) (by decide), ?_⟩
          repeat walk_at "s"
          try (with_reducible refine v_sl_s (szL (by omega)) ?_)
          have hcz := len_cut (Str.ofString (toString d4)) none (some 6)
          repeat walk_at "s"
          refine v_plus_str (szL (Nat.le_trans (Nat.add_le_add_left hcz _) (by show 1 + _ ≤ _; omega))) ?_
          repeat walk_at "s"
          intro pv H11 n11 x11 e11
          repeat walk_at "s"
          try (with_reducible refine v_ix_l (sql (x11 _ _ e610)) g4 ?_)
          repeat walk_at "s"
          intro pw H12 n12 x12 e12
          refine q _ H12 ⟨z, ms, _, _, d4⟩ (xtr X6 (xtr x7 (xtr x8 (xtr x9 (xtr x10 (xtr x11 x12)))))) ⟨hz, by show z.length ≤ 10; omega, by show ms.length ≤ 10; omega, fun i hi => ?_, asc_app (asc_one hc128) t1, ?_, asc_app (a := Str.ofString "s") (by decide) (asc_cut (lo := none) (hi := some 6) t3), ?_, a4, b4⟩ (.of_lst e12 (.cons (.str z) (.cons ?_ (.cons ?_ (.cons (.int d4) .nil)))))
          · obtain ⟨j, hj⟩ := List.getElem?_of_mem hi
            have hjl : j < ms.length := (List.getElem?_eq_some_iff.mp hj).1
            obtain ⟨s, hs, u0, u1⟩ := hd.at (hmb 13 j i rfl (by omega) hj)
            rw [ss60 j (by omega)] at hs
            cases hs
            exact ⟨u0, u1⟩
          · show (_ ++ _ : Str).length ≤ 20
            rw [len_app]
            show 1 + _ ≤ _
            omega
          · show (_ ++ _ : Str).length ≤ 20
            rw [len_app]
            show 1 + _ ≤ _
            omega
          · exact .of_tup (x12 _ _ (x11 _ _ e10)) (DpAll.ints ms)
          · exact .of_tup (x12 _ _ e11) (.cons (.str _) (.cons (.str _) .nil))

theorem ok__law_named (T : Top0 P K mg) : FnOk P w K mg base CX0 4 T.f__law_named T.fd__law_named ["text"] (sp__law_named T) := by
  refine T.F__law_named.ok sc__law_named (fun vs H Q E h => ?_) (fun cdv A outer s H vs Q E hr h => ?_)
  · obtain ⟨y, rfl, hy, q⟩ := h
    rfl
  · obtain ⟨y, rfl, hy, q⟩ := h
    refine ⟨_, (pss_one (ps_ret (pe_lst (pa_cons (pe_mkx T.ox_BadName T.iI_BadName T.tI_BadName (ok_BadName___init__ T) (hr.mono (by first | decide | exact Nat.le_refl _ | omega | (show _ ≤ _ + n; omega))) T.bI_BadName pass0 (by rfl) T.g_BadName (pa_cons (pv 0) pa_nil)) (pa_cons (pe_mkx T.ox_NameTaken T.iI_NameTaken T.tI_NameTaken (ok_NameTaken___init__ T) (hr.mono (by first | decide | exact Nat.le_refl _ | omega | (show _ ≤ _ + n; omega))) T.bI_NameTaken pass0 (by rfl) T.g_NameTaken (pa_cons (pv 0) pa_nil)) (pa_cons (pe_mkx T.ox_NoSort T.iI_NoSort T.tI_NoSort (ok_NoSort___init__ T) (hr.mono (by first | decide | exact Nat.le_refl _ | omega | (show _ ≤ _ + n; omega))) T.bI_NoSort pass0 (by rfl) T.g_NoSort (pa_cons (pv 0) pa_nil)) (pa_cons (pe_mkx T.ox_ReservedName T.iI_ReservedName T.tI_ReservedName (ok_ReservedName___init__ T) (hr.mono (by first | decide | exact Nat.le_refl _ | omega | (show _ ≤ _ + n; omega))) T.bI_ReservedName pass0 (by rfl) T.g_ReservedName (pa_cons (pv 0) pa_nil)) (pa_cons (pe_mkx T.ox_NotSentence T.iI_NotSentence T.tI_NotSentence (ok_NotSentence___init__ T) (hr.mono (by first | decide | exact Nat.le_refl _ | omega | (show _ ≤ _ + n; omega))) T.bI_NotSentence pass0 (by rfl) T.g_NotSentence (pa_cons (pv 0) pa_nil)) (pa_cons (pe_mkx T.ox_NoAxiom T.iI_NoAxiom T.tI_NoAxiom (ok_NoAxiom___init__ T) (hr.mono (by first | decide | exact Nat.le_refl _ | omega | (show _ ≤ _ + n; omega))) T.bI_NoAxiom pass0 (by rfl) T.g_NoAxiom (pa_cons (pv 0) pa_nil)) (pa_cons (pe_mkx T.ox_BadTable T.iI_BadTable T.tI_BadTable (ok_BadTable___init__ T) (hr.mono (by first | decide | exact Nat.le_refl _ | omega | (show _ ≤ _ + n; omega))) T.bI_BadTable pass0 (by rfl) T.g_BadTable (pa_cons (pv 0) pa_nil)) (pa_cons (pe_mkx T.ox_BadWeight T.iI_BadWeight T.tI_BadWeight (ok_BadWeight___init__ T) (hr.mono (by first | decide | exact Nat.le_refl _ | omega | (show _ ≤ _ + n; omega))) T.bI_BadWeight pass0 (by rfl) T.g_BadWeight (pa_cons (pv 0) pa_nil)) (pa_cons (pe_mkx T.ox_BadSize T.iI_BadSize T.tI_BadSize (ok_BadSize___init__ T) (hr.mono (by first | decide | exact Nat.le_refl _ | omega | (show _ ≤ _ + n; omega))) T.bI_BadSize pass0 (by rfl) T.g_BadSize (pa_cons (pv 0) pa_nil)) pa_nil)))))))))))), ?_⟩
    repeat walk_at "s"
    refine m_mkx (.inl hy) fun a0 H0 x0 e0 => ?_
    repeat walk_at "s"
    refine m_mkx (.inl hy) fun a1 H1 x1 e1 => ?_
    repeat walk_at "s"
    refine m_mkx (.inl hy) fun a2 H2 x2 e2 => ?_
    repeat walk_at "s"
    refine m_mkx (.inl hy) fun a3 H3 x3 e3 => ?_
    repeat walk_at "s"
    refine m_mkx (.inl hy) fun a4 H4 x4 e4 => ?_
    repeat walk_at "s"
    refine m_mkx (.inl hy) fun a5 H5 x5 e5 => ?_
    repeat walk_at "s"
    refine m_mkx (.inl hy) fun a6 H6 x6 e6 => ?_
    repeat walk_at "s"
    refine m_mkx (.inl hy) fun a7 H7 x7 e7 => ?_
    repeat walk_at "s"
    refine m_mkx (.inl hy) fun a8 H8 x8 e8 => ?_
    repeat walk_at "s"
    intro p Hn nn xn en
    exact q p Hn _ (xtr (xtr (xtr (xtr (xtr (xtr (xtr (xtr (xtr x0 x1) x2) x3) x4) x5) x6) x7) x8) xn) en (.cons (ErrI.mono (xtr x1 (xtr x2 (xtr x3 (xtr x4 (xtr x5 (xtr x6 (xtr x7 (xtr x8 xn)))))))) (i := .f _ _ _) e0) (.cons (ErrI.mono (xtr x2 (xtr x3 (xtr x4 (xtr x5 (xtr x6 (xtr x7 (xtr x8 xn))))))) (i := .f _ _ _) e1) (.cons (ErrI.mono (xtr x3 (xtr x4 (xtr x5 (xtr x6 (xtr x7 (xtr x8 xn)))))) (i := .f _ _ _) e2) (.cons (ErrI.mono (xtr x4 (xtr x5 (xtr x6 (xtr x7 (xtr x8 xn))))) (i := .f _ _ _) e3) (.cons (ErrI.mono (xtr x5 (xtr x6 (xtr x7 (xtr x8 xn)))) (i := .f _ _ _) e4) (.cons (ErrI.mono (xtr x6 (xtr x7 (xtr x8 xn))) (i := .f _ _ _) e5) (.cons (ErrI.mono (xtr x7 (xtr x8 xn)) (i := .f _ _ _) e6) (.cons (ErrI.mono (xtr x8 xn) (i := .f _ _ _) e7) (.cons (ErrI.mono xn (i := .f _ _ _) e8) .nil)))))))))

theorem ok__law_columned (T : Top0 P K mg) : FnOk P w K mg base CX0 4 T.f__law_columned T.fd__law_columned ["number"] (sp__law_columned T) := by
  refine T.F__law_columned.ok sc__law_columned (fun vs H Q E h => ?_) (fun cdv A outer s H vs Q E hr h => ?_)
  · obtain ⟨y, rfl, hy, q⟩ := h
    rfl
  · obtain ⟨y, rfl, hy, q⟩ := h
    refine ⟨_, (pss_one (ps_ret (pe_lst (pa_cons (pe_mkx T.ox_BadText T.iI_BadText T.tI_BadText (ok_BadText___init__ T) (hr.mono (by first | decide | exact Nat.le_refl _ | omega | (show _ ≤ _ + n; omega))) T.bI_BadText pass0 (by rfl) T.g_BadText (pa_cons (pv 0) pa_nil)) (pa_cons (pe_mkx T.ox_UnknownName T.iI_UnknownName T.tI_UnknownName (ok_UnknownName___init__ T) (hr.mono (by first | decide | exact Nat.le_refl _ | omega | (show _ ≤ _ + n; omega))) T.bI_UnknownName pass0 (by rfl) T.g_UnknownName (pa_cons (pv 0) pa_nil)) (pa_cons (pe_mkx T.ox_WrongCount T.iI_WrongCount T.tI_WrongCount (ok_WrongCount___init__ T) (hr.mono (by first | decide | exact Nat.le_refl _ | omega | (show _ ≤ _ + n; omega))) T.bI_WrongCount pass0 (by rfl) T.g_WrongCount (pa_cons (pv 0) pa_nil)) (pa_cons (pe_mkx T.ox_WrongSort T.iI_WrongSort T.tI_WrongSort (ok_WrongSort___init__ T) (hr.mono (by first | decide | exact Nat.le_refl _ | omega | (show _ ≤ _ + n; omega))) T.bI_WrongSort pass0 (by rfl) T.g_WrongSort (pa_cons (pv 0) pa_nil)) (pa_cons (pe_mkx T.ox_NameBound T.iI_NameBound T.tI_NameBound (ok_NameBound___init__ T) (hr.mono (by first | decide | exact Nat.le_refl _ | omega | (show _ ≤ _ + n; omega))) T.bI_NameBound pass0 (by rfl) T.g_NameBound (pa_cons (pv 0) pa_nil)) pa_nil)))))))), ?_⟩
    repeat walk_at "s"
    refine m_mkx (.inl hy) fun a0 H0 x0 e0 => ?_
    repeat walk_at "s"
    refine m_mkx (.inl hy) fun a1 H1 x1 e1 => ?_
    repeat walk_at "s"
    refine m_mkx (.inl hy) fun a2 H2 x2 e2 => ?_
    repeat walk_at "s"
    refine m_mkx (.inl hy) fun a3 H3 x3 e3 => ?_
    repeat walk_at "s"
    refine m_mkx (.inl hy) fun a4 H4 x4 e4 => ?_
    repeat walk_at "s"
    intro p Hn nn xn en
    exact q p Hn _ (xtr (xtr (xtr (xtr (xtr x0 x1) x2) x3) x4) xn) en (.cons (ErrI.mono (xtr x1 (xtr x2 (xtr x3 (xtr x4 xn)))) (i := .f _ _ _) e0) (.cons (ErrI.mono (xtr x2 (xtr x3 (xtr x4 xn))) (i := .f _ _ _) e1) (.cons (ErrI.mono (xtr x3 (xtr x4 xn)) (i := .f _ _ _) e2) (.cons (ErrI.mono (xtr x4 xn) (i := .f _ _ _) e3) (.cons (ErrI.mono xn (i := .f _ _ _) e4) .nil)))))

theorem ok__law_numbered (T : Top0 P K mg) : FnOk P w K mg base CX0 4 T.f__law_numbered T.fd__law_numbered ["number"] (sp__law_numbered T) := by
  refine T.F__law_numbered.ok sc__law_numbered (fun vs H Q E h => ?_) (fun cdv A outer s H vs Q E hr h => ?_)
  · obtain ⟨y, rfl, hy, q⟩ := h
    rfl
  · obtain ⟨y, rfl, hy, q⟩ := h
    refine ⟨_, (pss_one (ps_ret (pe_lst (pa_cons (pe_mkx T.ox_BadLine T.iI_BadLine T.tI_BadLine (ok_BadLine___init__ T) (hr.mono (by first | decide | exact Nat.le_refl _ | omega | (show _ ≤ _ + n; omega))) T.bI_BadLine pass0 (by rfl) T.g_BadLine (pa_cons (pv 0) pa_nil)) (pa_cons (pe_mkx T.ox_NoClause T.iI_NoClause T.tI_NoClause (ok_NoClause___init__ T) (hr.mono (by first | decide | exact Nat.le_refl _ | omega | (show _ ≤ _ + n; omega))) T.bI_NoClause pass0 (by rfl) T.g_NoClause (pa_cons (pv 0) pa_nil)) (pa_cons (pe_mkx T.ox_NotWaiting T.iI_NotWaiting T.tI_NotWaiting (ok_NotWaiting___init__ T) (hr.mono (by first | decide | exact Nat.le_refl _ | omega | (show _ ≤ _ + n; omega))) T.bI_NotWaiting pass0 (by rfl) T.g_NotWaiting (pa_cons (pv 0) pa_nil)) pa_nil)))))), ?_⟩
    repeat walk_at "s"
    refine m_mkx (.inl hy) fun a0 H0 x0 e0 => ?_
    repeat walk_at "s"
    refine m_mkx (.inl hy) fun a1 H1 x1 e1 => ?_
    repeat walk_at "s"
    refine m_mkx (.inl hy) fun a2 H2 x2 e2 => ?_
    repeat walk_at "s"
    intro p Hn nn xn en
    exact q p Hn _ (xtr (xtr (xtr x0 x1) x2) xn) en (.cons (ErrI.mono (xtr x1 (xtr x2 xn)) (i := .f _ _ _) e0) (.cons (ErrI.mono (xtr x2 xn) (i := .f _ _ _) e1) (.cons (ErrI.mono xn (i := .f _ _ _) e2) .nil)))

theorem ok__law_indexed (T : Top0 P K mg) : FnOk P w K mg base CX0 4 T.f__law_indexed T.fd__law_indexed ["number"] (sp__law_indexed T) := by
  refine T.F__law_indexed.ok sc__law_indexed (fun vs H Q E h => ?_) (fun cdv A outer s H vs Q E hr h => ?_)
  · obtain ⟨y, rfl, hy, q⟩ := h
    rfl
  · obtain ⟨y, rfl, hy, q⟩ := h
    refine ⟨_, (pss_one (ps_ret (pe_lst (pa_cons (pe_mkx T.ox_BadStep T.iI_BadStep T.tI_BadStep (ok_BadStep___init__ T) (hr.mono (by first | decide | exact Nat.le_refl _ | omega | (show _ ≤ _ + n; omega))) T.bI_BadStep pass0 (by rfl) T.g_BadStep (pa_cons (pv 0) pa_nil)) (pa_cons (pe_mkx T.ox_NotUnit T.iI_NotUnit T.tI_NotUnit (ok_NotUnit___init__ T) (hr.mono (by first | decide | exact Nat.le_refl _ | omega | (show _ ≤ _ + n; omega))) T.bI_NotUnit pass0 (by rfl) T.g_NotUnit (pa_cons (pv 0) pa_nil)) (pa_cons (pe_mkx T.ox_NotUnits T.iI_NotUnits T.tI_NotUnits (ok_NotUnits___init__ T) (hr.mono (by first | decide | exact Nat.le_refl _ | omega | (show _ ≤ _ + n; omega))) T.bI_NotUnits pass0 (by rfl) T.g_NotUnits (pa_cons (pv 0) pa_nil)) (pa_cons (pe_mkx T.ox_BadClause T.iI_BadClause T.tI_BadClause (ok_BadClause___init__ T) (hr.mono (by first | decide | exact Nat.le_refl _ | omega | (show _ ≤ _ + n; omega))) T.bI_BadClause pass0 (by rfl) T.g_BadClause (pa_cons (pv 0) pa_nil)) pa_nil))))))), ?_⟩
    repeat walk_at "s"
    refine m_mkx (.inl hy) fun a0 H0 x0 e0 => ?_
    repeat walk_at "s"
    refine m_mkx (.inl hy) fun a1 H1 x1 e1 => ?_
    repeat walk_at "s"
    refine m_mkx (.inl hy) fun a2 H2 x2 e2 => ?_
    repeat walk_at "s"
    refine m_mkx (.inl hy) fun a3 H3 x3 e3 => ?_
    repeat walk_at "s"
    intro p Hn nn xn en
    exact q p Hn _ (xtr (xtr (xtr (xtr x0 x1) x2) x3) xn) en (.cons (ErrI.mono (xtr x1 (xtr x2 (xtr x3 xn))) (i := .f _ _ _) e0) (.cons (ErrI.mono (xtr x2 (xtr x3 xn)) (i := .f _ _ _) e1) (.cons (ErrI.mono (xtr x3 xn) (i := .f _ _ _) e2) (.cons (ErrI.mono xn (i := .f _ _ _) e3) .nil))))

theorem ok__law_others (T : Top0 P K mg) : FnOk P w K mg base CX0 4 T.f__law_others T.fd__law_others ["values"] (sp__law_others T) := by
  refine T.F__law_others.ok sc__law_others (fun vs H Q E h => ?_) (fun cdv A outer s H vs Q E hr h => ?_)
  · obtain ⟨v, x, y0, y1, y2, y3, rfl, ok, ⟨e0, e3, hd1, hd2, a, rfl, hS⟩, q⟩ := h
    rfl
  · obtain ⟨v, x, y0, y1, y2, y3, rfl, ok, ⟨e0, e3, hd1, hd2, a, rfl, hS⟩, q⟩ := h
    refine ⟨_, (pss_one (ps_ret (pe_lst (pa_cons (pe_mkx T.ox_BadPlace T.iI_BadPlace T.tI_BadPlace (ok_BadPlace___init__ T) (hr.mono (by first | decide | exact Nat.le_refl _ | omega | (show _ ≤ _ + n; omega))) T.bI_BadPlace pass0 (by rfl) T.g_BadPlace (pa_cons (pe_ix (r := rIx K) ix_seq (pv 0) pe_int (fun _ _ => rfl)) pa_nil)) (pa_cons (pe_mkx T.ox_FilledTwice T.iI_FilledTwice T.tI_FilledTwice (ok_FilledTwice___init__ T) (hr.mono (by first | decide | exact Nat.le_refl _ | omega | (show _ ≤ _ + n; omega))) T.bI_FilledTwice pass0 (by rfl) T.g_FilledTwice (pa_cons (pe_ix (r := rIx K) ix_seq (pv 0) pe_int (fun _ _ => rfl)) pa_nil)) (pa_cons (pe_mkx T.ox_NoSelection T.iI_NoSelection T.tI_NoSelection (ok_NoSelection___init__ T) (hr.mono (by first | decide | exact Nat.le_refl _ | omega | (show _ ≤ _ + n; omega))) T.bI_NoSelection pass0 (by rfl) T.g_NoSelection (pa_cons (pe_ix (r := rIx K) ix_seq (pv 0) pe_int (fun _ _ => rfl)) pa_nil)) (pa_cons (pe_mkx T.ox_TooHeavy T.iI_TooHeavy T.tI_TooHeavy (ok_TooHeavy___init__ T) (hr.mono (by first | decide | exact Nat.le_refl _ | omega | (show _ ≤ _ + n; omega))) T.bI_TooHeavy pass0 (by rfl) T.g_TooHeavy (pa_cons (pe_ix (r := rIx K) ix_seq (pv 0) pe_int (fun _ _ => rfl)) pa_nil)) pa_nil))))))), ?_⟩
    repeat walk_at "s"
    refine v_ix_l (xl (xrefl _) hS) (v := y1) rfl ?_
    repeat walk_at "s"
    refine m_mkx (dN_repx ok (Dp.mono (xrefl _) hd1)) fun a0 H0 x0 g0 => ?_
    repeat walk_at "s"
    refine v_ix_l (xl x0 hS) (v := y2) rfl ?_
    repeat walk_at "s"
    refine m_mkx (dV_repx ok (Dp.mono x0 hd2)) fun a1 H1 x1 g1 => ?_
    repeat walk_at "s"
    refine v_ix_l (xl (xtr x0 x1) hS) (v := y0) rfl ?_
    repeat walk_at "s"
    refine m_mkx (.inl (.inl ⟨_, e0, ok.z1, Nat.le_trans ok.z2 (by decide)⟩)) fun a2 H2 x2 g2 => ?_
    repeat walk_at "s"
    refine v_ix_l (xl (xtr (xtr x0 x1) x2) hS) (v := y3) rfl ?_
    repeat walk_at "s"
    refine m_mkx (.inl (.inr ⟨_, e3, Nat.lt_of_lt_of_le (small_log ok.m1 ok.m2) (by decide)⟩)) fun a3 H3 x3 g3 => ?_
    repeat walk_at "s"
    intro p Hn nn xn en
    exact q p Hn _ (xtr (xtr (xtr (xtr x0 x1) x2) x3) xn) en (.cons (ErrI.mono (xtr x1 (xtr x2 (xtr x3 xn))) (i := .f _ _ _) g0) (.cons (ErrI.mono (xtr x2 (xtr x3 xn)) (i := .f _ _ _) g1) (.cons (ErrI.mono (xtr x3 xn) (i := .f _ _ _) g2) (.cons (ErrI.mono xn (i := .f _ _ _) g3) .nil))))

theorem ok__law_plain (T : Top0 P K mg) : FnOk P w K mg base CX0 4 T.f__law_plain T.fd__law_plain [] (sp__law_plain T) := by
  refine T.F__law_plain.ok sc__law_plain (fun vs H Q E h => ?_) (fun cdv A outer s H vs Q E hr h => ?_)
  · obtain ⟨rfl, q⟩ := h
    rfl
  · obtain ⟨rfl, q⟩ := h
    refine ⟨_, (pss_one (ps_ret (pe_lst (pa_cons (pe_mkp PySem.F.excBase_ValueError T.qx_TooLong T.g_TooLong T.kx_TooLong (by rfl)) (pa_cons (pe_mkp PySem.F.excBase_ValueError T.qx_TooMany T.g_TooMany T.kx_TooMany (by rfl)) (pa_cons (pe_mkp PySem.F.excBase_ValueError T.qx_NoSteps T.g_NoSteps T.kx_NoSteps (by rfl)) (pa_cons (pe_mkp PySem.F.excBase_ValueError T.qx_NotRefutation T.g_NotRefutation T.kx_NotRefutation (by rfl)) (pa_cons (pe_mkp PySem.F.excBase_ValueError T.qx_RunOver T.g_RunOver T.kx_RunOver (by rfl)) (pa_cons (pe_mkp PySem.F.excBase_ValueError T.qx_GivenDiffer T.g_GivenDiffer T.kx_GivenDiffer (by rfl)) (pa_cons (pe_mkp PySem.F.excBase_ValueError T.qx_NotEnded T.g_NotEnded T.kx_NotEnded (by rfl)) pa_nil)))))))))), ?_⟩
    repeat walk_at "s"
    refine k_mkp fun a0 H0 x0 e0 => ?_
    repeat walk_at "s"
    refine k_mkp fun a1 H1 x1 e1 => ?_
    repeat walk_at "s"
    refine k_mkp fun a2 H2 x2 e2 => ?_
    repeat walk_at "s"
    refine k_mkp fun a3 H3 x3 e3 => ?_
    repeat walk_at "s"
    refine k_mkp fun a4 H4 x4 e4 => ?_
    repeat walk_at "s"
    refine k_mkp fun a5 H5 x5 e5 => ?_
    repeat walk_at "s"
    refine k_mkp fun a6 H6 x6 e6 => ?_
    repeat walk_at "s"
    intro p Hn nn xn en
    exact q p Hn _ (xtr (xtr (xtr (xtr (xtr (xtr (xtr x0 x1) x2) x3) x4) x5) x6) xn) en (.cons (ErrI.mono (xtr x1 (xtr x2 (xtr x3 (xtr x4 (xtr x5 (xtr x6 xn)))))) e0) (.cons (ErrI.mono (xtr x2 (xtr x3 (xtr x4 (xtr x5 (xtr x6 xn))))) e1) (.cons (ErrI.mono (xtr x3 (xtr x4 (xtr x5 (xtr x6 xn)))) e2) (.cons (ErrI.mono (xtr x4 (xtr x5 (xtr x6 xn))) e3) (.cons (ErrI.mono (xtr x5 (xtr x6 xn)) e4) (.cons (ErrI.mono (xtr x6 xn) e5) (.cons (ErrI.mono xn e6) .nil)))))))

theorem ok__law_kinds (T : Top0 P K mg) : FnOk P w K mg base CX0 4 T.f__law_kinds T.fd__law_kinds ["e"] (sp__law_kinds T) := by
  refine T.F__law_kinds.ok sc__law_kinds (fun vs H Q E h => ?_) (fun cdv A outer s H vs Q E hr h => ?_)
  · obtain ⟨e, it, i, rfl, hE, hc, q⟩ := h
    rfl
  · obtain ⟨e, it, i, rfl, hE, hc, q⟩ := h
    refine ⟨_, (pss_cons (ps_set (i := 1) sc__law_kinds.nd rfl (Or.inl rfl) (pe_lst pa_nil))
      (pss_cons (ps_set (i := 1) sc__law_kinds.nd rfl (Or.inl rfl) (pe_op (r := rPlus K) op_plus (pv 1) (pe_lst (pa_cons (pe_callB (r := rIsV K) call_isV (by rfl) T.n_isinstance PyProof.Rows.boot_isinstance (pa_cons (pv 0) (pa_cons (pe_glob (v := .ref T.C_BadName) (by rfl) T.g_BadName rfl) pa_nil))) (pa_cons (pe_callB (r := rIsV K) call_isV (by rfl) T.n_isinstance PyProof.Rows.boot_isinstance (pa_cons (pv 0) (pa_cons (pe_glob (v := .ref T.C_NameTaken) (by rfl) T.g_NameTaken rfl) pa_nil))) (pa_cons (pe_callB (r := rIsV K) call_isV (by rfl) T.n_isinstance PyProof.Rows.boot_isinstance (pa_cons (pv 0) (pa_cons (pe_glob (v := .ref T.C_NoSort) (by rfl) T.g_NoSort rfl) pa_nil))) (pa_cons (pe_callB (r := rIsV K) call_isV (by rfl) T.n_isinstance PyProof.Rows.boot_isinstance (pa_cons (pv 0) (pa_cons (pe_glob (v := .ref T.C_ReservedName) (by rfl) T.g_ReservedName rfl) pa_nil))) pa_nil)))))))
      (pss_cons (ps_set (i := 1) sc__law_kinds.nd rfl (Or.inl rfl) (pe_op (r := rPlus K) op_plus (pv 1) (pe_lst (pa_cons (pe_callB (r := rIsV K) call_isV (by rfl) T.n_isinstance PyProof.Rows.boot_isinstance (pa_cons (pv 0) (pa_cons (pe_glob (v := .ref T.C_NotSentence) (by rfl) T.g_NotSentence rfl) pa_nil))) (pa_cons (pe_callB (r := rIsV K) call_isV (by rfl) T.n_isinstance PyProof.Rows.boot_isinstance (pa_cons (pv 0) (pa_cons (pe_glob (v := .ref T.C_NoAxiom) (by rfl) T.g_NoAxiom rfl) pa_nil))) (pa_cons (pe_callB (r := rIsV K) call_isV (by rfl) T.n_isinstance PyProof.Rows.boot_isinstance (pa_cons (pv 0) (pa_cons (pe_glob (v := .ref T.C_BadTable) (by rfl) T.g_BadTable rfl) pa_nil))) (pa_cons (pe_callB (r := rIsV K) call_isV (by rfl) T.n_isinstance PyProof.Rows.boot_isinstance (pa_cons (pv 0) (pa_cons (pe_glob (v := .ref T.C_BadWeight) (by rfl) T.g_BadWeight rfl) pa_nil))) pa_nil)))))))
      (pss_cons (ps_set (i := 1) sc__law_kinds.nd rfl (Or.inl rfl) (pe_op (r := rPlus K) op_plus (pv 1) (pe_lst (pa_cons (pe_callB (r := rIsV K) call_isV (by rfl) T.n_isinstance PyProof.Rows.boot_isinstance (pa_cons (pv 0) (pa_cons (pe_glob (v := .ref T.C_BadSize) (by rfl) T.g_BadSize rfl) pa_nil))) (pa_cons (pe_callB (r := rIsV K) call_isV (by rfl) T.n_isinstance PyProof.Rows.boot_isinstance (pa_cons (pv 0) (pa_cons (pe_glob (v := .ref T.C_BadText) (by rfl) T.g_BadText rfl) pa_nil))) (pa_cons (pe_callB (r := rIsV K) call_isV (by rfl) T.n_isinstance PyProof.Rows.boot_isinstance (pa_cons (pv 0) (pa_cons (pe_glob (v := .ref T.C_UnknownName) (by rfl) T.g_UnknownName rfl) pa_nil))) (pa_cons (pe_callB (r := rIsV K) call_isV (by rfl) T.n_isinstance PyProof.Rows.boot_isinstance (pa_cons (pv 0) (pa_cons (pe_glob (v := .ref T.C_WrongCount) (by rfl) T.g_WrongCount rfl) pa_nil))) pa_nil)))))))
      (pss_cons (ps_set (i := 1) sc__law_kinds.nd rfl (Or.inl rfl) (pe_op (r := rPlus K) op_plus (pv 1) (pe_lst (pa_cons (pe_callB (r := rIsV K) call_isV (by rfl) T.n_isinstance PyProof.Rows.boot_isinstance (pa_cons (pv 0) (pa_cons (pe_glob (v := .ref T.C_WrongSort) (by rfl) T.g_WrongSort rfl) pa_nil))) (pa_cons (pe_callB (r := rIsV K) call_isV (by rfl) T.n_isinstance PyProof.Rows.boot_isinstance (pa_cons (pv 0) (pa_cons (pe_glob (v := .ref T.C_NameBound) (by rfl) T.g_NameBound rfl) pa_nil))) (pa_cons (pe_callB (r := rIsV K) call_isV (by rfl) T.n_isinstance PyProof.Rows.boot_isinstance (pa_cons (pv 0) (pa_cons (pe_glob (v := .ref T.C_BadLine) (by rfl) T.g_BadLine rfl) pa_nil))) (pa_cons (pe_callB (r := rIsV K) call_isV (by rfl) T.n_isinstance PyProof.Rows.boot_isinstance (pa_cons (pv 0) (pa_cons (pe_glob (v := .ref T.C_NoClause) (by rfl) T.g_NoClause rfl) pa_nil))) pa_nil)))))))
      (pss_cons (ps_set (i := 1) sc__law_kinds.nd rfl (Or.inl rfl) (pe_op (r := rPlus K) op_plus (pv 1) (pe_lst (pa_cons (pe_callB (r := rIsV K) call_isV (by rfl) T.n_isinstance PyProof.Rows.boot_isinstance (pa_cons (pv 0) (pa_cons (pe_glob (v := .ref T.C_NotWaiting) (by rfl) T.g_NotWaiting rfl) pa_nil))) (pa_cons (pe_callB (r := rIsV K) call_isV (by rfl) T.n_isinstance PyProof.Rows.boot_isinstance (pa_cons (pv 0) (pa_cons (pe_glob (v := .ref T.C_BadStep) (by rfl) T.g_BadStep rfl) pa_nil))) (pa_cons (pe_callB (r := rIsV K) call_isV (by rfl) T.n_isinstance PyProof.Rows.boot_isinstance (pa_cons (pv 0) (pa_cons (pe_glob (v := .ref T.C_NotUnit) (by rfl) T.g_NotUnit rfl) pa_nil))) (pa_cons (pe_callB (r := rIsV K) call_isV (by rfl) T.n_isinstance PyProof.Rows.boot_isinstance (pa_cons (pv 0) (pa_cons (pe_glob (v := .ref T.C_NotUnits) (by rfl) T.g_NotUnits rfl) pa_nil))) pa_nil)))))))
      (pss_cons (ps_set (i := 1) sc__law_kinds.nd rfl (Or.inl rfl) (pe_op (r := rPlus K) op_plus (pv 1) (pe_lst (pa_cons (pe_callB (r := rIsV K) call_isV (by rfl) T.n_isinstance PyProof.Rows.boot_isinstance (pa_cons (pv 0) (pa_cons (pe_glob (v := .ref T.C_BadClause) (by rfl) T.g_BadClause rfl) pa_nil))) (pa_cons (pe_callB (r := rIsV K) call_isV (by rfl) T.n_isinstance PyProof.Rows.boot_isinstance (pa_cons (pv 0) (pa_cons (pe_glob (v := .ref T.C_BadPlace) (by rfl) T.g_BadPlace rfl) pa_nil))) (pa_cons (pe_callB (r := rIsV K) call_isV (by rfl) T.n_isinstance PyProof.Rows.boot_isinstance (pa_cons (pv 0) (pa_cons (pe_glob (v := .ref T.C_FilledTwice) (by rfl) T.g_FilledTwice rfl) pa_nil))) (pa_cons (pe_callB (r := rIsV K) call_isV (by rfl) T.n_isinstance PyProof.Rows.boot_isinstance (pa_cons (pv 0) (pa_cons (pe_glob (v := .ref T.C_NoSelection) (by rfl) T.g_NoSelection rfl) pa_nil))) pa_nil)))))))
      (pss_cons (ps_set (i := 1) sc__law_kinds.nd rfl (Or.inl rfl) (pe_op (r := rPlus K) op_plus (pv 1) (pe_lst (pa_cons (pe_callB (r := rIsV K) call_isV (by rfl) T.n_isinstance PyProof.Rows.boot_isinstance (pa_cons (pv 0) (pa_cons (pe_glob (v := .ref T.C_TooHeavy) (by rfl) T.g_TooHeavy rfl) pa_nil))) (pa_cons (pe_callB (r := rIsV K) call_isV (by rfl) T.n_isinstance PyProof.Rows.boot_isinstance (pa_cons (pv 0) (pa_cons (pe_glob (v := .ref T.C_TooLong) (by rfl) T.g_TooLong rfl) pa_nil))) (pa_cons (pe_callB (r := rIsV K) call_isV (by rfl) T.n_isinstance PyProof.Rows.boot_isinstance (pa_cons (pv 0) (pa_cons (pe_glob (v := .ref T.C_TooMany) (by rfl) T.g_TooMany rfl) pa_nil))) (pa_cons (pe_callB (r := rIsV K) call_isV (by rfl) T.n_isinstance PyProof.Rows.boot_isinstance (pa_cons (pv 0) (pa_cons (pe_glob (v := .ref T.C_NoSteps) (by rfl) T.g_NoSteps rfl) pa_nil))) pa_nil)))))))
      (pss_cons (ps_set (i := 1) sc__law_kinds.nd rfl (Or.inl rfl) (pe_op (r := rPlus K) op_plus (pv 1) (pe_lst (pa_cons (pe_callB (r := rIsV K) call_isV (by rfl) T.n_isinstance PyProof.Rows.boot_isinstance (pa_cons (pv 0) (pa_cons (pe_glob (v := .ref T.C_NotRefutation) (by rfl) T.g_NotRefutation rfl) pa_nil))) (pa_cons (pe_callB (r := rIsV K) call_isV (by rfl) T.n_isinstance PyProof.Rows.boot_isinstance (pa_cons (pv 0) (pa_cons (pe_glob (v := .ref T.C_RunOver) (by rfl) T.g_RunOver rfl) pa_nil))) (pa_cons (pe_callB (r := rIsV K) call_isV (by rfl) T.n_isinstance PyProof.Rows.boot_isinstance (pa_cons (pv 0) (pa_cons (pe_glob (v := .ref T.C_GivenDiffer) (by rfl) T.g_GivenDiffer rfl) pa_nil))) (pa_cons (pe_callB (r := rIsV K) call_isV (by rfl) T.n_isinstance PyProof.Rows.boot_isinstance (pa_cons (pv 0) (pa_cons (pe_glob (v := .ref T.C_NotEnded) (by rfl) T.g_NotEnded rfl) pa_nil))) pa_nil)))))))
      (pss_one (ps_ret (pv 1)))))))))))), ?_⟩
    have hx := cl_exc T _ (List.mem_of_getElem? hc)
    have hk := (kit_at (kit_of T) hc).1
    repeat walk_at "s"
    intro p0 H0 n0 x0 e0
    repeat walk_at "s"
    refine m_isv (ErrI.mono x0 hE) hx (hk 0 T.C_BadName rfl) ?_
    repeat walk_at "s"
    refine m_isv (ErrI.mono x0 hE) hx (hk 1 T.C_NameTaken rfl) ?_
    repeat walk_at "s"
    refine m_isv (ErrI.mono x0 hE) hx (hk 2 T.C_NoSort rfl) ?_
    repeat walk_at "s"
    refine m_isv (ErrI.mono x0 hE) hx (hk 3 T.C_ReservedName rfl) ?_
    repeat walk_at "s"
    intro pa0 Ha0 na0 xa0 ea0
    repeat walk_at "s"
    refine v_plus_lst (xa0 _ _ e0) ea0 (szL (Nat.le_of_ble_eq_true rfl)) fun pb0 Hb0 nb0 xb0 eb0 => ?_
    have X0 := xtr x0 (xtr xa0 xb0)
    repeat walk_at "s"
    refine m_isv (ErrI.mono X0 hE) hx (hk 4 T.C_NotSentence rfl) ?_
    repeat walk_at "s"
    refine m_isv (ErrI.mono X0 hE) hx (hk 5 T.C_NoAxiom rfl) ?_
    repeat walk_at "s"
    refine m_isv (ErrI.mono X0 hE) hx (hk 6 T.C_BadTable rfl) ?_
    repeat walk_at "s"
    refine m_isv (ErrI.mono X0 hE) hx (hk 7 T.C_BadWeight rfl) ?_
    repeat walk_at "s"
    intro pa1 Ha1 na1 xa1 ea1
    repeat walk_at "s"
    refine v_plus_lst (xa1 _ _ eb0) ea1 (szL (Nat.le_of_ble_eq_true rfl)) fun pb1 Hb1 nb1 xb1 eb1 => ?_
    have X1 := xtr X0 (xtr xa1 xb1)
    repeat walk_at "s"
    refine m_isv (ErrI.mono X1 hE) hx (hk 8 T.C_BadSize rfl) ?_
    repeat walk_at "s"
    refine m_isv (ErrI.mono X1 hE) hx (hk 9 T.C_BadText rfl) ?_
    repeat walk_at "s"
    refine m_isv (ErrI.mono X1 hE) hx (hk 10 T.C_UnknownName rfl) ?_
    repeat walk_at "s"
    refine m_isv (ErrI.mono X1 hE) hx (hk 11 T.C_WrongCount rfl) ?_
    repeat walk_at "s"
    intro pa2 Ha2 na2 xa2 ea2
    repeat walk_at "s"
    refine v_plus_lst (xa2 _ _ eb1) ea2 (szL (Nat.le_of_ble_eq_true rfl)) fun pb2 Hb2 nb2 xb2 eb2 => ?_
    have X2 := xtr X1 (xtr xa2 xb2)
    repeat walk_at "s"
    refine m_isv (ErrI.mono X2 hE) hx (hk 12 T.C_WrongSort rfl) ?_
    repeat walk_at "s"
    refine m_isv (ErrI.mono X2 hE) hx (hk 13 T.C_NameBound rfl) ?_
    repeat walk_at "s"
    refine m_isv (ErrI.mono X2 hE) hx (hk 14 T.C_BadLine rfl) ?_
    repeat walk_at "s"
    refine m_isv (ErrI.mono X2 hE) hx (hk 15 T.C_NoClause rfl) ?_
    repeat walk_at "s"
    intro pa3 Ha3 na3 xa3 ea3
    repeat walk_at "s"
    refine v_plus_lst (xa3 _ _ eb2) ea3 (szL (Nat.le_of_ble_eq_true rfl)) fun pb3 Hb3 nb3 xb3 eb3 => ?_
    have X3 := xtr X2 (xtr xa3 xb3)
    repeat walk_at "s"
    refine m_isv (ErrI.mono X3 hE) hx (hk 16 T.C_NotWaiting rfl) ?_
    repeat walk_at "s"
    refine m_isv (ErrI.mono X3 hE) hx (hk 17 T.C_BadStep rfl) ?_
    repeat walk_at "s"
    refine m_isv (ErrI.mono X3 hE) hx (hk 18 T.C_NotUnit rfl) ?_
    repeat walk_at "s"
    refine m_isv (ErrI.mono X3 hE) hx (hk 19 T.C_NotUnits rfl) ?_
    repeat walk_at "s"
    intro pa4 Ha4 na4 xa4 ea4
    repeat walk_at "s"
    refine v_plus_lst (xa4 _ _ eb3) ea4 (szL (Nat.le_of_ble_eq_true rfl)) fun pb4 Hb4 nb4 xb4 eb4 => ?_
    have X4 := xtr X3 (xtr xa4 xb4)
    repeat walk_at "s"
    refine m_isv (ErrI.mono X4 hE) hx (hk 20 T.C_BadClause rfl) ?_
    repeat walk_at "s"
    refine m_isv (ErrI.mono X4 hE) hx (hk 21 T.C_BadPlace rfl) ?_
    repeat walk_at "s"
    refine m_isv (ErrI.mono X4 hE) hx (hk 22 T.C_FilledTwice rfl) ?_
    repeat walk_at "s"
    refine m_isv (ErrI.mono X4 hE) hx (hk 23 T.C_NoSelection rfl) ?_
    repeat walk_at "s"
    intro pa5 Ha5 na5 xa5 ea5
    repeat walk_at "s"
    refine v_plus_lst (xa5 _ _ eb4) ea5 (szL (Nat.le_of_ble_eq_true rfl)) fun pb5 Hb5 nb5 xb5 eb5 => ?_
    have X5 := xtr X4 (xtr xa5 xb5)
    repeat walk_at "s"
    refine m_isv (ErrI.mono X5 hE) hx (hk 24 T.C_TooHeavy rfl) ?_
    repeat walk_at "s"
    refine m_isv (ErrI.mono X5 hE) hx (hk 25 T.C_TooLong rfl) ?_
    repeat walk_at "s"
    refine m_isv (ErrI.mono X5 hE) hx (hk 26 T.C_TooMany rfl) ?_
    repeat walk_at "s"
    refine m_isv (ErrI.mono X5 hE) hx (hk 27 T.C_NoSteps rfl) ?_
    repeat walk_at "s"
    intro pa6 Ha6 na6 xa6 ea6
    repeat walk_at "s"
    refine v_plus_lst (xa6 _ _ eb5) ea6 (szL (Nat.le_of_ble_eq_true rfl)) fun pb6 Hb6 nb6 xb6 eb6 => ?_
    have X6 := xtr X5 (xtr xa6 xb6)
    repeat walk_at "s"
    refine m_isv (ErrI.mono X6 hE) hx (hk 28 T.C_NotRefutation rfl) ?_
    repeat walk_at "s"
    refine m_isv (ErrI.mono X6 hE) hx (hk 29 T.C_RunOver rfl) ?_
    repeat walk_at "s"
    refine m_isv (ErrI.mono X6 hE) hx (hk 30 T.C_GivenDiffer rfl) ?_
    repeat walk_at "s"
    refine m_isv (ErrI.mono X6 hE) hx (hk 31 T.C_NotEnded rfl) ?_
    repeat walk_at "s"
    intro pa7 Ha7 na7 xa7 ea7
    repeat walk_at "s"
    refine v_plus_lst (xa7 _ _ eb6) ea7 (szL (Nat.le_of_ble_eq_true rfl)) fun pb7 Hb7 nb7 xb7 eb7 => ?_
    have X7 := xtr X6 (xtr xa7 xb7)
    repeat walk_at "s"
    exact q _ _ X7 eb7

theorem ok__law_all (T : Top0 P K mg) : FnOk P w K mg base CX0 6 T.f__law_all T.fd__law_all ["values"] (sp__law_all T) := by
  refine T.F__law_all.ok sc__law_all (fun vs H Q E h => ?_) (fun cdv A outer s H vs Q E hr h => ?_)
  · obtain ⟨v, x, y0, y1, y2, y3, rfl, ok, hV, q⟩ := h
    rfl
  · obtain ⟨v, x, y0, y1, y2, y3, rfl, ok, hV, q⟩ := h
    refine ⟨_, (pss_cons (ps_set (i := 1) sc__law_all.nd rfl (Or.inl rfl) (pe_op (r := rPlus K) op_plus (pe_op (r := rPlus K) op_plus (pe_op (r := rPlus K) op_plus (pe_call (ok__law_named T) (hr.mono (by first | decide | exact Nat.le_refl _ | omega | (show _ ≤ _ + n; omega))) (by rfl) T.g__law_named T.F__law_named.kp T.b__law_named .nil pass0 (pa_cons (pe_ix (r := rIx K) ix_seq (pv 0) pe_int (fun _ _ => rfl)) pa_nil)) (pe_call (ok__law_columned T) (hr.mono (by first | decide | exact Nat.le_refl _ | omega | (show _ ≤ _ + n; omega))) (by rfl) T.g__law_columned T.F__law_columned.kp T.b__law_columned .nil pass0 (pa_cons (pe_ix (r := rIx K) ix_seq (pv 0) pe_int (fun _ _ => rfl)) pa_nil))) (pe_call (ok__law_numbered T) (hr.mono (by first | decide | exact Nat.le_refl _ | omega | (show _ ≤ _ + n; omega))) (by rfl) T.g__law_numbered T.F__law_numbered.kp T.b__law_numbered .nil pass0 (pa_cons (pe_ix (r := rIx K) ix_seq (pv 0) pe_int (fun _ _ => rfl)) pa_nil))) (pe_call (ok__law_indexed T) (hr.mono (by first | decide | exact Nat.le_refl _ | omega | (show _ ≤ _ + n; omega))) (by rfl) T.g__law_indexed T.F__law_indexed.kp T.b__law_indexed .nil pass0 (pa_cons (pe_ix (r := rIx K) ix_seq (pv 0) pe_int (fun _ _ => rfl)) pa_nil))))
      (pss_one (ps_ret (pe_op (r := rPlus K) op_plus (pe_op (r := rPlus K) op_plus (pv 1) (pe_call (ok__law_others T) (hr.mono (by first | decide | exact Nat.le_refl _ | omega | (show _ ≤ _ + n; omega))) (by rfl) T.g__law_others T.F__law_others.kp T.b__law_others .nil pass0 (pa_cons (pv 0) pa_nil))) (pe_call0 (ok__law_plain T) (hr.mono (by first | decide | exact Nat.le_refl _ | omega | (show _ ≤ _ + n; omega))) (by rfl) T.g__law_plain T.F__law_plain.kp T.b__law_plain .nil pass0))))), ?_⟩
    have hV0 := hV
    obtain ⟨e0, e3, hd1, hd2, a, rfl, hS⟩ := hV
    have r0 : RepV y0 := .inl ⟨_, e0, ok.z1, Nat.le_trans ok.z2 (by decide)⟩
    have r3 : RepV y3 := .inr ⟨_, e3, Nat.lt_of_lt_of_le (small_log ok.m1 ok.m2) (by decide)⟩
    repeat walk_at "s"
    refine v_ix_l hS (v := y0) rfl ?_
    repeat walk_at "s"
    refine ⟨y0, rfl, r0, fun p1 H1 xs1 x1 h1 s1 => ?_⟩
    repeat walk_at "s"
    refine v_ix_l (xl x1 hS) (v := y3) rfl ?_
    repeat walk_at "s"
    refine ⟨y3, rfl, r3, fun p2 H2 xs2 x2 h2 s2 => ?_⟩
    repeat walk_at "s"
    refine v_plus_lst (x2 _ _ h1) h2 (by rw [s1.len, s2.len]; exact szL (Nat.le_of_ble_eq_true rfl)) fun p3 H3 n3 x3 h3 => ?_
    have s3 := ((s1.mono x2).app s2).mono x3
    have X3 := xtr x1 (xtr x2 x3)
    repeat walk_at "s"
    refine v_ix_l (xl X3 hS) (v := y3) rfl ?_
    repeat walk_at "s"
    refine ⟨y3, rfl, r3, fun p4 H4 xs4 x4 h4 s4 => ?_⟩
    repeat walk_at "s"
    refine v_plus_lst (x4 _ _ h3) h4 (by rw [s3.len, s4.len]; exact szL (Nat.le_of_ble_eq_true rfl)) fun p5 H5 n5 x5 h5 => ?_
    have s5 := ((s3.mono x4).app s4).mono x5
    have X5 := xtr X3 (xtr x4 x5)
    repeat walk_at "s"
    refine v_ix_l (xl X5 hS) (v := y3) rfl ?_
    repeat walk_at "s"
    refine ⟨y3, rfl, r3, fun p6 H6 xs6 x6 h6 s6 => ?_⟩
    repeat walk_at "s"
    refine v_plus_lst (x6 _ _ h5) h6 (by rw [s5.len, s6.len]; exact szL (Nat.le_of_ble_eq_true rfl)) fun p7 H7 n7 x7 h7 => ?_
    have s7 := ((s5.mono x6).app s6).mono x7
    have X7 := xtr X5 (xtr x6 x7)
    repeat walk_at "s"
    refine ⟨_, x, y0, y1, y2, y3, rfl, ok, hV0.mono X7, fun p8 H8 xs8 x8 h8 s8 => ?_⟩
    repeat walk_at "s"
    refine v_plus_lst (x8 _ _ h7) h8 (by rw [s7.len, s8.len]; exact szL (Nat.le_of_ble_eq_true rfl)) fun p9 H9 n9 x9 h9 => ?_
    have s9 := ((s7.mono x8).app s8).mono x9
    repeat walk_at "s"
    refine ⟨rfl, fun pa Ha xsa xa ha sa => ?_⟩
    repeat walk_at "s"
    refine v_plus_lst (xa _ _ h9) ha (by rw [s9.len, sa.len]; exact szL (Nat.le_of_ble_eq_true rfl)) fun pb Hb nb xb hb => ?_
    have sb := ((s9.mono xa).app sa).mono xb
    exact q pb Hb _ (xtr X7 (xtr x8 (xtr x9 (xtr xa xb)))) hb sb

theorem ok_law (T : Top0 P K mg) : FnOkG P w K mg base CX0 10 T.f_law T.fd_law ["script"] (sp_lawK K) := by
  refine okG_of T.F_law sc_law (fun vs H Q E h => ?_) (fun cdv A outer s H vs Q E hg hr h => ?_)
  · obtain ⟨l, ns, rfl, hS, hn, q⟩ := h
    rfl
  · obtain ⟨l, ns, rfl, hS, hn, q⟩ := h
    refine ⟨_, (pss_cons (ps_set (i := 1) sc_law.nd rfl (Or.inl rfl) (pe_call (ok__law_values T) (hr.mono (by first | decide | exact Nat.le_refl _ | omega | (show _ ≤ _ + n; omega))) (by rfl) T.g__law_values T.F__law_values.kp T.b__law_values .nil pass0 (pa_cons (pe_call (ok__law_cell T) (hr.mono (by first | decide | exact Nat.le_refl _ | omega | (show _ ≤ _ + n; omega))) (by rfl) T.g__law_cell T.F__law_cell.kp T.b__law_cell .nil pass0 (pa_cons (pv 0) (pa_cons pe_int pa_nil))) pa_nil)))
      (pss_cons (ps_set (i := 2) sc_law.nd rfl (Or.inl rfl) (pe_call (ok__law_values T) (hr.mono (by first | decide | exact Nat.le_refl _ | omega | (show _ ≤ _ + n; omega))) (by rfl) T.g__law_values T.F__law_values.kp T.b__law_values .nil pass0 (pa_cons (pe_call (ok__law_cell T) (hr.mono (by first | decide | exact Nat.le_refl _ | omega | (show _ ≤ _ + n; omega))) (by rfl) T.g__law_cell T.F__law_cell.kp T.b__law_cell .nil pass0 (pa_cons (pv 0) (pa_cons pe_int pa_nil))) pa_nil)))
      (pss_cons (ps_set (i := 3) sc_law.nd rfl (Or.inl rfl) (pe_call (ok__law_all T) (hr.mono (by first | decide | exact Nat.le_refl _ | omega | (show _ ≤ _ + n; omega))) (by rfl) T.g__law_all T.F__law_all.kp T.b__law_all .nil pass0 (pa_cons (pv 1) pa_nil)))
      (pss_cons (ps_set (i := 4) sc_law.nd rfl (Or.inl rfl) (pe_call (ok__law_all T) (hr.mono (by first | decide | exact Nat.le_refl _ | omega | (show _ ≤ _ + n; omega))) (by rfl) T.g__law_all T.F__law_all.kp T.b__law_all .nil pass0 (pa_cons (pv 2) pa_nil)))
      (pss_cons (ps_if (PW.pt (pw_or (pt_cmpR (r := rNeU K) (op_neU hr) (pe_callB (r := rRepr K) (call_repr hg hr) (by rfl) T.n_repr PyProof.Rows.boot_repr (pa_cons (pe_call (ok__law_fields T) (hr.mono (by first | decide | exact Nat.le_refl _ | omega | (show _ ≤ _ + n; omega))) (by rfl) T.g__law_fields T.F__law_fields.kp T.b__law_fields .nil pass0 (pa_cons (pv 3) pa_nil)) pa_nil)) (pe_callB (r := rRepr K) (call_repr hg hr) (by rfl) T.n_repr PyProof.Rows.boot_repr (pa_cons (pe_call (ok__law_due T) (hr.mono (by first | decide | exact Nat.le_refl _ | omega | (show _ ≤ _ + n; omega))) (by rfl) T.g__law_due T.F__law_due.kp T.b__law_due .nil pass0 (pa_cons (pv 1) pa_nil)) pa_nil)) (nomark _)) (pw_or1 (pt_cmpR (r := rNeU K) (op_neU hr) (pe_callB (r := rRepr K) (call_repr hg hr) (by rfl) T.n_repr PyProof.Rows.boot_repr (pa_cons (pe_call (ok__law_fields T) (hr.mono (by first | decide | exact Nat.le_refl _ | omega | (show _ ≤ _ + n; omega))) (by rfl) T.g__law_fields T.F__law_fields.kp T.b__law_fields .nil pass0 (pa_cons (pv 4) pa_nil)) pa_nil)) (pe_callB (r := rRepr K) (call_repr hg hr) (by rfl) T.n_repr PyProof.Rows.boot_repr (pa_cons (pe_call (ok__law_due T) (hr.mono (by first | decide | exact Nat.le_refl _ | omega | (show _ ≤ _ + n; omega))) (by rfl) T.g__law_due T.F__law_due.kp T.b__law_due .nil pass0 (pa_cons (pv 2) pa_nil)) pa_nil)) (nomark _))))) (pss_one (ps_ret pe_bl)) pss_nil)
      (pss_cons (ps_set (i := 5) sc_law.nd rfl (Or.inl rfl) (pe_op (r := rPlus K) op_plus (pv 3) (pv 4)))
      (pss_cons (ps_for PassesOwn.never rfl (pi_range1 (by rfl) T.n_range (pa_cons (pe_callB (r := rLenU K) call_lenU (by rfl) T.n_len PySem.boot_len (pa_cons (pv 5) pa_nil)) pa_nil)) (pg_name (i := 6) sc_law.nd rfl (Or.inl rfl)) (pss_cons (ps_set (i := 7) sc_law.nd rfl (Or.inl rfl) (pv 6))
      (Evl.pss_cut (ps_if (pt_cmpR op_ge (pv 6) (pe_callB (r := rLenU K) call_lenU (by rfl) T.n_len PySem.boot_len (pa_cons (pv 3) pa_nil)) (nomark _)) (pss_one (ps_set (i := 7) sc_law.nd rfl (Or.inl rfl) (pe_op op_sub (pv 6) (pe_callB (r := rLenU K) call_lenU (by rfl) T.n_len PySem.boot_len (pa_cons (pv 3) pa_nil))))) pss_nil)
      (pss_cons (ps_set (i := 8) sc_law.nd rfl (Or.inl rfl) (pe_call (ok__law_kinds T) (hr.mono (by first | decide | exact Nat.le_refl _ | omega | (show _ ≤ _ + n; omega))) (by rfl) T.g__law_kinds T.F__law_kinds.kp T.b__law_kinds .nil pass0 (pa_cons (pe_ix (r := rIx K) ix_seq (pv 5) (pv 6) (fun _ _ => rfl)) pa_nil)))
      (pss_cons (ps_if (PW.pt (pw_or (pt_cmpR (r := rNeU K) (op_neU hr) (show PE _ _ (tBM K "list" (rCntF K) _ _) from pe_bm PySem.F.plainAttrs_list PySem.F.slot_list_count PySem.F.type_list_count mt_countF (pv 8) (pa_cons pe_bl pa_nil)) pe_int (nomark _)) (pw_or (pt_not (pt_val (pe_ix (r := rIx K) ix_seq (pv 8) (pv 7) (fun _ _ => rfl)))) (pw_or1 (pt_not (pt_val (pe_callB (r := rIsV K) call_isV (by rfl) T.n_isinstance PyProof.Rows.boot_isinstance (pa_cons (pe_ix (r := rIx K) ix_seq (pv 5) (pv 6) (fun _ _ => rfl)) (pa_cons (pe_glob (v := .ref T.C_ClaimError) (by rfl) T.g_ClaimError rfl) pa_nil))))))))) (pss_one (ps_ret pe_bl)) pss_nil)
      (pss_one (ps_if (PW.pt (pw_or (pt_not (pt_val (pe_callB (r := rIsV K) call_isV (by rfl) T.n_isinstance PyProof.Rows.boot_isinstance (pa_cons (pe_ix (r := rIx K) ix_seq (pv 5) (pv 6) (fun _ _ => rfl)) (pa_cons (pe_bltn (v := .ty "ValueError") (by rfl) T.n_ValueError (by decide +kernel) rfl) pa_nil))))) (pw_or1 (pt_cmpR (r := rNeU K) (op_neU hr) (pe_callB (r := rIsV K) call_isV (by rfl) T.n_isinstance PyProof.Rows.boot_isinstance (pa_cons (pe_ix (r := rIx K) ix_seq (pv 5) (pv 6) (fun _ _ => rfl)) (pa_cons (pe_glob (v := .ref T.C_TextError) (by rfl) T.g_TextError rfl) pa_nil))) (pe_and (pe_cmpR op_ge (pv 7) pe_int (nomark _)) (pe_one (pe_cmpR op_lt (pv 7) pe_int (nomark _)))) (nomark _))))) (pss_one (ps_ret pe_bl)) pss_nil)))))))
      (pss_one (ps_ret pe_bl))))))))), ?_⟩
    repeat walk_at "s"
    refine ⟨l, ns, 0, rfl, hS, hn, ⟨by decide, by decide⟩, fun v1 => ?_⟩
    repeat walk_at "s"
    refine ⟨v1, rfl, fun w1 H1 x X1 ok1 d1 => ?_⟩
    repeat walk_at "s"
    refine ⟨l, ns, 1, rfl, xl X1 hS, hn, ⟨by decide, by decide⟩, fun v2 => ?_⟩
    repeat walk_at "s"
    refine ⟨v2, rfl, fun w2 H2 y X2 ok2 d2 => ?_⟩
    obtain ⟨y0, y1, y2, y3, hV1⟩ := VAt.of d1
    obtain ⟨z0, z1, z2, z3, hV2⟩ := VAt.of d2
    repeat walk_at "s"
    refine ⟨w1, x, y0, y1, y2, y3, rfl, ok1, hV1.mono X2, fun p3 H3 xs3 X3 h3 s3 => ?_⟩
    repeat walk_at "s"
    refine ⟨w2, y, z0, z1, z2, z3, rfl, ok2, hV2.mono X3, fun p4 H4 xs4 X4 h4 s4 => ?_⟩
    have h34 := X4 _ _ h3
    have s34 := s3.mono X4
    have hV14 := hV1.mono (xtr X2 (xtr X3 X4))
    have hV24 := hV2.mono (xtr X3 X4)
    repeat walk_at "s"
    refine ⟨p3, xs3, y0, y1, y2, y3, rfl, h34, s34, fun p5 H5 X5 h5 => ?_⟩
    repeat walk_at "s"
    refine rep_due ok1 (hV14.mono X5) h5 ?_
    repeat walk_at "s"
    obtain ⟨_, _, _, _, a1, rfl, hSa⟩ := hV14
    refine ⟨_, a1, y0, y1, y2, y3, rfl, rfl, xl X5 hSa, fun p6 H6 X6 h6 => ?_⟩
    repeat walk_at "s"
    refine rep_due ok1 (hV1.mono (xtr X2 (xtr X3 (xtr X4 (xtr X5 X6))))) h6 ?_
    repeat walk_at "s"
    refine k_ifn (fun hne => absurd rfl hne) (fun _ => ?_)
    have X56 := xtr X5 X6
    repeat walk_at "s"
    refine ⟨p4, xs4, z0, z1, z2, z3, rfl, X56 _ _ h4, s4.mono X56, fun p7 H7 X7 h7 => ?_⟩
    repeat walk_at "s"
    refine rep_due ok2 (hV24.mono (xtr X56 X7)) h7 ?_
    repeat walk_at "s"
    obtain ⟨_, _, _, _, a2, rfl, hSb⟩ := hV24
    refine ⟨_, a2, z0, z1, z2, z3, rfl, rfl, xl (xtr X56 X7) hSb, fun p8 H8 X8 h8 => ?_⟩
    repeat walk_at "s"
    refine rep_due ok2 (hV2.mono (xtr X3 (xtr X4 (xtr X56 (xtr X7 X8))))) h8 ?_
    repeat walk_at "s"
    refine k_ifn (fun hne => absurd rfl hne) (fun _ => ?_)
    have X48 := xtr X56 (xtr X7 X8)
    have l3 : xs3.length = 32 := s3.len
    have l4 : xs4.length = 32 := s4.len
    repeat walk_at "s"
    refine v_plus_lst (X48 _ _ h34) (X48 _ _ h4) (by rw [l3, l4]; exact szL (by decide)) fun p9 H9 n9 X9 h9 => ?_
    have s9 := (s34.mono (xtr X48 X9)).app (s4.mono (xtr X48 X9))
    have l9 : (xs3 ++ xs4).length = 64 := by rw [List.length_append, l3, l4]
    have h39 := X9 _ _ (X48 _ _ h34)
    clear h3 h4 h5 h6 h7 h8 d1 d2 hV1 hV2 hSa hSb h34 s3 s4 s34
    repeat walk_at "s"
    try (with_reducible refine v_len_l (sql h9) ?_)
    try rw [l9]
    repeat walk_at "s"
    refine ⟨by decide, by decide, ?_⟩
    refine for_range (fun i σ' H' => Xt H9 H' ∧ ∃ o1 o2 o3, σ' = [some (.ref l), some (.ref a1), some (.ref a2), some (.ref p3), some (.ref p4), some (.ref p9), o1, o2, o3]) ⟨xrefl _, none, none, none, rfl⟩ ?_ ?_
    · rintro k σ' H' hk ⟨XH, o1, o2, o3, rfl⟩
      have hk2 : k < (xs3 ++ xs4).length := by rw [l9]; exact hk
      obtain ⟨it, hit, heq⟩ := s9.get (List.getElem?_eq_getElem hk2)
      obtain ⟨i, hci, hi32, hie⟩ := two_at T hit
      have hik := kit_at (kit_of T) hci
      have hxc := cl_exc T _ (List.mem_of_getElem? hci)
      have hxk : atI (xs3 ++ xs4) ((k : Nat) : Int) = some (xs3 ++ xs4)[k] := atI_nat (List.getElem?_eq_getElem hk2)
      generalize (xs3 ++ xs4)[k] = ek at heq hxk
      rw [Int.zero_add]
      repeat walk_at "s"
      refine k_cut (fun σ2 H2 => H2 = H' ∧ ∃ (o2 o3 : Option V), σ2 = [some (.ref l), some (.ref a1), some (.ref a2), some (.ref p3), some (.ref p4), some (.ref p9), some (.int (k : Int)), some (.int (i : Int)), o3]) ?_ ?_
      · repeat walk_at "s"
        try (with_reducible refine v_len_l (sql (XH _ _ h39)) ?_)
        try rw [l3]
        repeat walk_at "s"
        refine k_if (fun hge => ?_) (fun hlt => ?_)
        · repeat walk_at "s"
          try (with_reducible refine v_len_l (sql (XH _ _ h39)) ?_)
          try rw [l3]
          repeat walk_at "s"
          rw [if_neg (by omega)] at hie
          exact ⟨rfl, o2, o3, by rw [hie]; rfl⟩
        · repeat walk_at "s"
          rw [if_pos (by omega)] at hie
          exact ⟨rfl, o2, o3, by rw [hie]; rfl⟩
      rintro σ2 H2 ⟨rfl, o2, o3, rfl⟩
      repeat walk_at "s"
      try (with_reducible refine v_ix_l (sql (XH _ _ h9)) hxk ?_)
      repeat walk_at "s"
      refine ⟨ek, it, i, rfl, heq.mono XH, hci, fun pk Hk Xk hkk => ?_⟩
      have hE := heq.mono (xtr XH Xk)
      repeat walk_at "s"
      refine ⟨.inl ⟨rfl, _, sql hkk⟩, pk, _, .bl true, rfl, rfl, sql hkk, rfl, flat_kinds i, ?_⟩
      rw [one_true i hi32]
      repeat walk_at "s"
      repeat walk_at "s"
      try (with_reducible refine v_ix_l (sql hkk) (kinds_at hi32) ?_)
      repeat walk_at "s"
      try (with_reducible refine v_ix_l (sql ((xtr XH Xk) _ _ h9)) hxk ?_)
      repeat walk_at "s"
      refine m_isv hE hxc hik.2.1 ?_
      repeat walk_at "s"
      try (with_reducible refine v_ix_l (sql ((xtr XH Xk) _ _ h9)) hxk ?_)
      repeat walk_at "s"
      refine m_isVE hE hxc hik.2.2.1 ?_
      repeat walk_at "s"
      try (with_reducible refine v_ix_l (sql ((xtr XH Xk) _ _ h9)) hxk ?_)
      repeat walk_at "s"
      refine m_isv hE hxc hik.2.2.2 ?_
      repeat walk_at "s"
      refine k_if (fun h9 => ?_) (fun h9 => ?_)
      · have e : (decide (9 ≤ i) && decide (i < 14)) = decide ((i : Int) < 14) := by
          rw [decide_eq_true (show 9 ≤ i by omega), Bool.true_and]
          exact decide_eq_decide.mpr (by omega)
        rw [e]
        repeat walk_at "s"
        refine k_ifn (fun hne => absurd rfl hne) (fun _ => ?_)
        repeat walk_at "s"
        exact ⟨xtr XH Xk, _, _, _, rfl⟩
      · have e : (decide (9 ≤ i) && decide (i < 14)) = false := by
          rw [decide_eq_false (show ¬ 9 ≤ i by omega), Bool.false_and]
        rw [e]
        repeat walk_at "s"
        exact ⟨xtr XH Xk, _, _, _, rfl⟩
    · rintro σ' H' ⟨XH, o1, o2, o3, rfl⟩
      repeat walk_at "s"
      exact q H'
end
end K09
set_option Elab.async false
set_option linter.all false
set_option maxRecDepth 100000
set_option maxHeartbeats 2000000
namespace K09
open PySem PySem.Spec PyProof.Rows L2 NdefX CW RZ
open PySem.W (fnX)
theorem all_mk {l : PySem.W.OpenLaw} {w : World} {K : PySem.W.Frag} {h : Heap} {mg : Str → Option Value} {fa C_ClaimError C_TextError : Addr} (X : K.In h) (G : h.Ns mainGlobals mg) (hfa : mg "law" = some (.ref fa))
    (nsup : PySem.W.nsIn K mainGlobals "super" = some none)
    (aE_ClaimError : PySem.W.nsIn K mainGlobals "ClaimError" = some (some (.ref C_ClaimError)))
    (aE_TextError : PySem.W.nsIn K mainGlobals "TextError" = some (some (.ref C_TextError)))
    (E_BadName : ErrT l.prog K mg "BadName" s_BadName___init__ "BadName.__init__" "name" "name")
    (E_NameTaken : ErrT l.prog K mg "NameTaken" s_NameTaken___init__ "NameTaken.__init__" "name" "name")
    (E_NoSort : ErrT l.prog K mg "NoSort" s_NoSort___init__ "NoSort.__init__" "name" "name")
    (E_ReservedName : ErrT l.prog K mg "ReservedName" s_ReservedName___init__ "ReservedName.__init__" "name" "name")
    (E_NotSentence : ErrT l.prog K mg "NotSentence" s_NotSentence___init__ "NotSentence.__init__" "name" "name")
    (E_NoAxiom : ErrT l.prog K mg "NoAxiom" s_NoAxiom___init__ "NoAxiom.__init__" "name" "name")
    (E_BadTable : ErrT l.prog K mg "BadTable" s_BadTable___init__ "BadTable.__init__" "name" "name")
    (E_BadWeight : ErrT l.prog K mg "BadWeight" s_BadWeight___init__ "BadWeight.__init__" "name" "name")
    (E_BadSize : ErrT l.prog K mg "BadSize" s_BadSize___init__ "BadSize.__init__" "name" "name")
    (E_BadPlace : ErrT l.prog K mg "BadPlace" s_BadPlace___init__ "BadPlace.__init__" "place" "place")
    (E_FilledTwice : ErrT l.prog K mg "FilledTwice" s_FilledTwice___init__ "FilledTwice.__init__" "variable" "variable")
    (E_NoSelection : ErrT l.prog K mg "NoSelection" s_NoSelection___init__ "NoSelection.__init__" "selection" "selection")
    (E_BadText : ErrT l.prog K mg "BadText" s_BadText___init__ "BadText.__init__" "column" "column")
    (E_UnknownName : ErrT l.prog K mg "UnknownName" s_UnknownName___init__ "UnknownName.__init__" "column" "column")
    (E_WrongCount : ErrT l.prog K mg "WrongCount" s_WrongCount___init__ "WrongCount.__init__" "column" "column")
    (E_WrongSort : ErrT l.prog K mg "WrongSort" s_WrongSort___init__ "WrongSort.__init__" "column" "column")
    (E_NameBound : ErrT l.prog K mg "NameBound" s_NameBound___init__ "NameBound.__init__" "column" "column")
    (E_BadLine : ErrT l.prog K mg "BadLine" s_BadLine___init__ "BadLine.__init__" "number" "number")
    (E_NoClause : ErrT l.prog K mg "NoClause" s_NoClause___init__ "NoClause.__init__" "number" "number")
    (E_NotWaiting : ErrT l.prog K mg "NotWaiting" s_NotWaiting___init__ "NotWaiting.__init__" "number" "number")
    (E_BadStep : ErrT l.prog K mg "BadStep" s_BadStep___init__ "BadStep.__init__" "index" "index")
    (E_NotUnit : ErrT l.prog K mg "NotUnit" s_NotUnit___init__ "NotUnit.__init__" "index" "index")
    (E_NotUnits : ErrT l.prog K mg "NotUnits" s_NotUnits___init__ "NotUnits.__init__" "index" "index")
    (E_BadClause : ErrT l.prog K mg "BadClause" s_BadClause___init__ "BadClause.__init__" "index" "index")
    (E_TooHeavy : ErrT l.prog K mg "TooHeavy" s_TooHeavy___init__ "TooHeavy.__init__" "load" "load")
    (E_TooLong : LeafT K mg "TooLong" VEb "ValueError.__new__")
    (E_TooMany : LeafT K mg "TooMany" VEb "ValueError.__new__")
    (E_NoSteps : LeafT K mg "NoSteps" VEb "ValueError.__new__")
    (E_NotRefutation : LeafT K mg "NotRefutation" VEb "ValueError.__new__")
    (E_RunOver : LeafT K mg "RunOver" VEb "ValueError.__new__")
    (E_GivenDiffer : LeafT K mg "GivenDiffer" VEb "ValueError.__new__")
    (E_NotEnded : LeafT K mg "NotEnded" VEb "ValueError.__new__")
    (kit : kitN K ["BadName", "NameTaken", "NoSort", "ReservedName", "NotSentence", "NoAxiom", "BadTable", "BadWeight", "BadSize", "BadText", "UnknownName", "WrongCount", "WrongSort", "NameBound", "BadLine", "NoClause", "NotWaiting", "BadStep", "NotUnit", "NotUnits", "BadClause", "BadPlace", "FilledTwice", "NoSelection", "TooHeavy", "TooLong", "TooMany", "NoSteps", "NotRefutation", "RunOver", "GivenDiffer", "NotEnded"] = true)
    {od0 an0 : Option Addr} {sl0 : Array (Option Value)} {oc0 kV0 dc0 pm0 cd0 ct0 : Value} {f0 : Addr}
    (a0 : PySem.W.nsIn K mainGlobals "_law_cell" = some (some (.ref f0)))
    (l0 : K.lookup f0 = some ⟨oc0, od0, .func (PySem.W.fnOf "_law_cell" "_law_cell" (defArgs s__law_cell) (defBody s__law_cell) (defScope s__law_cell) .none kV0 dc0 pm0 an0 cd0 ct0), sl0⟩) (c0 : PySem.W.codeIn K cd0 "_law_cell" = true) (k0 : PySem.W.keepIn K (.ref f0) = true)
    {od1 an1 : Option Addr} {sl1 : Array (Option Value)} {oc1 kV1 dc1 pm1 cd1 ct1 : Value} {f1 : Addr}
    (a1 : PySem.W.nsIn K mainGlobals "_law_digits" = some (some (.ref f1)))
    (l1 : K.lookup f1 = some ⟨oc1, od1, .func (PySem.W.fnOf "_law_digits" "_law_digits" (defArgs s__law_digits) (defBody s__law_digits) (defScope s__law_digits) .none kV1 dc1 pm1 an1 cd1 ct1), sl1⟩) (c1 : PySem.W.codeIn K cd1 "_law_digits" = true) (k1 : PySem.W.keepIn K (.ref f1) = true)
    {od2 an2 : Option Addr} {sl2 : Array (Option Value)} {oc2 kV2 dc2 pm2 cd2 ct2 : Value} {f2 : Addr}
    (a2 : PySem.W.nsIn K mainGlobals "_law_text" = some (some (.ref f2)))
    (l2 : K.lookup f2 = some ⟨oc2, od2, .func (PySem.W.fnOf "_law_text" "_law_text" (defArgs s__law_text) (defBody s__law_text) (defScope s__law_text) .none kV2 dc2 pm2 an2 cd2 ct2), sl2⟩) (c2 : PySem.W.codeIn K cd2 "_law_text" = true) (k2 : PySem.W.keepIn K (.ref f2) = true)
    {od3 an3 : Option Addr} {sl3 : Array (Option Value)} {oc3 kV3 dc3 pm3 cd3 ct3 : Value} {f3 : Addr}
    (a3 : PySem.W.nsIn K mainGlobals "_law_values" = some (some (.ref f3)))
    (l3 : K.lookup f3 = some ⟨oc3, od3, .func (PySem.W.fnOf "_law_values" "_law_values" (defArgs s__law_values) (defBody s__law_values) (defScope s__law_values) .none kV3 dc3 pm3 an3 cd3 ct3), sl3⟩) (c3 : PySem.W.codeIn K cd3 "_law_values" = true) (k3 : PySem.W.keepIn K (.ref f3) = true)
    {od4 an4 : Option Addr} {sl4 : Array (Option Value)} {oc4 kV4 dc4 pm4 cd4 ct4 : Value} {f4 : Addr}
    (a4 : PySem.W.nsIn K mainGlobals "_law_named" = some (some (.ref f4)))
    (l4 : K.lookup f4 = some ⟨oc4, od4, .func (PySem.W.fnOf "_law_named" "_law_named" (defArgs s__law_named) (defBody s__law_named) (defScope s__law_named) .none kV4 dc4 pm4 an4 cd4 ct4), sl4⟩) (c4 : PySem.W.codeIn K cd4 "_law_named" = true) (k4 : PySem.W.keepIn K (.ref f4) = true)
    {od5 an5 : Option Addr} {sl5 : Array (Option Value)} {oc5 kV5 dc5 pm5 cd5 ct5 : Value} {f5 : Addr}
    (a5 : PySem.W.nsIn K mainGlobals "_law_columned" = some (some (.ref f5)))
    (l5 : K.lookup f5 = some ⟨oc5, od5, .func (PySem.W.fnOf "_law_columned" "_law_columned" (defArgs s__law_columned) (defBody s__law_columned) (defScope s__law_columned) .none kV5 dc5 pm5 an5 cd5 ct5), sl5⟩) (c5 : PySem.W.codeIn K cd5 "_law_columned" = true) (k5 : PySem.W.keepIn K (.ref f5) = true)
    {od6 an6 : Option Addr} {sl6 : Array (Option Value)} {oc6 kV6 dc6 pm6 cd6 ct6 : Value} {f6 : Addr}
    (a6 : PySem.W.nsIn K mainGlobals "_law_numbered" = some (some (.ref f6)))
    (l6 : K.lookup f6 = some ⟨oc6, od6, .func (PySem.W.fnOf "_law_numbered" "_law_numbered" (defArgs s__law_numbered) (defBody s__law_numbered) (defScope s__law_numbered) .none kV6 dc6 pm6 an6 cd6 ct6), sl6⟩) (c6 : PySem.W.codeIn K cd6 "_law_numbered" = true) (k6 : PySem.W.keepIn K (.ref f6) = true)
    {od7 an7 : Option Addr} {sl7 : Array (Option Value)} {oc7 kV7 dc7 pm7 cd7 ct7 : Value} {f7 : Addr}
    (a7 : PySem.W.nsIn K mainGlobals "_law_indexed" = some (some (.ref f7)))
    (l7 : K.lookup f7 = some ⟨oc7, od7, .func (PySem.W.fnOf "_law_indexed" "_law_indexed" (defArgs s__law_indexed) (defBody s__law_indexed) (defScope s__law_indexed) .none kV7 dc7 pm7 an7 cd7 ct7), sl7⟩) (c7 : PySem.W.codeIn K cd7 "_law_indexed" = true) (k7 : PySem.W.keepIn K (.ref f7) = true)
    {od8 an8 : Option Addr} {sl8 : Array (Option Value)} {oc8 kV8 dc8 pm8 cd8 ct8 : Value} {f8 : Addr}
    (a8 : PySem.W.nsIn K mainGlobals "_law_others" = some (some (.ref f8)))
    (l8 : K.lookup f8 = some ⟨oc8, od8, .func (PySem.W.fnOf "_law_others" "_law_others" (defArgs s__law_others) (defBody s__law_others) (defScope s__law_others) .none kV8 dc8 pm8 an8 cd8 ct8), sl8⟩) (c8 : PySem.W.codeIn K cd8 "_law_others" = true) (k8 : PySem.W.keepIn K (.ref f8) = true)
    {od9 an9 : Option Addr} {sl9 : Array (Option Value)} {oc9 kV9 dc9 pm9 cd9 ct9 : Value} {f9 : Addr}
    (a9 : PySem.W.nsIn K mainGlobals "_law_plain" = some (some (.ref f9)))
    (l9 : K.lookup f9 = some ⟨oc9, od9, .func (PySem.W.fnOf "_law_plain" "_law_plain" (defArgs s__law_plain) (defBody s__law_plain) (defScope s__law_plain) .none kV9 dc9 pm9 an9 cd9 ct9), sl9⟩) (c9 : PySem.W.codeIn K cd9 "_law_plain" = true) (k9 : PySem.W.keepIn K (.ref f9) = true)
    {od10 an10 : Option Addr} {sl10 : Array (Option Value)} {oc10 kV10 dc10 pm10 cd10 ct10 : Value} {f10 : Addr}
    (a10 : PySem.W.nsIn K mainGlobals "_law_all" = some (some (.ref f10)))
    (l10 : K.lookup f10 = some ⟨oc10, od10, .func (PySem.W.fnOf "_law_all" "_law_all" (defArgs s__law_all) (defBody s__law_all) (defScope s__law_all) .none kV10 dc10 pm10 an10 cd10 ct10), sl10⟩) (c10 : PySem.W.codeIn K cd10 "_law_all" = true) (k10 : PySem.W.keepIn K (.ref f10) = true)
    {od11 an11 : Option Addr} {sl11 : Array (Option Value)} {oc11 kV11 dc11 pm11 cd11 ct11 : Value} {f11 : Addr}
    (a11 : PySem.W.nsIn K mainGlobals "_law_kinds" = some (some (.ref f11)))
    (l11 : K.lookup f11 = some ⟨oc11, od11, .func (PySem.W.fnOf "_law_kinds" "_law_kinds" (defArgs s__law_kinds) (defBody s__law_kinds) (defScope s__law_kinds) .none kV11 dc11 pm11 an11 cd11 ct11), sl11⟩) (c11 : PySem.W.codeIn K cd11 "_law_kinds" = true) (k11 : PySem.W.keepIn K (.ref f11) = true)
    {od12 an12 : Option Addr} {sl12 : Array (Option Value)} {oc12 kV12 dc12 pm12 cd12 ct12 : Value} {f12 : Addr}
    (a12 : PySem.W.nsIn K mainGlobals "_law_fields" = some (some (.ref f12)))
    (l12 : K.lookup f12 = some ⟨oc12, od12, .func (PySem.W.fnOf "_law_fields" "_law_fields" (defArgs s__law_fields) (defBody s__law_fields) (defScope s__law_fields) .none kV12 dc12 pm12 an12 cd12 ct12), sl12⟩) (c12 : PySem.W.codeIn K cd12 "_law_fields" = true) (k12 : PySem.W.keepIn K (.ref f12) = true)
    {od13 an13 : Option Addr} {sl13 : Array (Option Value)} {oc13 kV13 dc13 pm13 cd13 ct13 : Value} {f13 : Addr}
    (a13 : PySem.W.nsIn K mainGlobals "_law_due" = some (some (.ref f13)))
    (l13 : K.lookup f13 = some ⟨oc13, od13, .func (PySem.W.fnOf "_law_due" "_law_due" (defArgs s__law_due) (defBody s__law_due) (defScope s__law_due) .none kV13 dc13 pm13 an13 cd13 ct13), sl13⟩) (c13 : PySem.W.codeIn K cd13 "_law_due" = true) (k13 : PySem.W.keepIn K (.ref f13) = true)
    {od14 an14 : Option Addr} {sl14 : Array (Option Value)} {oc14 kV14 dc14 pm14 cd14 ct14 : Value} {f14 : Addr}
    (a14 : PySem.W.nsIn K mainGlobals "law" = some (some (.ref f14)))
    (l14 : K.lookup f14 = some ⟨oc14, od14, .func (PySem.W.fnOf "law" "law" (defArgs s_law) (defBody s_law) (defScope s_law) .none kV14 dc14 pm14 an14 cd14 ct14), sl14⟩) (c14 : PySem.W.codeIn K cd14 "law" = true) (k14 : PySem.W.keepIn K (.ref f14) = true)
    (n_ValueError : PySem.W.nsIn K mainGlobals "ValueError" = some none)
    (n_int : PySem.W.nsIn K mainGlobals "int" = some none)
    (n_isinstance : PySem.W.nsIn K mainGlobals "isinstance" = some none)
    (n_len : PySem.W.nsIn K mainGlobals "len" = some none)
    (n_range : PySem.W.nsIn K mainGlobals "range" = some none)
    (n_repr : PySem.W.nsIn K mainGlobals "repr" = some none)
    (n_str : PySem.W.nsIn K mainGlobals "str" = some none)
    (n_tuple : PySem.W.nsIn K mainGlobals "tuple" = some none)
    : ∃ fd : FuncData, (∀ (s : Shared) (v : Value), BindsTo s fd ⟨[v], []⟩ [("script", v)]) ∧ ∀ base : Heap, K.In base → base.Ns mainGlobals mg → FnOkG l.prog w K mg base CX0 10 fa fd ["script"] (sp_lawK K) := by
  have e := hfa.symm.trans (PySem.W.mg_of X G a14)
  cases e
  have F0 := fun_mk (st := s__law_cell) l0 c0 k0
  have F1 := fun_mk (st := s__law_digits) l1 c1 k1
  have F2 := fun_mk (st := s__law_text) l2 c2 k2
  have F3 := fun_mk (st := s__law_values) l3 c3 k3
  have F4 := fun_mk (st := s__law_named) l4 c4 k4
  have F5 := fun_mk (st := s__law_columned) l5 c5 k5
  have F6 := fun_mk (st := s__law_numbered) l6 c6 k6
  have F7 := fun_mk (st := s__law_indexed) l7 c7 k7
  have F8 := fun_mk (st := s__law_others) l8 c8 k8
  have F9 := fun_mk (st := s__law_plain) l9 c9 k9
  have F10 := fun_mk (st := s__law_all) l10 c10 k10
  have F11 := fun_mk (st := s__law_kinds) l11 c11 k11
  have F12 := fun_mk (st := s__law_fields) l12 c12 k12
  have F13 := fun_mk (st := s__law_due) l13 c13 k13
  have F14 := fun_mk (st := s_law) l14 c14 k14
  let T : Top0 l.prog K mg := { C_ClaimError := C_ClaimError, a_ClaimError := aE_ClaimError, g_ClaimError := PySem.W.mg_of X G aE_ClaimError, C_TextError := C_TextError, a_TextError := aE_TextError, g_TextError := PySem.W.mg_of X G aE_TextError, E_BadName := E_BadName, E_NameTaken := E_NameTaken, E_NoSort := E_NoSort, E_ReservedName := E_ReservedName, E_NotSentence := E_NotSentence, E_NoAxiom := E_NoAxiom, E_BadTable := E_BadTable, E_BadWeight := E_BadWeight, E_BadSize := E_BadSize, E_BadPlace := E_BadPlace, E_FilledTwice := E_FilledTwice, E_NoSelection := E_NoSelection, E_BadText := E_BadText, E_UnknownName := E_UnknownName, E_WrongCount := E_WrongCount, E_WrongSort := E_WrongSort, E_NameBound := E_NameBound, E_BadLine := E_BadLine, E_NoClause := E_NoClause, E_NotWaiting := E_NotWaiting, E_BadStep := E_BadStep, E_NotUnit := E_NotUnit, E_NotUnits := E_NotUnits, E_BadClause := E_BadClause, E_TooHeavy := E_TooHeavy, E_TooLong := E_TooLong, E_TooMany := E_TooMany, E_NoSteps := E_NoSteps, E_NotRefutation := E_NotRefutation, E_RunOver := E_RunOver, E_GivenDiffer := E_GivenDiffer, E_NotEnded := E_NotEnded, kit := kit, n_super := PySem.W.mg_none_of X G nsup, f__law_cell := f0, fd__law_cell := _, F__law_cell := F0, b__law_cell := F0.binds (ps := ["script", "k"]) (fun _ _ _ _ _ _ us hl => match us, hl with | [_, _], _ => rfl), g__law_cell := PySem.W.mg_of X G a0, f__law_digits := f1, fd__law_digits := _, F__law_digits := F1, b__law_digits := F1.binds (ps := ["cell", "sizes"]) (fun _ _ _ _ _ _ us hl => match us, hl with | [_, _], _ => rfl), g__law_digits := PySem.W.mg_of X G a1, f__law_text := f2, fd__law_text := _, F__law_text := F2, b__law_text := F2.binds (ps := ["row"]) (fun _ _ _ _ _ _ us hl => match us, hl with | [_], _ => rfl), g__law_text := PySem.W.mg_of X G a2, f__law_values := f3, fd__law_values := _, F__law_values := F3, b__law_values := F3.binds (ps := ["cell"]) (fun _ _ _ _ _ _ us hl => match us, hl with | [_], _ => rfl), g__law_values := PySem.W.mg_of X G a3, f__law_named := f4, fd__law_named := _, F__law_named := F4, b__law_named := F4.binds (ps := ["text"]) (fun _ _ _ _ _ _ us hl => match us, hl with | [_], _ => rfl), g__law_named := PySem.W.mg_of X G a4, f__law_columned := f5, fd__law_columned := _, F__law_columned := F5, b__law_columned := F5.binds (ps := ["number"]) (fun _ _ _ _ _ _ us hl => match us, hl with | [_], _ => rfl), g__law_columned := PySem.W.mg_of X G a5, f__law_numbered := f6, fd__law_numbered := _, F__law_numbered := F6, b__law_numbered := F6.binds (ps := ["number"]) (fun _ _ _ _ _ _ us hl => match us, hl with | [_], _ => rfl), g__law_numbered := PySem.W.mg_of X G a6, f__law_indexed := f7, fd__law_indexed := _, F__law_indexed := F7, b__law_indexed := F7.binds (ps := ["number"]) (fun _ _ _ _ _ _ us hl => match us, hl with | [_], _ => rfl), g__law_indexed := PySem.W.mg_of X G a7, f__law_others := f8, fd__law_others := _, F__law_others := F8, b__law_others := F8.binds (ps := ["values"]) (fun _ _ _ _ _ _ us hl => match us, hl with | [_], _ => rfl), g__law_others := PySem.W.mg_of X G a8, f__law_plain := f9, fd__law_plain := _, F__law_plain := F9, b__law_plain := F9.binds (ps := []) (fun _ _ _ _ _ _ us hl => match us, hl with | [], _ => rfl), g__law_plain := PySem.W.mg_of X G a9, f__law_all := f10, fd__law_all := _, F__law_all := F10, b__law_all := F10.binds (ps := ["values"]) (fun _ _ _ _ _ _ us hl => match us, hl with | [_], _ => rfl), g__law_all := PySem.W.mg_of X G a10, f__law_kinds := f11, fd__law_kinds := _, F__law_kinds := F11, b__law_kinds := F11.binds (ps := ["e"]) (fun _ _ _ _ _ _ us hl => match us, hl with | [_], _ => rfl), g__law_kinds := PySem.W.mg_of X G a11, f__law_fields := f12, fd__law_fields := _, F__law_fields := F12, b__law_fields := F12.binds (ps := ["made"]) (fun _ _ _ _ _ _ us hl => match us, hl with | [_], _ => rfl), g__law_fields := PySem.W.mg_of X G a12, f__law_due := f13, fd__law_due := _, F__law_due := F13, b__law_due := F13.binds (ps := ["values"]) (fun _ _ _ _ _ _ us hl => match us, hl with | [_], _ => rfl), g__law_due := PySem.W.mg_of X G a13, f_law := fa, fd_law := _, F_law := F14, b_law := F14.binds (ps := ["script"]) (fun _ _ _ _ _ _ us hl => match us, hl with | [_], _ => rfl), g_law := PySem.W.mg_of X G a14, n_ValueError := PySem.W.mg_none_of X G n_ValueError, n_int := PySem.W.mg_none_of X G n_int, n_isinstance := PySem.W.mg_none_of X G n_isinstance, n_len := PySem.W.mg_none_of X G n_len, n_range := PySem.W.mg_none_of X G n_range, n_repr := PySem.W.mg_none_of X G n_repr, n_str := PySem.W.mg_none_of X G n_str, n_tuple := PySem.W.mg_none_of X G n_tuple }
  exact ⟨_, fun s v => .of_eq rfl, fun base _ _ => ok_law T⟩
end K09

open PySem PySem.W PyProof.Rows
set_option hygiene false in
local macro_rules | `(tactic| walk_at "mk_err") => `(tactic| (refine' CW.errT_mk kX kG kB ?e1 ?e2 ?e3 ?e4 ?e5 ?e6 ?e7 ?e8 ?e9 ?f1 ?f2 ?f3 ?f4 ?f5 ?f6 ?f7 ?f8 ?f9 ?g1 ?g2 ?g3 ?r1 ?r2 ?r3 ?r4 ⟨_, rfl, rfl⟩ (fun us hl => match us, hl with | [_, _], _ => rfl); (case e1 => as_aux_lemma => k_is); (case e2 => as_aux_lemma => k_is); (case e3 => as_aux_lemma => k_is); (case e4 => as_aux_lemma => k_is); (case e5 => as_aux_lemma => k_is); (case e6 => as_aux_lemma => k_is); (case e7 => as_aux_lemma => k_is); (case e8 => as_aux_lemma => k_is); (case e9 => as_aux_lemma => k_is); (case f1 => as_aux_lemma => k_is); (case f2 => as_aux_lemma => k_is); (case f3 => as_aux_lemma => k_is); (case f4 => as_aux_lemma => k_is); (case f5 => as_aux_lemma => k_is); (case f6 => as_aux_lemma => k_is); (case f7 => as_aux_lemma => k_is); (case f8 => as_aux_lemma => k_is); (case f9 => as_aux_lemma => k_is); (case g1 => as_aux_lemma => k_is); (case g2 => as_aux_lemma => k_is); (case g3 => as_aux_lemma => k_is); (case r1 => rfl); (case r2 => rfl); (case r3 => kernel_rfl); (case r4 => kernel_rfl)))
set_option hygiene false in
local macro_rules | `(tactic| walk_at "mk_leaf") => `(tactic| (refine' CW.leafT_mk kX kG kB ?e1 ?e2 ?e4 ?f8 ?f9 ?g1 ?g2 ?g3 ?r1; (case e1 => as_aux_lemma => k_is); (case e2 => as_aux_lemma => k_is); (case e4 => as_aux_lemma => k_is); (case f8 => as_aux_lemma => k_is); (case f9 => as_aux_lemma => k_is); (case g1 => as_aux_lemma => k_is); (case g2 => as_aux_lemma => k_is); (case g3 => as_aux_lemma => k_is); (case r1 => kernel_rfl)))

set_option maxRecDepth 100000 in
set_option maxHeartbeats 0 in
theorem PySem.Challenge.cw_claimworlds_k09_errors_made_holds : PySem.Challenge.rw_claimworlds_k09_errors_made.Holds := by
  w_on; o_law; k_headL; (case hw => w_witness2)
  k_fill
  refine CW.walk_ofG (l := PySem.Challenge.rw_claimworlds_k09_errors_made) (n := 63) (k := 10) (x := "script") (sp := fun w => K09.sp_lawK _) rfl (by decide) rfl ⟨rfl, by decide, by decide⟩ (fun w h Y => PySem.W.kIn_of Y) ?F (fun _ _ a ns hl _ hS => ⟨a, ns, rfl, hS, hl, fun _ => rfl⟩)
  case F =>
    intro w mg fa h KX G hmg
    have kB : CW.ErrAll (PySem.Challenge.rw_claimworlds_k09_errors_made).prog _ mg := CW.errAll_mk KX (by k_is) (by k_is) (by k_is) rfl
    have kX := KX
    have kG := G
    refine' K09.all_mk (l := PySem.Challenge.rw_claimworlds_k09_errors_made) KX G hmg ?nsup ?aE_ClaimError ?aE_TextError ?E_BadName ?E_NameTaken ?E_NoSort ?E_ReservedName ?E_NotSentence ?E_NoAxiom ?E_BadTable ?E_BadWeight ?E_BadSize ?E_BadPlace ?E_FilledTwice ?E_NoSelection ?E_BadText ?E_UnknownName ?E_WrongCount ?E_WrongSort ?E_NameBound ?E_BadLine ?E_NoClause ?E_NotWaiting ?E_BadStep ?E_NotUnit ?E_NotUnits ?E_BadClause ?E_TooHeavy ?E_TooLong ?E_TooMany ?E_NoSteps ?E_NotRefutation ?E_RunOver ?E_GivenDiffer ?E_NotEnded ?kit ?a0 ?l0 ?c0 ?k0 ?a1 ?l1 ?c1 ?k1 ?a2 ?l2 ?c2 ?k2 ?a3 ?l3 ?c3 ?k3 ?a4 ?l4 ?c4 ?k4 ?a5 ?l5 ?c5 ?k5 ?a6 ?l6 ?c6 ?k6 ?a7 ?l7 ?c7 ?k7 ?a8 ?l8 ?c8 ?k8 ?a9 ?l9 ?c9 ?k9 ?a10 ?l10 ?c10 ?k10 ?a11 ?l11 ?c11 ?k11 ?a12 ?l12 ?c12 ?k12 ?a13 ?l13 ?c13 ?k13 ?a14 ?l14 ?c14 ?k14 ?n_ValueError ?n_int ?n_isinstance ?n_len ?n_range ?n_repr ?n_str ?n_tuple
    (case nsup => as_aux_lemma => k_is)
    (case aE_ClaimError => as_aux_lemma => k_is)
    (case aE_TextError => as_aux_lemma => k_is)
    (case a0 => as_aux_lemma => k_is)
    (case l0 => as_aux_lemma => k_is)
    (case c0 => as_aux_lemma => k_is)
    (case k0 => as_aux_lemma => k_is)
    (case a1 => as_aux_lemma => k_is)
    (case l1 => as_aux_lemma => k_is)
    (case c1 => as_aux_lemma => k_is)
    (case k1 => as_aux_lemma => k_is)
    (case a2 => as_aux_lemma => k_is)
    (case l2 => as_aux_lemma => k_is)
    (case c2 => as_aux_lemma => k_is)
    (case k2 => as_aux_lemma => k_is)
    (case a3 => as_aux_lemma => k_is)
    (case l3 => as_aux_lemma => k_is)
    (case c3 => as_aux_lemma => k_is)
    (case k3 => as_aux_lemma => k_is)
    (case a4 => as_aux_lemma => k_is)
    (case l4 => as_aux_lemma => k_is)
    (case c4 => as_aux_lemma => k_is)
    (case k4 => as_aux_lemma => k_is)
    (case a5 => as_aux_lemma => k_is)
    (case l5 => as_aux_lemma => k_is)
    (case c5 => as_aux_lemma => k_is)
    (case k5 => as_aux_lemma => k_is)
    (case a6 => as_aux_lemma => k_is)
    (case l6 => as_aux_lemma => k_is)
    (case c6 => as_aux_lemma => k_is)
    (case k6 => as_aux_lemma => k_is)
    (case a7 => as_aux_lemma => k_is)
    (case l7 => as_aux_lemma => k_is)
    (case c7 => as_aux_lemma => k_is)
    (case k7 => as_aux_lemma => k_is)
    (case a8 => as_aux_lemma => k_is)
    (case l8 => as_aux_lemma => k_is)
    (case c8 => as_aux_lemma => k_is)
    (case k8 => as_aux_lemma => k_is)
    (case a9 => as_aux_lemma => k_is)
    (case l9 => as_aux_lemma => k_is)
    (case c9 => as_aux_lemma => k_is)
    (case k9 => as_aux_lemma => k_is)
    (case a10 => as_aux_lemma => k_is)
    (case l10 => as_aux_lemma => k_is)
    (case c10 => as_aux_lemma => k_is)
    (case k10 => as_aux_lemma => k_is)
    (case a11 => as_aux_lemma => k_is)
    (case l11 => as_aux_lemma => k_is)
    (case c11 => as_aux_lemma => k_is)
    (case k11 => as_aux_lemma => k_is)
    (case a12 => as_aux_lemma => k_is)
    (case l12 => as_aux_lemma => k_is)
    (case c12 => as_aux_lemma => k_is)
    (case k12 => as_aux_lemma => k_is)
    (case a13 => as_aux_lemma => k_is)
    (case l13 => as_aux_lemma => k_is)
    (case c13 => as_aux_lemma => k_is)
    (case k13 => as_aux_lemma => k_is)
    (case a14 => as_aux_lemma => k_is)
    (case l14 => as_aux_lemma => k_is)
    (case c14 => as_aux_lemma => k_is)
    (case k14 => as_aux_lemma => k_is)
    (case n_ValueError => as_aux_lemma => k_is)
    (case n_int => as_aux_lemma => k_is)
    (case n_isinstance => as_aux_lemma => k_is)
    (case n_len => as_aux_lemma => k_is)
    (case n_range => as_aux_lemma => k_is)
    (case n_repr => as_aux_lemma => k_is)
    (case n_str => as_aux_lemma => k_is)
    (case n_tuple => as_aux_lemma => k_is)
    (case E_BadName => walk_at "mk_err")
    (case E_NameTaken => walk_at "mk_err")
    (case E_NoSort => walk_at "mk_err")
    (case E_ReservedName => walk_at "mk_err")
    (case E_NotSentence => walk_at "mk_err")
    (case E_NoAxiom => walk_at "mk_err")
    (case E_BadTable => walk_at "mk_err")
    (case E_BadWeight => walk_at "mk_err")
    (case E_BadSize => walk_at "mk_err")
    (case E_BadPlace => walk_at "mk_err")
    (case E_FilledTwice => walk_at "mk_err")
    (case E_NoSelection => walk_at "mk_err")
    (case E_BadText => walk_at "mk_err")
    (case E_UnknownName => walk_at "mk_err")
    (case E_WrongCount => walk_at "mk_err")
    (case E_WrongSort => walk_at "mk_err")
    (case E_NameBound => walk_at "mk_err")
    (case E_BadLine => walk_at "mk_err")
    (case E_NoClause => walk_at "mk_err")
    (case E_NotWaiting => walk_at "mk_err")
    (case E_BadStep => walk_at "mk_err")
    (case E_NotUnit => walk_at "mk_err")
    (case E_NotUnits => walk_at "mk_err")
    (case E_BadClause => walk_at "mk_err")
    (case E_TooHeavy => walk_at "mk_err")
    (case E_TooLong => walk_at "mk_leaf")
    (case E_TooMany => walk_at "mk_leaf")
    (case E_NoSteps => walk_at "mk_leaf")
    (case E_NotRefutation => walk_at "mk_leaf")
    (case E_RunOver => walk_at "mk_leaf")
    (case E_GivenDiffer => walk_at "mk_leaf")
    (case E_NotEnded => walk_at "mk_leaf")
    (case kit => kernel_rfl)



