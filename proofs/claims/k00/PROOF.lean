import PyProof.Rows.All
import Wide.All
import OpenK.AllK
import Wide.FinOn
import HandS.ForMost
import HandS.Evl
import HandS.Steps
import HandS.Wide
import HandS.IsInst
import HandS.Defaults
import HandS.Style
import HandS.Codes
import HandS.Walk
import HandS.Flow
import HandS.TupAny
import KE.KxText
import HandS.DictComp
import HandS.Zip
import HandS.Conv
import HandS.Deep
import PyProof.AutoSeq1
import PyProof.Rows.StrDouble
import KE.KStrOpen
import KE.KExcSuper
import KE.KSuper
import HandS.ExcInit
import HandS.NestedK
import HandS.FStr
import HandS.ExcValue
import HandS.ExcField
import HandS.ExcIs
import KE.KExcIs
import HandS.ExcOwn
import HandS.WordsExc
import HandS.TryOnly
import HandS.SetFor
import HandS.MakeKwOnly
import HandS.FStrTup
import PyProof.ReprLen
import KE.KIntText
import KE.OsRunLaw
import PySem.Challenge.RW_claimworlds_k00_vocabularies_made
set_option Elab.async false
set_option linter.all false
set_option maxRecDepth 100000
set_option maxHeartbeats 1000000
namespace CW
open PySem PySem.Spec PyProof.Rows L2

/-! heaps that grow -/
abbrev Xt (H H' : Hp) : Prop := ∀ a o, H a = some o → H' a = some o
theorem xrefl (H : Hp) : Xt H H := fun _ _ h => h
theorem xtr {H H1 H2 : Hp} (a : Xt H H1) (b : Xt H1 H2) : Xt H H2 := fun x o h => b x o (a x o h)
theorem xnew {H : Hp} {p : Addr} {o : HO} (h : H p = none) : Xt H (upd H p o) := fun a u e => by
  rw [upd_ne (ne_of_none e h)]; exact e
theorem xmut {H H' : Hp} {p : Addr} {o : HO} (e : Xt H H') (h : H p = none) : Xt H (upd H' p o) := fun a u ha => by
  rw [upd_ne (ne_of_none ha h)]; exact e a u ha
theorem xfree {H H' : Hp} {p : Addr} (e : Xt H H') (h : H' p = none) : H p = none := by
  cases h1 : H p with
  | none => rfl
  | some o => rw [e p o h1] at h; cases h
theorem xl {K : PySem.W.Frag} {H H' : Hp} {a : Addr} {xs : List V} (e : Xt H H') (h : SqL K H a xs) : SqL K H' a xs := by
  rcases h with (h | ⟨o, h⟩) | h
  · exact .inl (.inl (e _ _ h))
  · exact .inl (.inr ⟨o, e _ _ h⟩)
  · exact .inr h
theorem xt {K : PySem.W.Frag} {H H' : Hp} {a : Addr} {xs : List V} (e : Xt H H') (h : SqT K H a xs) : SqT K H' a xs := by
  rcases h with (h | ⟨o, h⟩) | h
  · exact .inl (.inl (e _ _ h))
  · exact .inl (.inr ⟨o, e _ _ h⟩)
  · exact .inr h
theorem sql {K : PySem.W.Frag} {H : Hp} {a : Addr} {xs : List V} (h : H a = some (.lst xs)) : SqL K H a xs := .inl (.inl h)
theorem sqt {K : PySem.W.Frag} {H : Hp} {a : Addr} {xs : List V} (h : H a = some (.tup xs)) : SqT K H a xs := .inl (.inl h)
theorem szle {n : Nat} (h : n ≤ 100000) : n ≤ sizeLine := Nat.le_trans h (by decide)
theorem szlt {n : Nat} (h : n < 100000) : n < sizeLine := Nat.lt_of_lt_of_le h (by decide)

/-! steps -/
section
variable {K : PySem.W.Frag} {σ : L2.St} {H : Hp} {Q : VK} {D : Ends} {t u : TS} {te ta tb tc : TE} {tt tw : TT} {g : TG} {i : Nat} {v x y : V} {r : R2}
theorem k_seq (h : t { D with nx := u D } σ H) : tSeq t u D σ H := h
theorem k_next (h : D.nx σ H) : tNext D σ H := h
theorem k_asg (h : te σ H fun x H1 => g x σ H1 D.nx) : tAsg te g D σ H := h
theorem k_name {R : L2.St → Hp → Prop} (h : R (σ.set i (some v)) H) : gName i v σ H R := h
theorem k_drop (h : te σ H fun _ H1 => D.nx σ H1) : tDrop te D σ H := h
theorem k_ret (h : te σ H D.rt) : tRet te D σ H := h
theorem k_ifs (h : tt σ H fun b H1 => if b = true then t D σ H1 else u D σ H1) : tIfS tt t u D σ H := h
theorem k_var (h : σ[i]? = some (some v)) (q : Q v H) : tVar i σ H Q := ⟨v, h, q⟩
theorem k_c (q : Q v H) : tC v σ H Q := q
theorem k_op (h : ta σ H fun x H1 => tb σ H1 fun y H2 => r x y H2 Q) : tOp r ta tb σ H Q := h
theorem k_un {r : V → Hp → VK → Prop} (h : ta σ H fun x H1 => r x H1 Q) : tUn r ta σ H Q := h
theorem k_cons {tr : TA} {R : List V → Hp → Prop} (h : ta σ H fun x H1 => tr σ H1 fun xs H2 => R (x :: xs) H2) : tCons ta tr σ H R := h
theorem k_nil {R : List V → Hp → Prop} (h : R [] H) : tNil σ H R := h
theorem k_cb {rr : List V → Hp → VK → Prop} {ts : TA} (h : ts σ H fun vs H1 => rr vs H1 Q) : tCB rr ts σ H Q := h
theorem k_call {sp : Sp} {dvs : List V} {E : XK} {ts : TA} (h : ts σ H fun vs H1 => sp (vs ++ dvs) H1 Q E) : tCall sp dvs E ts σ H Q := h
theorem k_callN {n m : Nat} {sp : Sp} {gV : List V → List V → List V} {E : XK} {ts tk : TA} (h : ts σ H fun vs H1 => tk σ H1 fun zs H2 => vs.length = n ∧ zs.length = m ∧ sp (gV vs zs) H2 Q E) : tCallN n m sp gV E ts tk σ H Q := h
theorem k_test {R : Bool → Hp → Prop} (h : te σ H fun x H' => ∃ k, x = .bl k ∧ R k H') : tTest te σ H R := h
theorem k_tb {R : Bool → Hp → Prop} (h : te σ H fun x H' => ∃ k, x = .bl k ∧ R k H') : tB te σ H R := h
theorem k_not {R : Bool → Hp → Prop} (h : tt σ H fun c H1 => R (!c) H1) : tNot tt σ H R := h
theorem k_and {R : Bool → Hp → Prop} (h : tt σ H fun c H1 => if c = true then tw σ H1 R else R false H1) : tAnd tt tw σ H R := h
theorem k_or {R : Bool → Hp → Prop} (h : tt σ H fun c H1 => if c = true then R true H1 else tw σ H1 R) : tOr tt tw σ H R := h
theorem k_andV (h : ta σ H fun x H1 => ∃ c, x = .bl c ∧ if c = true then tb σ H1 Q else Q (.bl false) H1) : tAndV ta tb σ H Q := h
theorem k_orV (h : ta σ H fun x H1 => ∃ c, x = .bl c ∧ if c = true then Q (.bl true) H1 else tb σ H1 Q) : tOrV ta tb σ H Q := h
theorem k_notV (h : ta σ H fun x H1 => ∃ c, x = .bl c ∧ Q (.bl (!c)) H1) : tNotV ta σ H Q := h
theorem k_ife (h : tt σ H fun c H1 => if c = true then ta σ H1 Q else tb σ H1 Q) : tIf tt ta tb σ H Q := h
theorem k_chain {r' : R2} (h : ta σ H fun x H1 => tb σ H1 fun y H2 => r x y H2 fun z H3 => ∃ k, z = .bl k ∧ (if k = true then tc σ H3 fun w' H4 => r' y w' H4 Q else Q (.bl false) H3)) : tChain r r' ta tb tc σ H Q := h
theorem k_lst {ts : TA} (h : ts σ H fun xs H1 => xs.length ≤ sizeLine ∧ ∀ p H2, H1 p = none → Xt H1 H2 → H2 p = some (.lst xs) → Q (.ref p) H2) (mono : ∀ R R' : List V → Hp → Prop, (∀ xs H1, R xs H1 → R' xs H1) → ts σ H R → ts σ H R') : tLst ts σ H Q :=
  mono _ _ (fun xs H1 ⟨h1, h2⟩ => ⟨h1, fun p hp => h2 p _ hp (xnew hp) upd_same⟩) h
/-- a literal true test -/
theorem k_bl {b : Bool} {R : Bool → Hp → Prop} (h : R b H) : ∃ k, V.bl b = .bl k ∧ R k H := ⟨b, rfl, h⟩
theorem k_yes {A B : Prop} (h : A) : if true = true then A else B := iteT h
theorem k_no {A B : Prop} (h : B) : if false = true then A else B := iteF h
theorem k_if {c : Prop} [Decidable c] {A B : Prop} (h1 : c → A) (h2 : ¬ c → B) : if decide c = true then A else B := by
  by_cases h : c
  · rw [decide_eq_true h]; exact iteT (h1 h)
  · rw [decide_eq_false h]; exact iteF (h2 h)
theorem k_ifn {c : Prop} [Decidable c] {A B : Prop} (h1 : ¬ c → A) (h2 : c → B) : if (!decide c) = true then A else B := by
  by_cases h : c
  · rw [decide_eq_true h]; exact iteF (h2 h)
  · rw [decide_eq_false h]; exact iteT (h1 h)
theorem k_ifb {c : Bool} {A B : Prop} (h1 : c = true → A) (h2 : c = false → B) : if c = true then A else B := by
  cases c with
  | true => exact iteT (h1 rfl)
  | false => exact iteF (h2 rfl)
/-! value operations -/
theorem v_I0 {gg : Int → Int → V} {i j : Int} (q : Q (gg i j) H) : rI0 gg (.int i) (.int j) H Q := ⟨i, j, rfl, rfl, q⟩
theorem v_I {C : Int → Int → Prop} {gg : Int → Int → V} {i j : Int} (hc : C i j) (q : Q (gg i j) H) : rI C gg (.int i) (.int j) H Q := ⟨i, j, rfl, rfl, hc, q⟩
theorem v_neg {i : Int} (q : Q (.int (-i)) H) : rU (fun i => .int (-i)) (.int i) H Q := ⟨i, rfl, q⟩
theorem v_eq (h : scal x y = true) (q : Q (.bl (decide (x = y))) H) : rEq x y H Q := ⟨h, q⟩
theorem v_ne (h : scal x y = true) (q : Q (.bl (!decide (x = y))) H) : rNe x y H Q := ⟨h, q⟩
/-- + -/
def rPlus (K : PySem.W.Frag) : R2 := fun x y H Q => rI0 (fun i j => .int (i + j)) x y H Q ∨ ((∃ i j, x = .str i ∧ y = .str j ∧ i.length + j.length ≤ sizeLine ∧ Q (.str (i ++ j)) H) ∨ (rCat x y H Q ∨ rCatA K x y H Q))
theorem v_plus_int {i j : Int} (q : Q (.int (i + j)) H) : rPlus K (.int i) (.int j) H Q := .inl ⟨i, j, rfl, rfl, q⟩
theorem v_plus_str {a b : Str} (hz : a.length + b.length ≤ sizeLine) (q : Q (.str (a ++ b)) H) : rPlus K (.str a) (.str b) H Q := .inr (.inl ⟨a, b, rfl, rfl, hz, q⟩)
theorem v_plus_lst {a b : Addr} {xs ys : List V} (ha : H a = some (.lst xs)) (hb : H b = some (.lst ys)) (hz : xs.length + ys.length ≤ sizeLine) (q : ∀ p H', H p = none → Xt H H' → H' p = some (.lst (xs ++ ys)) → Q (.ref p) H') : rPlus K (.ref a) (.ref b) H Q :=
  .inr (.inr (.inl ⟨a, b, xs, ys, rfl, rfl, ha, hb, hz, fun p hp => q p _ hp (xnew hp) upd_same⟩))
theorem v_plus_tup {a b : Addr} {xs ys : List V} (ha : SqT K H a xs) (hb : SqT K H b ys) (hz : xs.length + ys.length ≤ sizeLine) (q : ∀ p H', Xt H H' → SqT K H' p (xs ++ ys) → Q (.ref p) H') : rPlus K (.ref a) (.ref b) H Q := by
  refine .inr (.inr (.inr ⟨a, b, xs, ys, rfl, rfl, ha, hb, hz, fun e => ?_, fun _ e => ?_, fun _ _ p hp => q p _ (xnew hp) (sqt upd_same)⟩))
  · subst e; exact q b H (xrefl H) hb
  · subst e; exact q a H (xrefl H) (by rw [List.append_nil]; exact ha)
/-- * -/
def rTimes : R2 := fun x y H Q => rI CMul (fun i j => .int (i * j)) x y H Q ∨ (∃ (a : Str) (n : Int), x = .str a ∧ y = .int n ∧ 0 ≤ n ∧ n ≤ 1000 ∧ a.length ≤ 1000 ∧ ∀ z : Str, z.length = a.length * n.toNat → Q (.str z) H)
theorem v_times_int {i j : Int} (h : CMul i j) (q : Q (.int (i * j)) H) : rTimes (.int i) (.int j) H Q := .inl ⟨i, j, rfl, rfl, h, q⟩
end

theorem rep_len (xs : Array Nat) : ∀ n : Nat, ((List.replicate n xs).foldl (· ++ ·) #[]).size = xs.size * n := by
  have h : ∀ (n : Nat) (acc : Array Nat), ((List.replicate n xs).foldl (· ++ ·) acc).size = acc.size + xs.size * n := by
    intro n
    induction n with
    | zero => intro acc; simp
    | succ n ih =>
      intro acc
      rw [List.replicate_succ, List.foldl_cons, ih, Array.size_append, Nat.mul_succ]
      omega
  intro n
  rw [h n #[]]
  simp
section
variable {X : Cx}
theorem op_plus : OpR X (binaryOp .Add) (rPlus X.K) := OpR.or op_add (OpR.or op_add_str (OpR.or op_cat op_catA))
theorem op_mul_str : OpR X (binaryOp .Mult) (fun x y H Q => ∃ (a : Str) (n : Int), x = .str a ∧ y = .int n ∧ 0 ≤ n ∧ n ≤ 1000 ∧ a.length ≤ 1000 ∧ ∀ z : Str, z.length = a.length * n.toNat → Q (.str z) H) := by
  intro pins s σ H x y v u Q I rx ry h
  obtain ⟨a, n, rfl, rfl, h0, h1, h2, q⟩ := h
  obtain ⟨t, rfl⟩ := rx
  obtain ⟨t', rfl⟩ := ry
  have hm : a.length * n.toNat ≤ 1000 * 1000 := Nat.mul_le_mul h2 (by omega)
  refine PySem.P.mul_str ?_ ?_ ?_ ?_
  · rw [decide_eq_false (by omega), decide_eq_false (by omega)]; rfl
  · intro hn _ hgt
    have : (1000 : Int) ≤ (2 ^ 63 - 1) / n := Int.le_ediv_of_mul_le (by omega) (by omega)
    omega
  · intro _ _
    have e : (PySem.Builtin.Str.tooLong (a.length * n.toNat)) = false := by
      unfold PySem.Builtin.Str.tooLong
      apply decide_eq_false
      have : (1000 * 1000 : Nat) ≤ sizeLine := by decide
      first | omega | skip
    exact e
  · by_cases hn : n < 1
    · rw [if_pos hn]
      have e0 : n.toNat = 0 := by omega
      exact ⟨by decide, ⟨.str Str.empty, H, I.tok _, ⟨_, rfl⟩, q _ (by rw [e0, Nat.mul_zero]; rfl)⟩⟩
    · rw [if_neg hn]
      by_cases h3 : (n == 1 || a.length == 0) = true
      · rw [if_pos h3]
        refine ⟨.str a, H, I, ⟨_, rfl⟩, q _ ?_⟩
        rw [Bool.or_eq_true] at h3
        rcases h3 with h3 | h3
        · have : n = 1 := eq_of_beq h3
          subst this; simp
        · have : a.length = 0 := eq_of_beq h3
          rw [this]; simp
      · rw [if_neg h3]
        refine ⟨?_, ⟨.str _, H, I.tok _, ⟨_, rfl⟩, q _ ?_⟩⟩
        · show ((List.replicate n.toNat a.cps).foldl (· ++ ·) #[]).size ≤ sizeLine
          rw [rep_len]
          exact Nat.le_trans hm (by decide)
        · exact rep_len a.cps n.toNat
theorem op_times : OpR X (binaryOp .Mult) rTimes := OpR.or op_mul op_mul_str
/-- f(k = v, ..) -/
theorem pe_callN0 {CX : CXT} {k : Nat} {f : Addr} {fd : FuncData} {ps ks : List Str} {sp : Sp} {E : XK} {x : Str} {p pos : Pos} {kws : List Keyword} {tk : TA} {g : List Value → List Value → List Value} {gV : List V → List V → List V}
    (F : FnOk X.prog X.w X.K X.mg X.base CX k f fd ps sp) (hr : Room k X.A) (hg : Gl X x) (hm : X.mg x = some (.ref f)) (hk : PySem.W.keepIn X.K (.ref f) = true) (hb : KBn X.K fd ps 0 ks g gV) (hx : Passes CX X E)
    (hkw : PK X kws tk) (hall : (backToKw pos (keywordEach kws X.env)).all (·.1.isSome) = true := by rfl) (hks : (backToKw pos (keywordEach kws X.env)).filterMap (·.1) = ks := by rfl)
    (hdb : (x == ("__debug__" : Str)) = false := by decide)
    (hpl : ((backTo pos (starEach [] X.env)).any (·.1) || (backToKw pos (keywordEach kws X.env)).any (·.1.isNone)) = false := by rfl) :
    PE X (.Call (.Name x p) [] kws pos) (tCallN 0 ks.length sp gV E tNil tk) := by
  refine ⟨fun pins s σ H Q I h => ?_⟩
  refine wpAny_Call_Name_kw (ld_glob I hg hm ?_ hdb)
  refine PySem.W.callWith_KW0 (h₀ := X.base) I.ok.mod.kin hk hall ?_ hpl
  refine thn (hkw.run pos pins s σ H _ I h) fun ws s2 ⟨zs, H2, I2, rz, l1, l2, q2⟩ => ⟨I2.kIn, ?_⟩
  rw [hks]
  exact run_fnN (us := []) (vs := []) F hr hb hx I2 .nil rz rfl l2 q2
end
end CW

set_option Elab.async false
set_option linter.all false
set_option maxRecDepth 100000
set_option maxHeartbeats 1000000
namespace CW
open PySem PySem.Spec PyProof.Rows L2
section
variable {X : Cx}
def rLenU (K : PySem.W.Frag) : List V → Hp → VK → Prop := fun xs H Q => (∃ p ys, xs = [.ref p] ∧ (SqL K H p ys ∨ SqT K H p ys) ∧ Q (.int ys.length) H) ∨ ∃ z : Str, xs = [.str z] ∧ z.length ≤ sizeLine ∧ Q (.int z.length) H
theorem call_lenU : CallR X (.builtin "len") (rLenU X.K) := CallR.or call_len_seq call_len_str
def rInt1 : List V → Hp → VK → Prop := fun xs H Q => (∃ i, xs = [.int i] ∧ Q (.int i) H) ∨ ∃ k, xs = [.bl k] ∧ Q (.int (if k then 1 else 0)) H
theorem call_intU : CallR X (.type "int") rInt1 := call_int1
def rSlU (K : PySem.W.Frag) : V → Option Int → Option Int → Hp → VK → Prop := fun x lo hi H Q => rSlL K x lo hi H Q ∨ (rSlS x lo hi H Q ∨ rSlA K x lo hi H Q)
theorem sl_any : SlR X (rSlU X.K) := SlR.or sl_list (SlR.or sl_str sl_tupA)
def rInU (K : PySem.W.Frag) : R2 := fun x y H Q => rInS x y H Q ∨ rIn K false x y H Q
theorem op_inU : OpR X (compareOp .In) (rInU X.K) := OpR.or op_inS op_in_seq
def rNotInU (K : PySem.W.Frag) : R2 := fun x y H Q => rNotInS x y H Q ∨ rIn K true x y H Q
theorem op_notInU : OpR X (compareOp .NotIn) (rNotInU X.K) := OpR.or op_notInS op_notIn_seq
end
section
variable {K : PySem.W.Frag} {σ : L2.St} {H : Hp} {Q : VK} {D : Ends} {te ta tb : TE} {a : Addr} {xs : List V} {z : Str} {i : Int} {v x : V} {c : Nat}
theorem v_len_l (h : SqL K H a xs) (q : Q (.int xs.length) H) : rLenU K [.ref a] H Q := .inl ⟨a, xs, rfl, .inl h, q⟩
theorem v_len_t (h : SqT K H a xs) (q : Q (.int xs.length) H) : rLenU K [.ref a] H Q := .inl ⟨a, xs, rfl, .inr h, q⟩
theorem v_len_s (h : z.length ≤ sizeLine) (q : Q (.int z.length) H) : rLenU K [.str z] H Q := .inr ⟨z, rfl, h, q⟩
theorem v_int (q : Q (.int i) H) : rInt1 [.int i] H Q := .inl ⟨i, rfl, q⟩
theorem v_ix_l (h : SqL K H a xs) (ha : atI xs i = some v) (q : Q v H) : rIx K (.ref a) (.int i) H Q := .inl ⟨a, xs, i, v, rfl, rfl, h, ha, q⟩
theorem v_ix_t (h : SqT K H a xs) (ha : atI xs i = some v) (q : Q v H) : rIx K (.ref a) (.int i) H Q := .inr (.inl ⟨a, xs, i, v, rfl, rfl, h, ha, q⟩)
theorem v_ix_s (h : z.length ≤ sizeLine) (ha : atI z.cps.toList i = some c) (q : Q (.str ⟨#[c]⟩) H) : rIx K (.str z) (.int i) H Q := .inr (.inr ⟨z, i, c, rfl, rfl, h, ha, q⟩)
theorem k_sl {r : V → Option Int → Option Int → Hp → VK → Prop} {tl th : TO} (h : te σ H fun x H1 => tl σ H1 fun lo H2 => th σ H2 fun hi H3 => r x lo hi H3 Q) : tSl r te tl th σ H Q := h
theorem k_nopart {R : Option Int → Hp → Prop} (h : R none H) : tNoPart σ H R := h
theorem k_part {R : Option Int → Hp → Prop} (h : te σ H fun x H1 => ∃ i, x = .int i ∧ R (some i) H1) : tPart te σ H R := h
theorem v_sl_l {lo hi : Option Int} (h : SqL K H a xs) (q : ∀ p H', H p = none → Xt H H' → H' p = some (.lst (cutV xs lo hi)) → Q (.ref p) H') : rSlU K (.ref a) lo hi H Q :=
  .inl ⟨a, xs, rfl, h, fun p hp => q p _ hp (xnew hp) upd_same⟩
theorem v_sl_s {lo hi : Option Int} (h : z.length ≤ sizeLine) (q : Q (.str (cutS z lo hi)) H) : rSlU K (.str z) lo hi H Q := .inr (.inl ⟨z, rfl, h, q⟩)
theorem v_in_s {w : Str} (q : Q (.bl (decide (c ∈ w.cps.toList))) H) : rInU K (.str ⟨#[c]⟩) (.str w) H Q := .inl ⟨c, w, rfl, rfl, q⟩
theorem v_notin_s {w : Str} (q : Q (.bl (!decide (c ∈ w.cps.toList))) H) : rNotInU K (.str ⟨#[c]⟩) (.str w) H Q := .inl ⟨c, w, rfl, rfl, q⟩
theorem v_in_q (h : SqL K H a xs ∨ SqT K H a xs) (hx : flatV x = true) (hf : xs.all flatV = true) (q : Q (.bl (inV x xs)) H) : rInU K x (.ref a) H Q := .inr ⟨a, xs, rfl, h, hx, hf, q⟩
theorem v_notin_q (h : SqL K H a xs ∨ SqT K H a xs) (hx : flatV x = true) (hf : xs.all flatV = true) (q : Q (.bl (!inV x xs)) H) : rNotInU K x (.ref a) H Q := .inr ⟨a, xs, rfl, h, hx, hf, q⟩
theorem k_m0 {r : V → List V → Hp → VK → Prop} (h : te σ H fun x H1 => (∃ a, x = .str a) ∧ r x [] H1 Q) : tM0 r te σ H Q := h
theorem k_m1 {r : V → List V → Hp → VK → Prop} (h : te σ H fun x H1 => (∃ a, x = .str a) ∧ ta σ H1 fun y H2 => r x [y] H2 Q) : tM1 r te ta σ H Q := h
def LcB (J : It) (g : TG) (tt : TT) (te : TE) (vs : List Nat) (σ : L2.St) (Q : VK) (H1 : Hp) : Prop := ∀ D, H1 D = none → ∃ W : Nat → Nat → Hp → Prop, (∃ m, W 0 m (upd H1 D (.lst []))) ∧ ∀ i m H, W i m H →
  (J.stop i H ∧ Q (.ref D) H) ∨ (J.go i H ∧ ∃ Nx : Hp → Prop, (∀ H', Nx H' → ∃ m', m' < m ∧ W (i + 1) m' H') ∧ ∀ x H', J.yld i H x H' → g x (wipe σ vs) H' fun σ2 H2 => wipe σ2 vs = wipe σ vs ∧ tt σ2 H2 fun b H3 =>
    if b = true then te σ2 H3 fun y H4 => ∃ acc, H4 D = some (.lst acc) ∧ acc.length < sizeLine ∧ Nx (upd H4 D (.lst (acc ++ [y]))) else Nx H3)
theorem k_lcl {g : TG} {tt : TT} {vs : List Nat} {wi : TI} (h : wi σ H fun J H1 => LcB J g tt te vs σ Q H1) : tLc wi g tt te vs σ H Q := h
end
/-- what a comprehension without a test gathers: P of the turn, the value and the heap -/
structure LcW (P : Nat → V → Hp → Prop) (H1 : Hp) (Dl : Addr) (i : Nat) (H : Hp) : Prop where
  x : Xt H1 H
  ys : ∃ ys, H Dl = some (.lst ys) ∧ ys.length = i ∧ ∀ j y, ys[j]? = some y → P j y H
theorem LcW.turn {P : Nat → V → Hp → Prop} (mono : ∀ i y H H', Xt H H' → P i y H → P i y H') (hup : ∀ i y H b xs ys, H b = some (.lst xs) → P i y H → P i y (upd H b (.lst ys))) {H1 H H4 : Hp} {Dl : Addr} {i : Nat} {y : V} (hD : H1 Dl = none) (w : LcW P H1 Dl i H) (hx : Xt H H4) (hp : P i y H4) (hi : i < 100000) :
    ∃ acc, H4 Dl = some (.lst acc) ∧ acc.length < sizeLine ∧ LcW P H1 Dl (i + 1) (upd H4 Dl (.lst (acc ++ [y]))) := by
  obtain ⟨x, ys, e, l, h⟩ := w
  refine ⟨ys, hx _ _ e, by rw [l]; exact szlt hi, ⟨xmut (xtr x hx) hD, ys ++ [y], upd_same, by simp [l], fun j z hz => ?_⟩⟩
  refine hup _ _ _ _ ys _ (hx _ _ e) ?_
  by_cases hj : j < ys.length
  · rw [List.getElem?_append_left hj] at hz
    exact mono _ _ _ _ hx (h j z hz)
  · have : j = ys.length := by
      have := (List.getElem?_eq_some_iff.mp hz).1
      simp at this; omega
    subst this
    simp at hz
    subst hz
    rw [l]; exact hp
section
variable {K : PySem.W.Frag} {σ : L2.St} {H : Hp} {Q : VK} {te : TE} {vs : List Nat} {j : Nat} {Dl : Addr} {g : TG} {tt : TT}
theorem k_yesT {R : Bool → Hp → Prop} (h : R true H) : tYes σ H R := h
/-- a relation that does not look at the heap -/
abbrev PV0 (P : Nat → V → Prop) : Nat → V → Hp → Prop := fun i y _ => P i y
theorem lc_rng {n : Nat} {lo : Int} (P : Nat → V → Prop) (hD : H Dl = none) (hn : n < 100000) (hw : ∀ x, wipe ((wipe σ vs).set j (some x)) vs = wipe σ vs)
    (body : ∀ i H', i < n → Xt H H' → ∀ R : VK, (∀ y H2, Xt H' H2 → P i y → R y H2) → te ((wipe σ vs).set j (some (.int (lo + (i : Int))))) H' R)
    (k : ∀ ys H2, ys.length = n → (∀ (i : Nat) (y : V), ys[i]? = some y → P i y) → Xt H H2 → H2 Dl = some (.lst ys) → Q (.ref Dl) H2) :
    ∃ W : Nat → Nat → Hp → Prop, (∃ m, W 0 m (upd H Dl (.lst []))) ∧ ∀ i m H, W i m H →
      ((Itr lo n).stop i H ∧ Q (.ref Dl) H) ∨ ((Itr lo n).go i H ∧ ∃ Nx : Hp → Prop, (∀ H', Nx H' → ∃ m', m' < m ∧ W (i + 1) m' H') ∧ ∀ x H', (Itr lo n).yld i H x H' → gName j x (wipe σ vs) H' fun σ2 H2 => wipe σ2 vs = wipe σ vs ∧ tYes σ2 H2 fun b H3 =>
        if b = true then te σ2 H3 fun y H4 => ∃ acc, H4 Dl = some (.lst acc) ∧ acc.length < sizeLine ∧ Nx (upd H4 Dl (.lst (acc ++ [y]))) else Nx H3) :=
  lc_range (g := gName j) (tt := tYes) (te := te) (σ := σ) (vs := vs) (fun i H' => LcW (PV0 P) H Dl i H') ⟨xnew hD, [], upd_same, rfl, fun _ _ e => by simp at e⟩
    (fun i H' hi w => ⟨hw _, by refine k_yesT ?_; rw [if_pos rfl]; exact (body i H' hi w.x _ fun y H2 x2 hp => w.turn (fun _ _ _ _ _ h => h) (fun _ _ _ _ _ _ _ h => h) hD x2 hp (by omega))⟩)
    (fun H' w => by obtain ⟨x, ys, e, l, h⟩ := w; exact k ys H' l h x e)
theorem lc_lst {a : Addr} {xs : List V} (P : Nat → V → Prop) (hs : SqL K H a xs) (hD : H Dl = none) (hn : xs.length < 100000) (hw : ∀ x, wipe ((wipe σ vs).set j (some x)) vs = wipe σ vs)
    (body : ∀ i x H', xs[i]? = some x → Xt H H' → ∀ R : VK, (∀ y H2, Xt H' H2 → P i y → R y H2) → te ((wipe σ vs).set j (some x)) H' R)
    (k : ∀ ys H2, ys.length = xs.length → (∀ (i : Nat) (y : V), ys[i]? = some y → P i y) → Xt H H2 → H2 Dl = some (.lst ys) → Q (.ref Dl) H2) :
    ∃ W : Nat → Nat → Hp → Prop, (∃ m, W 0 m (upd H Dl (.lst []))) ∧ ∀ i m H, W i m H →
      ((Itl K a).stop i H ∧ Q (.ref Dl) H) ∨ ((Itl K a).go i H ∧ ∃ Nx : Hp → Prop, (∀ H', Nx H' → ∃ m', m' < m ∧ W (i + 1) m' H') ∧ ∀ x H', (Itl K a).yld i H x H' → gName j x (wipe σ vs) H' fun σ2 H2 => wipe σ2 vs = wipe σ vs ∧ tYes σ2 H2 fun b H3 =>
        if b = true then te σ2 H3 fun y H4 => ∃ acc, H4 Dl = some (.lst acc) ∧ acc.length < sizeLine ∧ Nx (upd H4 Dl (.lst (acc ++ [y]))) else Nx H3) :=
  lc_list (g := gName j) (tt := tYes) (te := te) (σ := σ) (vs := vs) (fun i H' => LcW (PV0 P) H Dl i H') ⟨xnew hD, [], upd_same, rfl, fun _ _ e => by simp at e⟩ (fun i H' _ w => xl w.x hs)
    (fun i x H' hi w => ⟨hw _, by refine k_yesT ?_; rw [if_pos rfl]; exact (body i x H' hi w.x _ fun y H2 x2 hp => w.turn (fun _ _ _ _ _ h => h) (fun _ _ _ _ _ _ _ h => h) hD x2 hp (by have := (List.getElem?_eq_some_iff.mp hi).1; omega))⟩)
    (fun H' w => by obtain ⟨x, ys, e, l, h⟩ := w; exact k ys H' l h x e)
theorem walk_text (z : Str) : Walk (Its z) z.cps.size (fun _ => True) (fun i H v H' => H' = H ∧ ∃ c, z.cps[i]? = some c ∧ v = .str ⟨#[c]⟩) :=
  ⟨fun _ _ h _ => h, fun _ _ => Nat.le_refl _, fun _ _ _ _ _ _ h => h⟩
theorem lc_txt {z : Str} (P : Nat → V → Prop) (hD : H Dl = none) (hn : z.length < 100000) (hw : ∀ x, wipe ((wipe σ vs).set j (some x)) vs = wipe σ vs)
    (body : ∀ i c H', z.cps[i]? = some c → Xt H H' → ∀ R : VK, (∀ y H2, Xt H' H2 → P i y → R y H2) → te ((wipe σ vs).set j (some (.str ⟨#[c]⟩))) H' R)
    (k : ∀ ys H2, ys.length = z.length → (∀ (i : Nat) (y : V), ys[i]? = some y → P i y) → Xt H H2 → H2 Dl = some (.lst ys) → Q (.ref Dl) H2) :
    ∃ W : Nat → Nat → Hp → Prop, (∃ m, W 0 m (upd H Dl (.lst []))) ∧ ∀ i m H, W i m H →
      ((Its z).stop i H ∧ Q (.ref Dl) H) ∨ ((Its z).go i H ∧ ∃ Nx : Hp → Prop, (∀ H', Nx H' → ∃ m', m' < m ∧ W (i + 1) m' H') ∧ ∀ x H', (Its z).yld i H x H' → gName j x (wipe σ vs) H' fun σ2 H2 => wipe σ2 vs = wipe σ vs ∧ tYes σ2 H2 fun b H3 =>
        if b = true then te σ2 H3 fun y H4 => ∃ acc, H4 Dl = some (.lst acc) ∧ acc.length < sizeLine ∧ Nx (upd H4 Dl (.lst (acc ++ [y]))) else Nx H3) :=
  lc_it (walk_text z) (g := gName j) (tt := tYes) (te := te) (σ := σ) (vs := vs) (fun i H' => LcW (PV0 P) H Dl i H') ⟨xnew hD, [], upd_same, rfl, fun _ _ e => by simp at e⟩ (fun _ _ _ _ => trivial)
    (fun i x H' H2 hi w hy => by
      obtain ⟨e, c, hc, e2⟩ := hy
      subst e; subst e2
      exact ⟨hw _, by refine k_yesT ?_; rw [if_pos rfl]; exact (body i c H2 hc w.x _ fun y H2 x2 hp => w.turn (fun _ _ _ _ _ h => h) (fun _ _ _ _ _ _ _ h => h) hD x2 hp (by
        have h2 : z.cps.size < 100000 := hn
        omega))⟩)
    (fun H' w => by obtain ⟨x, ys, e, l, h⟩ := w; exact k ys H' l h x e)
/-- the signs that pass a test, in order -/
theorem lc_txtF {z : Str} (f : Nat → Bool) (hD : H Dl = none) (hn : z.length < 100000) (hw : ∀ x, wipe ((wipe σ vs).set j (some x)) vs = wipe σ vs)
    (test : ∀ c H', Xt H H' → ∀ R : Bool → Hp → Prop, R (f c) H' → tt ((wipe σ vs).set j (some (.str ⟨#[c]⟩))) H' R)
    (body : ∀ c H', Xt H H' → ∀ R : VK, R (.str ⟨#[c]⟩) H' → te ((wipe σ vs).set j (some (.str ⟨#[c]⟩))) H' R)
    (k : ∀ H2, Xt H H2 → H2 Dl = some (.lst ((z.cps.toList.filter f).map fun c => V.str ⟨#[c]⟩)) → Q (.ref Dl) H2) :
    ∃ W : Nat → Nat → Hp → Prop, (∃ m, W 0 m (upd H Dl (.lst []))) ∧ ∀ i m H, W i m H →
      ((Its z).stop i H ∧ Q (.ref Dl) H) ∨ ((Its z).go i H ∧ ∃ Nx : Hp → Prop, (∀ H', Nx H' → ∃ m', m' < m ∧ W (i + 1) m' H') ∧ ∀ x H', (Its z).yld i H x H' → gName j x (wipe σ vs) H' fun σ2 H2 => wipe σ2 vs = wipe σ vs ∧ tt σ2 H2 fun b H3 =>
        if b = true then te σ2 H3 fun y H4 => ∃ acc, H4 Dl = some (.lst acc) ∧ acc.length < sizeLine ∧ Nx (upd H4 Dl (.lst (acc ++ [y]))) else Nx H3) := by
  refine lc_it (walk_text z) (g := gName j) (tt := tt) (te := te) (σ := σ) (vs := vs) (fun i H' => Xt H H' ∧ H' Dl = some (.lst (((z.cps.toList.take i).filter f).map fun c => V.str ⟨#[c]⟩))) ⟨xnew hD, upd_same⟩ (fun _ _ _ _ => trivial)
    (fun i x H' H2 hi w hy => ?_) (fun H' w => ?_)
  · obtain ⟨e, c, hc, e2⟩ := hy
    subst e; subst e2
    have hc' : z.cps.toList[i]? = some c := by rw [Array.getElem?_toList]; exact hc
    have et : z.cps.toList.take (i + 1) = z.cps.toList.take i ++ [c] := by rw [List.take_add_one, hc']; rfl
    refine ⟨hw _, test c H2 w.1 _ ?_⟩
    cases hf : f c with
    | true =>
      refine iteT (body c H2 w.1 _ ⟨_, w.2, szlt ?_, xmut w.1 hD, ?_⟩)
      · rw [List.length_map]
        have h1 := List.length_filter_le f (z.cps.toList.take i)
        have h2 : (z.cps.toList.take i).length ≤ z.cps.toList.length := by rw [List.length_take]; omega
        have h3 : z.cps.toList.length < 100000 := by rw [Array.length_toList]; exact hn
        omega
      · rw [upd_same, et, List.filter_append, List.map_append]
        have : [c].filter f = [c] := by rw [List.filter_cons, if_pos hf]; rfl
        rw [this]; rfl
    | false =>
      refine iteF ⟨w.1, ?_⟩
      rw [et, List.filter_append]
      have : [c].filter f = [] := by rw [List.filter_cons, if_neg (by rw [hf]; decide)]; rfl
      rw [this, List.append_nil]; exact w.2
  · refine k H' w.1 ?_
    have e := w.2
    rw [List.take_of_length_le (by rw [Array.length_toList]; exact Nat.le_refl _)] at e
    exact e
theorem b_rng {n : Nat} {lo : Int} (P : Nat → V → Prop) (hn : n < 100000) (hw : ∀ x, wipe ((wipe σ vs).set j (some x)) vs = wipe σ vs)
    (body : ∀ i H', i < n → Xt H H' → ∀ R : VK, (∀ y H2, Xt H' H2 → P i y → R y H2) → te ((wipe σ vs).set j (some (.int (lo + (i : Int))))) H' R)
    (k : ∀ Dl ys H2, H Dl = none → ys.length = n → (∀ (i : Nat) (y : V), ys[i]? = some y → P i y) → Xt H H2 → H2 Dl = some (.lst ys) → Q (.ref Dl) H2) : LcB (Itr lo n) (gName j) tYes te vs σ Q H :=
  fun Dl hD => lc_rng P hD hn hw body fun ys H2 l h x e => k Dl ys H2 hD l h x e
theorem b_lst {a : Addr} {xs : List V} (P : Nat → V → Prop) (hs : SqL K H a xs) (hn : xs.length < 100000) (hw : ∀ x, wipe ((wipe σ vs).set j (some x)) vs = wipe σ vs)
    (body : ∀ i x H', xs[i]? = some x → Xt H H' → ∀ R : VK, (∀ y H2, Xt H' H2 → P i y → R y H2) → te ((wipe σ vs).set j (some x)) H' R)
    (k : ∀ Dl ys H2, H Dl = none → ys.length = xs.length → (∀ (i : Nat) (y : V), ys[i]? = some y → P i y) → Xt H H2 → H2 Dl = some (.lst ys) → Q (.ref Dl) H2) : LcB (Itl K a) (gName j) tYes te vs σ Q H :=
  fun Dl hD => lc_lst P hs hD hn hw body fun ys H2 l h x e => k Dl ys H2 hD l h x e
theorem b_txt {z : Str} (P : Nat → V → Prop) (hn : z.length < 100000) (hw : ∀ x, wipe ((wipe σ vs).set j (some x)) vs = wipe σ vs)
    (body : ∀ i c H', z.cps[i]? = some c → Xt H H' → ∀ R : VK, (∀ y H2, Xt H' H2 → P i y → R y H2) → te ((wipe σ vs).set j (some (.str ⟨#[c]⟩))) H' R)
    (k : ∀ Dl ys H2, H Dl = none → ys.length = z.length → (∀ (i : Nat) (y : V), ys[i]? = some y → P i y) → Xt H H2 → H2 Dl = some (.lst ys) → Q (.ref Dl) H2) : LcB (Its z) (gName j) tYes te vs σ Q H :=
  fun Dl hD => lc_txt P hD hn hw body fun ys H2 l h x e => k Dl ys H2 hD l h x e
theorem b_txtF {z : Str} (f : Nat → Bool) (hn : z.length < 100000) (hw : ∀ x, wipe ((wipe σ vs).set j (some x)) vs = wipe σ vs)
    (test : ∀ c H', Xt H H' → ∀ R : Bool → Hp → Prop, R (f c) H' → tt ((wipe σ vs).set j (some (.str ⟨#[c]⟩))) H' R)
    (body : ∀ c H', Xt H H' → ∀ R : VK, R (.str ⟨#[c]⟩) H' → te ((wipe σ vs).set j (some (.str ⟨#[c]⟩))) H' R)
    (k : ∀ Dl H2, H Dl = none → Xt H H2 → H2 Dl = some (.lst ((z.cps.toList.filter f).map fun c => V.str ⟨#[c]⟩)) → Q (.ref Dl) H2) : LcB (Its z) (gName j) tt te vs σ Q H :=
  fun Dl hD => lc_txtF f hD hn hw test body fun H2 x e => k Dl H2 hD x e
end
end CW

set_option Elab.async false
set_option linter.all false
set_option maxRecDepth 100000
set_option maxHeartbeats 1000000
namespace CW
open PySem PySem.Spec PyProof.Rows L2
section
variable {K : PySem.W.Frag} {σ : L2.St} {H : Hp} {Q : VK} {D : Ends} {te to : TE} {a l : Addr} {xs : List V} {z : Str} {i : Int} {v x : V} {c : Nat} {t : TA}
def NewL (xs : List V) (H : Hp) (Q : VK) : Prop := xs.length ≤ sizeLine ∧ ∀ p, H p = none → Q (.ref p) (upd H p (.lst xs))
def NewT (xs : List V) (H : Hp) (Q : VK) : Prop := xs.length ≤ sizeLine ∧ ∀ p, H p = none → Q (.ref p) (upd H p (.tup xs))
theorem k_lst0 (h : t σ H fun xs H1 => NewL xs H1 Q) : tLst t σ H Q := h
theorem k_tup0 (h : t σ H fun xs H1 => NewT xs H1 Q) : tTup t σ H Q := h
theorem v_new (hz : xs.length ≤ 100000) (q : ∀ p H2, H p = none → Xt H H2 → H2 p = some (.lst xs) → Q (.ref p) H2) : NewL xs H Q :=
  ⟨szle hz, fun p hp => q p _ hp (xnew hp) upd_same⟩
theorem v_newT (hz : xs.length ≤ 100000) (q : ∀ p H2, H p = none → Xt H H2 → H2 p = some (.tup xs) → Q (.ref p) H2) : NewT xs H Q :=
  ⟨szle hz, fun p hp => q p _ hp (xnew hp) upd_same⟩
theorem k_cut {t' u' : TS} (Mid : L2.St → Hp → Prop) (h1 : t' { D with nx := Mid } σ H) (h2 : ∀ σ' H', Mid σ' H' → u' D σ' H') : Evl.tCut t' u' D σ H := ⟨Mid, h1, h2⟩
theorem v_times_str {n : Int} (h : 0 ≤ n ∧ n ≤ 1000 ∧ z.length ≤ 1000) (q : ∀ w : Str, w.length = z.length * n.toNat → Q (.str w) H) : rTimes (.str z) (.int n) H Q := .inr ⟨z, n, rfl, rfl, h.1, h.2.1, h.2.2, q⟩
theorem k_bm {T : String} {r : V → List V → Hp → VK → Prop} (h : to σ H fun x H1 => tyV K T x H1 ∧ t σ H1 fun xs H2 => r x xs H2 Q) : tBM K T r to t σ H Q := h
theorem v_app (e : H l = some (.lst xs)) (hz : xs.length < 100000) (q : Q .non (upd H l (.lst (xs ++ [v])))) : rAppend (.ref l) [v] H Q := ⟨l, xs, v, rfl, rfl, e, szlt hz, q⟩
theorem ty_l (e : H l = some (.lst xs)) : tyV K "list" (.ref l) H := .inl ⟨rfl, xs, sql e⟩
theorem k_for {wi : TI} {g : TG} {tb : TS} (h : wi σ H fun J H1 => ∃ W : Nat → Nat → L2.St → Hp → Prop, (∃ m, W 0 m σ H1) ∧ ∀ i m σ H, W i m σ H →
  (J.stop i H ∧ D.nx σ H) ∨ (J.go i H ∧ ∃ N : L2.St → Hp → Prop, (∀ σ' H', N σ' H' → ∃ m', m' < m ∧ W (i + 1) m' σ' H') ∧ ∀ x H', J.yld i H x H' → g x σ H' fun σ2 H2 => tb { D with nx := N, ct := N, bk := D.nx } σ2 H2)) : tFor wi g tb D σ H := h
theorem k_ilist {R : It → Hp → Prop} (h : te σ H fun x H1 => ∃ a, x = .ref a ∧ (∃ xs, SqL K H1 a xs) ∧ R (Itl K a) H1) : iList K te σ H R := h
theorem k_itup {R : It → Hp → Prop} (h : te σ H fun x H1 => ∃ a, x = .ref a ∧ (∃ xs, SqT K H1 a xs) ∧ R (Itt K a) H1) : iTup K te σ H R := h
theorem k_istr {R : It → Hp → Prop} (h : te σ H fun v H1 => ∃ x, v = .str x ∧ R (Its x) H1) : iStr te σ H R := h
theorem k_irng1 {R : It → Hp → Prop} (h : t σ H fun vs H1 => ∃ j : Int, vs = [.int j] ∧ -(2 ^ 62) ≤ j ∧ j < 2 ^ 62 ∧ R (Itr 0 j.toNat) H1) : iRng1 t σ H R := h
theorem k_irng2 {R : It → Hp → Prop} (h : t σ H fun vs H1 => ∃ i j : Int, vs = [.int i, .int j] ∧ (-(2 ^ 62) ≤ i ∧ i < 2 ^ 62 ∧ -(2 ^ 62) ≤ j ∧ j < 2 ^ 62) ∧ R (Itr i (j - i).toNat) H1) : iRng2 t σ H R := h
def rRevL (K : PySem.W.Frag) : V → Hp → VK → Prop := fun x H Q => ∃ a xs, x = .ref a ∧ SqL K H a xs ∧ ∀ p, H p = none → Q (.ref p) (upd H p (.lst xs.reverse))
theorem k_rev (h : te σ H fun x H1 => rRevL K x H1 Q) : tRevL K te σ H Q := h
theorem v_rev (h : SqL K H a xs) (q : ∀ p H2, H p = none → Xt H H2 → H2 p = some (.lst xs.reverse) → Q (.ref p) H2) : rRevL K (.ref a) H Q :=
  ⟨a, xs, rfl, h, fun p hp => q p _ hp (xnew hp) upd_same⟩
theorem v_isi_str (q : Q (.bl true) H) : rIsi K [.str z, .ty "str"] H Q := ⟨.str z, .ty "str", .type "str", .type "str", true, rfl, .ty "str", .base (.str z), kit_ty (by decide +kernel), q⟩
theorem v_isi_bool {b : Bool} (q : Q (.bl true) H) : rIsi K [.bl b, .ty "bool"] H Q := ⟨.bl b, .ty "bool", .type "bool", .type "bool", true, rfl, .ty "bool", .base (.bl b), kit_ty (by decide +kernel), q⟩
theorem v_all {bs : List Bool} (h : SqL K H a (bs.map V.bl)) (q : Q (.bl (bs.all id)) H) : rAll K [.ref a] H Q := ⟨a, bs, rfl, h, q⟩
def rJoin (K : PySem.W.Frag) : V → List V → Hp → VK → Prop := fun x xs H Q => ∃ a p, ∃ ys : List Str, x = .str a ∧ xs = [.ref p] ∧ (SqL K H p (ys.map V.str) ∨ SqT K H p (ys.map V.str)) ∧
      (ys.map (·.length)).sum + ys.length * a.length ≤ 16777216 ∧ Q (.str (Txt.join a ys)) H
def rUpper : V → List V → Hp → VK → Prop := fun x xs H Q => ∃ a, x = .str a ∧ xs = [] ∧ a.length ≤ 5592405 ∧ Q (.str (Txt.upper a)) H
theorem v_join {ys : List Str} {s : Str} (h : SqL K H a (ys.map V.str)) (hz : (ys.map (·.length)).sum + ys.length * s.length ≤ 16777216) (q : Q (.str (Txt.join s ys)) H) : rJoin K (.str s) [.ref a] H Q :=
  ⟨s, a, ys, rfl, rfl, .inl h, hz, q⟩
theorem v_upper (hz : z.length ≤ 100000) (q : Q (.str (Txt.upper z)) H) : rUpper (.str z) [] H Q := ⟨z, rfl, rfl, Nat.le_trans hz (by decide), q⟩
theorem k_m0s {r : V → List V → Hp → VK → Prop} (h : te σ H fun x H1 => (∃ a, x = .str a) ∧ r x [] H1 Q) : tM0 r te σ H Q := h
theorem v_isstr {A : Prop} (h : A) : (∃ a, V.str z = .str a) ∧ A := ⟨⟨z, rfl⟩, h⟩
end
section
variable {X : Cx} {o e : Expr} {to te : TE}
theorem pe_joinN {apos pos : Pos} (ho : PE X o to) (he : PE X e te) (hs : starEach [e] X.env = [(false, eval e X.env)] := by rfl) (hbase : attributeBase o "join" X.env (eval o X.env) = eval o X.env := by rfl) (hline : (apos.endLine == pos.line) = true := by rfl) :
    PE X (.Call (.Attribute o "join" apos) [e] [] pos) (tM1 (rJoin X.K) to te) := pe_join ho he hs hbase hline
theorem pe_upperN {apos pos : Pos} (ho : PE X o to) (hbase : attributeBase o "upper" X.env (eval o X.env) = eval o X.env := by rfl) (hline : (apos.endLine == pos.line) = true := by rfl) :
    PE X (.Call (.Attribute o "upper" apos) [] [] pos) (tM0 rUpper to) := pe_upper ho hbase hline
end
/-! places -/
theorem atI_ok {α : Type} {l : List α} {i : Int} (h0 : 0 ≤ i) (h1 : i < (l.length : Int)) : ∃ c, atI l i = some c ∧ l[i.toNat]? = some c := by
  have h : i.toNat < l.length := by omega
  obtain ⟨j, rfl⟩ : ∃ j : Nat, i = (j : Int) := ⟨i.toNat, by omega⟩
  exact ⟨l[j]'(by omega), atI_nat (List.getElem?_eq_getElem (by omega)), by rw [Int.toNat_natCast]; exact List.getElem?_eq_getElem (by omega)⟩
theorem atI_int {ns : List Int} {i : Int} (h0 : 0 ≤ i) (h1 : i < (ns.length : Int)) : ∃ n, atI (ns.map V.int) i = some (.int n) ∧ ns[i.toNat]? = some n := by
  obtain ⟨c, e1, e2⟩ := atI_ok (l := ns.map V.int) h0 (by rw [List.length_map]; exact h1)
  rw [List.getElem?_map] at e2
  cases q : ns[i.toNat]? with
  | none => rw [q] at e2; cases e2
  | some n => rw [q] at e2; cases e2; exact ⟨n, e1, rfl⟩
theorem atI_mod {α : Type} {l : List α} {i : Int} (h : 0 < l.length) : ∃ c, atI l (i % (l.length : Int)) = some c := by
  obtain ⟨c, e, _⟩ := atI_ok (l := l) (i := i % (l.length : Int)) (Int.emod_nonneg _ (by omega)) (Int.emod_lt_of_pos _ (by omega))
  exact ⟨c, e⟩
theorem map_int_at {ns : List Int} {i : Nat} {x : V} (h : (ns.map V.int)[i]? = some x) : ∃ n, x = .int n ∧ ns[i]? = some n := by
  rw [List.getElem?_map] at h
  cases q : ns[i]? with
  | none => rw [q] at h; cases h
  | some n => rw [q] at h; cases h; exact ⟨n, rfl, rfl⟩
/-! digits -/
def DigOk (ds ss : List Int) : Prop := ds.length = ss.length ∧ ∀ (j : Nat) (d s : Int), ds[j]? = some d → ss[j]? = some s → 0 ≤ d ∧ d < s
theorem DigOk.nil : DigOk [] [] := ⟨rfl, fun _ _ _ h => by simp at h⟩
theorem DigOk.snoc {ds ss : List Int} {i : Nat} {d s : Int} (h : DigOk ds (ss.take i)) (hs : ss[i]? = some s) (h0 : 0 ≤ d) (h1 : d < s) : DigOk (ds ++ [d]) (ss.take (i + 1)) := by
  have hi : i < ss.length := (List.getElem?_eq_some_iff.mp hs).1
  have hl : ds.length = i := by rw [h.1, List.length_take]; omega
  refine ⟨by rw [List.length_append, hl, List.length_take, List.length_singleton]; omega, fun j e t he ht => ?_⟩
  by_cases hj : j < i
  · rw [List.getElem?_append_left (by omega)] at he
    rw [List.getElem?_take_of_lt (by omega)] at ht
    exact h.2 j e t he (by rw [List.getElem?_take_of_lt hj]; exact ht)
  · have : j = i := by
      have := (List.getElem?_eq_some_iff.mp he).1
      rw [List.length_append, List.length_singleton] at this; omega
    subst this
    rw [List.getElem?_take_of_lt (by omega), hs] at ht
    rw [List.getElem?_append_right (by omega), hl] at he
    simp at he
    cases ht
    subst he
    exact ⟨h0, h1⟩
/-! texts -/
theorem len_app (a b : Str) : (a ++ b).length = a.length + b.length := Array.size_append
theorem len_cut (z : Str) (lo hi : Option Int) : (cutS z lo hi).length ≤ z.length := by
  show (((z.cps.toList.drop (HT.sIx z.length 0 lo)).take (HT.sIx z.length z.length hi - HT.sIx z.length 0 lo)).toArray).size ≤ z.cps.size
  rw [List.size_toArray, List.length_take, List.length_drop, Array.length_toList]
  omega
theorem len_one (c : Nat) : (⟨#[c]⟩ : Str).length = 1 := rfl
theorem len_up (x : Str) : (Txt.upper x).length ≤ 3 * x.length := PyProof.Rows.len_upper x
theorem cut_from1 (z : Str) : (cutS z (some 1) none).cps.toList = z.cps.toList.drop 1 := by
  show ((z.cps.toList.drop (HT.sIx z.length 0 (some 1))).take (HT.sIx z.length z.length none - HT.sIx z.length 0 (some 1))).toArray.toList = _
  have e : HT.sIx z.length 0 (some 1) = min 1 z.length := HT.sIx_nat z.length 0 1
  rw [e, HT.sIx_none]
  have hl : z.cps.toList.length = z.length := by rw [Array.length_toList]; rfl
  by_cases h : z.length = 0
  · have : z.cps.toList = [] := List.length_eq_zero_iff.mp (by omega)
    rw [this]; simp
  · rw [show min 1 z.length = 1 by omega]
    exact List.take_of_length_le (by rw [List.length_drop]; omega)
/-! lengths -/
theorem lb_app {a b : Str} {n m : Nat} (h1 : a.length ≤ n) (h2 : b.length ≤ m) : (a ++ b).length ≤ n + m := by rw [len_app]; exact Nat.add_le_add h1 h2
theorem lb_cut {z : Str} {lo hi : Option Int} {n : Nat} (h : z.length ≤ n) : (cutS z lo hi).length ≤ n := Nat.le_trans (len_cut z lo hi) h
theorem lb_one {c : Nat} : (⟨#[c]⟩ : Str).length ≤ 1 := Nat.le_refl 1
theorem lb_up {z : Str} {n : Nat} (h : z.length ≤ n) : (Txt.upper z).length ≤ 3 * n := Nat.le_trans (len_up z) (Nat.mul_le_mul_left 3 h)
/-! lists of values told one by one -/
theorem list_map_of {α : Type} {ys : List V} {l : List α} {f : α → V} (hl : ys.length = l.length) (h : ∀ (i : Nat) (y : V), ys[i]? = some y → ∃ c, l[i]? = some c ∧ y = f c) : ys = l.map f := by
  apply List.ext_getElem?
  intro i
  rw [List.getElem?_map]
  cases e : ys[i]? with
  | none =>
    have : l.length ≤ i := by rw [← hl]; exact List.getElem?_eq_none_iff.mp e
    rw [List.getElem?_eq_none_iff.mpr this]; rfl
  | some y =>
    obtain ⟨c, h1, h2⟩ := h i y e
    rw [h1, h2]; rfl
theorem list_const {ys : List V} {v : V} {n : Nat} (hl : ys.length = n) (h : ∀ (i : Nat) (y : V), ys[i]? = some y → y = v) : ys = List.replicate n v := by
  rw [List.eq_replicate_iff]
  refine ⟨hl, fun b hb => ?_⟩
  obtain ⟨i, hi⟩ := List.getElem?_of_mem hb
  exact h i b hi
theorem list_ex {α : Type} {f : α → V} : ∀ {ys : List V}, (∀ (i : Nat) (y : V), ys[i]? = some y → ∃ c, y = f c) → ∃ cs : List α, ys = cs.map f
  | [], _ => ⟨[], rfl⟩
  | y :: r, h => by
    obtain ⟨c, e⟩ := h 0 y rfl
    obtain ⟨cs, e2⟩ := list_ex (ys := r) fun i z hz => h (i + 1) z hz
    exact ⟨c :: cs, by rw [e, e2]; rfl⟩
theorem atI_mem {α : Type} {l : List α} {i : Int} {c : α} (h : atI l i = some c) : c ∈ l := by
  unfold atI at h
  cases e : ixN l.length i with
  | none => rw [e] at h; cases h
  | some j => rw [e] at h; exact List.mem_of_getElem? h
theorem cutV_mem {xs : List V} {lo hi : Option Int} {v : V} (h : v ∈ cutV xs lo hi) : v ∈ xs := List.mem_of_mem_drop (List.mem_of_mem_take h)
theorem DigOk.get {ds ss : List Int} (h : DigOk ds ss) {s : Int} (k : Nat) (i : Int) (hi : i = (k : Int)) (hs : ss[k]? = some s) : ∃ d, atI (ds.map V.int) i = some (.int d) ∧ 0 ≤ d ∧ d < s := by
  have hk : k < ss.length := (List.getElem?_eq_some_iff.mp hs).1
  have hk2 : k < ds.length := by rw [h.1]; exact hk
  refine ⟨ds[k], ?_, h.2 k _ s (List.getElem?_eq_getElem hk2) hs⟩
  rw [hi]
  exact atI_nat (by rw [List.getElem?_map, List.getElem?_eq_getElem hk2]; rfl)
theorem cutV_at {xs : List V} {k i : Nat} {hi : Option Int} {x : V} (hk : k ≤ xs.length) (h : (cutV xs (some (k : Int)) hi)[i]? = some x) : xs[k + i]? = some x := by
  unfold cutV at h
  rw [HT.sIx_nat, show min k xs.length = k by omega] at h
  rw [List.getElem?_take] at h
  split at h
  · rw [List.getElem?_drop] at h; exact h
  · cases h
theorem DigOk.at {ds ss : List Int} (h : DigOk ds ss) {j : Nat} {d : Int} (hd : ds[j]? = some d) : ∃ s, ss[j]? = some s ∧ 0 ≤ d ∧ d < s := by
  have hj : j < ss.length := by rw [← h.1]; exact (List.getElem?_eq_some_iff.mp hd).1
  exact ⟨ss[j], List.getElem?_eq_getElem hj, h.2 j d _ hd (List.getElem?_eq_getElem hj)⟩
/-- signs glued -/
theorem sum_ones : ∀ cs : List Nat, ((cs.map fun c => (⟨#[c]⟩ : Str)).map (·.length)).sum = cs.length
  | [] => rfl
  | c :: r => by
    show 1 + ((r.map fun c => (⟨#[c]⟩ : Str)).map (·.length)).sum = r.length + 1
    rw [sum_ones r]; omega
theorem v_joinC {K : PySem.W.Frag} {H : Hp} {Q : VK} {a : Addr} {ys : List V} (e : H a = some (.lst ys)) (h : ∀ (i : Nat) (y : V), ys[i]? = some y → ∃ c : Nat, y = V.str ⟨#[c]⟩) (hz : ys.length ≤ 100000) (q : ∀ z : Str, z.length = ys.length → Q (.str z) H) :
    rJoin K (.str (Str.ofString "")) [.ref a] H Q := by
  obtain ⟨cs, rfl⟩ := list_ex (f := fun c : Nat => V.str ⟨#[c]⟩) h
  have e2 : (cs.map fun c : Nat => V.str ⟨#[c]⟩) = (cs.map fun c => (⟨#[c]⟩ : Str)).map V.str := by rw [List.map_map]; rfl
  rw [List.length_map] at hz
  refine v_join (ys := cs.map fun c => (⟨#[c]⟩ : Str)) (sql (by rw [← e2]; exact e)) ?_ (q _ ?_)
  · rw [sum_ones, show (Str.ofString "").length = 0 by decide, Nat.mul_zero]; omega
  · rw [PySem.W.KT.join_ones _ (fun z hz => by
      obtain ⟨c, _, rfl⟩ := List.mem_map.mp hz
      rfl), List.length_map, List.length_map]
end CW

set_option Elab.async false
set_option linter.all false
set_option maxRecDepth 100000
set_option maxHeartbeats 1000000
namespace CW
open PySem PySem.Spec PyProof.Rows L2
theorem abs_rel {u : Value} {x : V} (h : absV u = some x) : RelV x u := by
  cases u <;> simp [absV] at h <;> subst h <;> first | rfl | exact ⟨_, rfl⟩
theorem abs_vals : ∀ {us : List Value} {xs : List V}, us.map absV = xs.map some → Vals xs us
  | [], [], _ => .nil
  | [], _ :: _, h => by cases h
  | _ :: _, [], h => by cases h
  | u :: us, x :: xs, h => by
    rw [List.map_cons, List.map_cons] at h
    injection h with h1 h2
    exact .cons (abs_rel h1) (abs_vals h2)
section
variable {K : PySem.W.Frag} {x qual : Str} {st : Stmt} {f : Addr} {fd : FuncData} {ps ks : List Str}
theorem fun_kbn (F : Fun K x qual st f fd) (h : ∀ (kV doc pm : Value) (an : Option Addr) (cdv ct : Value) (ws : List Value), ws.length = ks.length → bindArgs (PySem.W.fnOf x qual (defArgs st) (defBody st) (defScope st) .none kV doc pm an cdv ct) ⟨[], ks.zip ws⟩ = pure (ps.zip ws)) :
    KBn K fd ps 0 ks (fun _ ws => ws) (fun _ zs => zs) := by
  obtain ⟨oc, od, kV, doc, pm, an, cdv, ct, osl, rfl, lk, hcd⟩ := F.ex
  refine ⟨fun s us ws _ h0 h1 => ?_, fun _ r => r⟩
  cases us with
  | cons _ _ => cases h0
  | nil => exact BindsTo.of_eq (h kV doc pm an cdv ct ws h1)
theorem sqt_K {a : Addr} {oc : Value} {od : Option Addr} {its : Array Value} {n : Nat} {sl : Array (Option Value)} {xs : List V} (l : K.lookup a = some ⟨oc, od, .seq its n, sl⟩) (c : oc = .type "tuple") (z : its.size ≤ sizeLine) (h : its.toList.map absV = xs.map some) (H : Hp) : SqT K H a xs :=
  .inr ⟨_, its, n, l, c, rfl, z, abs_vals h⟩
end
end CW

set_option Elab.async false
set_option linter.all false
set_option maxRecDepth 100000
set_option maxHeartbeats 1000000
/-! nested data -/
namespace CW
open PySem PySem.Spec PyProof.Rows L2
theorem szL {n : Nat} (h : n ≤ 10000000) : n ≤ sizeLine := Nat.le_trans h (by decide)
theorem szL2 {n : Nat} (h : n < 10000000) : n < sizeLine := Nat.lt_of_lt_of_le h (by decide)
end CW
namespace L2
open PySem PySem.Spec PyProof.Rows CW
mutual
theorem Dp.mono {K : PySem.W.Frag} {H H' : Hp} (e : Xt H H') : ∀ {v : V} {d : PyData}, Dp K H v d → Dp K H' v d
  | _, _, .non => .non
  | _, _, .bl b => .bl b
  | _, _, .int i => .int i
  | _, _, .str x => .str x
  | _, _, .lst hs ha => .lst (xl e hs) (DpAll.mono e ha)
  | _, _, .tup hs ha => .tup (xt e hs) (DpAll.mono e ha)
theorem DpAll.mono {K : PySem.W.Frag} {H H' : Hp} (e : Xt H H') : ∀ {vs : List V} {ds : List PyData}, DpAll K H vs ds → DpAll K H' vs ds
  | _, _, .nil => .nil
  | _, _, .cons h1 h2 => .cons (Dp.mono e h1) (DpAll.mono e h2)
end
section
variable {K : PySem.W.Frag} {H H' : Hp} {v : V} {vs ws : List V} {d : PyData} {ds es : List PyData} {a : Addr}
theorem DpAll.len : ∀ {vs : List V} {ds : List PyData}, DpAll K H vs ds → vs.length = ds.length
  | _, _, .nil => rfl
  | _, _, .cons _ h => congrArg Nat.succ (DpAll.len h)
theorem DpAll.get : ∀ {vs : List V} {ds : List PyData} {i : Nat} {d : PyData}, DpAll K H vs ds → ds[i]? = some d → ∃ v, vs[i]? = some v ∧ Dp K H v d
  | _, _, _, _, .nil, e => by simp at e
  | _, _, 0, _, .cons h _, e => by simp at e; subst e; exact ⟨_, rfl, h⟩
  | _, _, i + 1, d, .cons _ h, e => by
    obtain ⟨v, h1, h2⟩ := DpAll.get (i := i) (d := d) h (by simpa using e)
    exact ⟨v, by simpa using h1, h2⟩
theorem DpAll.getV : ∀ {vs : List V} {ds : List PyData} {i : Nat} {v : V}, DpAll K H vs ds → vs[i]? = some v → ∃ d, ds[i]? = some d ∧ Dp K H v d
  | _, _, _, _, .nil, e => by simp at e
  | _, _, 0, _, .cons h _, e => by simp at e; subst e; exact ⟨_, rfl, h⟩
  | _, _, i + 1, d, .cons _ h, e => by
    obtain ⟨v, h1, h2⟩ := DpAll.getV (i := i) (v := d) h (by simpa using e)
    exact ⟨v, by simpa using h1, h2⟩
theorem DpAll.app : ∀ {vs ws : List V} {ds es : List PyData}, DpAll K H vs ds → DpAll K H ws es → DpAll K H (vs ++ ws) (ds ++ es)
  | _, _, _, _, .nil, h => h
  | _, _, _, _, .cons h1 h2, h => .cons h1 (DpAll.app h2 h)
theorem DpAll.drop : ∀ (n : Nat) {vs : List V} {ds : List PyData}, DpAll K H vs ds → DpAll K H (vs.drop n) (ds.drop n)
  | 0, _, _, h => h
  | _ + 1, _, _, .nil => .nil
  | n + 1, _, _, .cons _ h => DpAll.drop n h
theorem DpAll.take : ∀ (n : Nat) {vs : List V} {ds : List PyData}, DpAll K H vs ds → DpAll K H (vs.take n) (ds.take n)
  | 0, _, _, _ => .nil
  | _ + 1, _, _, .nil => .nil
  | n + 1, _, _, .cons h h2 => .cons h (DpAll.take n h2)
theorem DpAll.rev : ∀ {vs : List V} {ds : List PyData}, DpAll K H vs ds → DpAll K H vs.reverse ds.reverse
  | _, _, .nil => .nil
  | _, _, .cons h h2 => by
    rw [List.reverse_cons, List.reverse_cons]
    exact DpAll.app (DpAll.rev h2) (.cons h .nil)
/-- t[lo:hi] of data -/
def cutP (ds : List PyData) (lo hi : Option Int) : List PyData := (ds.drop (HT.sIx ds.length 0 lo)).take (HT.sIx ds.length ds.length hi - HT.sIx ds.length 0 lo)
theorem DpAll.cut {lo hi : Option Int} (h : DpAll K H vs ds) : DpAll K H (cutV vs lo hi) (cutP ds lo hi) := by
  unfold cutV cutP
  rw [h.len]
  exact DpAll.take _ (DpAll.drop _ h)
theorem Dp.tup_inv {ds : List PyData} (h : Dp K H v (.tuple ds)) : ∃ a xs, v = .ref a ∧ SqT K H a xs ∧ DpAll K H xs ds := by
  cases h with
  | tup hs ha => exact ⟨_, _, rfl, hs, ha⟩
theorem Dp.lst_inv {ds : List PyData} (h : Dp K H v (.list ds)) : ∃ a xs, v = .ref a ∧ SqL K H a xs ∧ DpAll K H xs ds := by
  cases h with
  | lst hs ha => exact ⟨_, _, rfl, hs, ha⟩
theorem Dp.str_inv {z : Str} (h : Dp K H v (.str z)) : v = .str z := by cases h; rfl
theorem Dp.int_inv {z : Int} (h : Dp K H v (.int z)) : v = .int z := by cases h; rfl
theorem Dp.non_inv (h : Dp K H v .none) : v = .non := by cases h; rfl
theorem Dp.bl_inv {z : Bool} (h : Dp K H v (.bool z)) : v = .bl z := by cases h; rfl
theorem DpAll.nil_inv (h : DpAll K H vs []) : vs = [] := by cases h; rfl
theorem DpAll.cons_inv (h : DpAll K H vs (d :: ds)) : ∃ w ws, vs = w :: ws ∧ Dp K H w d ∧ DpAll K H ws ds := by
  cases h with
  | cons h1 h2 => exact ⟨_, _, rfl, h1, h2⟩
theorem DpAll.strs : ∀ (zs : List Str), DpAll K H (zs.map V.str) (zs.map PyData.str)
  | [] => .nil
  | z :: r => .cons (.str z) (DpAll.strs r)
theorem DpAll.strs_inv : ∀ {zs : List Str} {vs : List V}, DpAll K H vs (zs.map PyData.str) → vs = zs.map V.str
  | [], _, h => by cases h; rfl
  | z :: r, _, h => by
    obtain ⟨w, ws, rfl, h1, h2⟩ := DpAll.cons_inv h
    rw [Dp.str_inv h1, DpAll.strs_inv h2]; rfl
theorem DpAll.ints_inv : ∀ {zs : List Int} {vs : List V}, DpAll K H vs (zs.map PyData.int) → vs = zs.map V.int
  | [], _, h => by cases h; rfl
  | z :: r, _, h => by
    obtain ⟨w, ws, rfl, h1, h2⟩ := DpAll.cons_inv h
    rw [Dp.int_inv h1, DpAll.ints_inv h2]; rfl
theorem DpAll.ints : ∀ (zs : List Int), DpAll K H (zs.map V.int) (zs.map PyData.int)
  | [] => .nil
  | z :: r => .cons (.int z) (DpAll.ints r)
theorem Dp.of_tup (e : H a = some (.tup vs)) (h : DpAll K H vs ds) : Dp K H (.ref a) (.tuple ds) := .tup (sqt e) h
theorem Dp.of_lst (e : H a = some (.lst vs)) (h : DpAll K H vs ds) : Dp K H (.ref a) (.list ds) := .lst (sql e) h
end
end L2
namespace CW
open PySem PySem.Spec PyProof.Rows L2
section
variable {K : PySem.W.Frag} {σ : L2.St} {H : Hp} {Q : VK} {a b : Addr} {xs ys : List V} {ds es : List PyData} {v x y : V} {d e : PyData} {i : Int}
/-! steps over data -/
theorem d_ix (h : Dp K H x (.tuple ds)) (ha : atI ds i = some d) (q : ∀ v, Dp K H v d → Q v H) : rIx K x (.int i) H Q := by
  obtain ⟨a, xs, rfl, hs, hd⟩ := Dp.tup_inv h
  unfold atI at ha
  cases e : ixN ds.length i with
  | none => rw [e] at ha; cases ha
  | some j =>
    rw [e] at ha
    obtain ⟨v, hv, hd2⟩ := DpAll.get hd (show ds[j]? = some d from ha)
    exact v_ix_t hs (by unfold atI; rw [hd.len, e]; exact hv) (q v hd2)
theorem d_ixl (h : Dp K H x (.list ds)) (ha : atI ds i = some d) (q : ∀ v, Dp K H v d → Q v H) : rIx K x (.int i) H Q := by
  obtain ⟨a, xs, rfl, hs, hd⟩ := Dp.lst_inv h
  unfold atI at ha
  cases e : ixN ds.length i with
  | none => rw [e] at ha; cases ha
  | some j =>
    rw [e] at ha
    obtain ⟨v, hv, hd2⟩ := DpAll.get hd (show ds[j]? = some d from ha)
    exact v_ix_l hs (by unfold atI; rw [hd.len, e]; exact hv) (q v hd2)
theorem d_len (h : Dp K H x (.tuple ds)) (q : Q (.int ds.length) H) : rLenU K [x] H Q := by
  obtain ⟨a, xs, rfl, hs, hd⟩ := Dp.tup_inv h
  exact v_len_t hs (by rw [hd.len]; exact q)
theorem d_lenl (h : Dp K H x (.list ds)) (q : Q (.int ds.length) H) : rLenU K [x] H Q := by
  obtain ⟨a, xs, rfl, hs, hd⟩ := Dp.lst_inv h
  exact v_len_l hs (by rw [hd.len]; exact q)
theorem d_plus (h1 : Dp K H x (.tuple ds)) (h2 : Dp K H y (.tuple es)) (hz : ds.length + es.length ≤ 10000000) (q : ∀ v H', Xt H H' → Dp K H' v (.tuple (ds ++ es)) → Q v H') : rPlus K x y H Q := by
  obtain ⟨a, xs, rfl, hs, hd⟩ := Dp.tup_inv h1
  obtain ⟨b, ys, rfl, hs2, hd2⟩ := Dp.tup_inv h2
  exact v_plus_tup hs hs2 (by rw [hd.len, hd2.len]; exact szL hz) fun p H' x' hp => q _ _ x' (.tup hp (DpAll.mono x' (DpAll.app hd hd2)))
theorem d_newT (h : DpAll K H xs ds) (hz : ds.length ≤ 100000) (q : ∀ v H', Xt H H' → Dp K H' v (.tuple ds) → Q v H') : NewT xs H Q :=
  v_newT (by rw [h.len]; exact hz) fun p H2 _ x2 e => q _ _ x2 (.of_tup e (DpAll.mono x2 h))
theorem d_newL (h : DpAll K H xs ds) (hz : ds.length ≤ 100000) (q : ∀ p H', H p = none → Xt H H' → H' p = some (.lst xs) → Dp K H' (.ref p) (.list ds) → Q (.ref p) H') : NewL xs H Q :=
  v_new (by rw [h.len]; exact hz) fun p H2 n x2 e => q _ _ n x2 e (.of_lst e (DpAll.mono x2 h))
theorem d_cut {lo hi : Option Int} (h : Dp K H x (.tuple ds)) (q : ∀ v H', Xt H H' → Dp K H' v (.tuple (cutP ds lo hi)) → Q v H') : rSlU K x lo hi H Q := by
  obtain ⟨a, xs, rfl, hs, hd⟩ := Dp.tup_inv h
  refine .inr (.inr ⟨a, xs, rfl, hs, fun he => q _ _ (xrefl H) (.tup hs ?_), fun _ p hp => q _ _ (xnew hp) (.of_tup upd_same (DpAll.mono (xnew hp) (DpAll.cut hd)))⟩)
  have e2 : cutP ds lo hi = ds := by
    unfold cutP
    rw [← hd.len, he.1, he.2, List.drop_zero, Nat.sub_zero, hd.len]
    exact List.take_length
  rw [e2]; exact hd
theorem d_cutl {lo hi : Option Int} (h : Dp K H x (.list ds)) (q : ∀ p H', H p = none → Xt H H' → Dp K H' (.ref p) (.list (cutP ds lo hi)) → Q (.ref p) H') : rSlU K x lo hi H Q := by
  obtain ⟨a, xs, rfl, hs, hd⟩ := Dp.lst_inv h
  exact v_sl_l hs fun p H' n x' e => q p H' n x' (.of_lst e (DpAll.mono x' (DpAll.cut hd)))
end
end CW

set_option Elab.async false
set_option linter.all false
set_option maxRecDepth 100000
set_option maxHeartbeats 1000000
/-! data that never changes; comprehensions over data; objects and dicts -/
namespace CW
open PySem PySem.Spec PyProof.Rows L2
mutual
def Im : PyData → Bool
  | .none => true
  | .bool _ => true
  | .int _ => true
  | .str _ => true
  | .list _ => false
  | .dict _ => false
  | .tuple ds => ImAll ds
def ImAll : List PyData → Bool
  | [] => true
  | d :: ds => Im d && ImAll ds
end
theorem imAll_iff : ∀ {ds : List PyData}, ImAll ds = true ↔ ∀ d ∈ ds, Im d = true
  | [] => by simp [ImAll]
  | d :: ds => by
    rw [ImAll, Bool.and_eq_true, imAll_iff (ds := ds)]
    simp
end CW
namespace L2
open PySem PySem.Spec PyProof.Rows CW
theorem SqT.upd {K : PySem.W.Frag} {H : Hp} {a b : Addr} {xs zs : List V} {o : HO} (hb : H b = some (.lst zs)) (h : SqT K H a xs) : SqT K (L2.upd H b o) a xs := by
  rcases h with (h | ⟨u, h⟩) | h
  · refine .inl (.inl ?_)
    rw [upd_ne (ne_of h hb (by intro z; cases z))]; exact h
  · refine .inl (.inr ⟨u, ?_⟩)
    rw [upd_ne (ne_of h hb (by intro z; cases z))]; exact h
  · exact .inr h
theorem SqT.updD {K : PySem.W.Frag} {H : Hp} {a b : Addr} {xs : List V} {zs : List (Key × V)} {o : HO} (hb : H b = some (.dK zs)) (h : SqT K H a xs) : SqT K (L2.upd H b o) a xs := by
  rcases h with (h | ⟨u, h⟩) | h
  · refine .inl (.inl ?_)
    rw [upd_ne (ne_of h hb (by intro z; cases z))]; exact h
  · refine .inl (.inr ⟨u, ?_⟩)
    rw [upd_ne (ne_of h hb (by intro z; cases z))]; exact h
  · exact .inr h
mutual
theorem Dp.im {K : PySem.W.Frag} {H H' : Hp} (f : ∀ a xs, SqT K H a xs → SqT K H' a xs) : ∀ {v : V} {d : PyData}, Im d = true → Dp K H v d → Dp K H' v d
  | _, _, _, .non => .non
  | _, _, _, .bl b => .bl b
  | _, _, _, .int i => .int i
  | _, _, _, .str x => .str x
  | _, _, im, .lst hs ha => by simp [Im] at im
  | _, _, im, .tup hs ha => .tup (f _ _ hs) (DpAll.im f (by simpa [Im] using im) ha)
theorem DpAll.im {K : PySem.W.Frag} {H H' : Hp} (f : ∀ a xs, SqT K H a xs → SqT K H' a xs) : ∀ {vs : List V} {ds : List PyData}, ImAll ds = true → DpAll K H vs ds → DpAll K H' vs ds
  | _, _, _, .nil => .nil
  | _, _, im, .cons h1 h2 => by
    rw [ImAll, Bool.and_eq_true] at im
    exact .cons (Dp.im f im.1 h1) (DpAll.im f im.2 h2)
end
end L2
namespace CW
open PySem PySem.Spec PyProof.Rows L2
section
variable {K : PySem.W.Frag} {σ : L2.St} {H : Hp} {Q : VK} {te : TE} {vs : List Nat} {Dl : Addr} {g : TG} {tt : TT} {xs : List V} {ds : List PyData} {J : It} {G : Hp → Prop}
/-- a comprehension over data that gives data -/
theorem b_dat (w : Walk J xs.length G (YAt xs)) (hG : ∀ H', Xt H H' → G H') (hds : DpAll K H xs ds) (f : PyData → PyData) (hf : ∀ d ∈ ds, Im (f d) = true) (hn : ds.length < 10000000)
    (body : ∀ v d H', Dp K H' v d → d ∈ ds → Xt H H' → ∀ R : VK, (∀ y H2, Xt H' H2 → Dp K H2 y (f d) → R y H2) → g v (wipe σ vs) H' fun σ2 H2 => wipe σ2 vs = wipe σ vs ∧ te σ2 H2 R)
    (k : ∀ Dl ys H2, H Dl = none → Xt H H2 → H2 Dl = some (.lst ys) → DpAll K H2 ys (ds.map f) → Q (.ref Dl) H2)
    (gm : ∀ v σ H R R', (∀ σ2 H2, R σ2 H2 → R' σ2 H2) → g v σ H R → g v σ H R') : LcB J g tYes te vs σ Q H := fun Dl hD => by
  have hl := hds.len
  refine lc_it w (g := g) (tt := tYes) (te := te) (σ := σ) (vs := vs) (fun i H' => Xt H H' ∧ ∃ ys, H' Dl = some (.lst ys) ∧ DpAll K H' ys ((ds.map f).take i))
    ⟨xnew hD, [], upd_same, by rw [List.take_zero]; exact .nil⟩ (fun i H' _ p => hG H' p.1) (fun i x H' H2 hi p hy => ?_) (fun H' p => ?_)
  · obtain ⟨hx, ys, e, hys⟩ := p
    obtain ⟨rfl, hxi⟩ := hy
    obtain ⟨d, hd, hdp⟩ := DpAll.getV hds hxi
    have hmem : d ∈ ds := List.mem_of_getElem? hd
    have hb := body x d H2 (Dp.mono hx hdp) hmem hx (fun y H4 => ∃ acc, H4 Dl = some (.lst acc) ∧ acc.length < sizeLine ∧ (Xt H (upd H4 Dl (.lst (acc ++ [y]))) ∧ ∃ ys, (upd H4 Dl (.lst (acc ++ [y]))) Dl = some (.lst ys) ∧ DpAll K (upd H4 Dl (.lst (acc ++ [y]))) ys ((ds.map f).take (i + 1)))) (fun y H4 x4 hy => by
      have e4 := x4 _ _ e
      have hys4 := DpAll.mono x4 hys
      have yl : ys.length ≤ i := by rw [hys.len, List.length_take]; omega
      refine ⟨ys, e4, szL2 (by omega), xmut (xtr hx x4) hD, ys ++ [y], upd_same, ?_⟩
      have et : (ds.map f).take (i + 1) = (ds.map f).take i ++ [f d] := by rw [List.take_add_one, List.getElem?_map, hd]; rfl
      rw [et]
      have im1 : ImAll ((ds.map f).take i) = true := imAll_iff.mpr fun z hz => by
        obtain ⟨c, hc, rfl⟩ := List.mem_map.mp (List.mem_of_mem_take hz)
        exact hf c hc
      exact DpAll.app (DpAll.im (fun a zs h => SqT.upd e4 h) im1 hys4) (.cons (Dp.im (fun a zs h => SqT.upd e4 h) (hf d hmem) hy) .nil))
    exact gm _ _ _ _ _ (fun σ2 H3 h => ⟨h.1, by refine k_yesT ?_; rw [if_pos rfl]; exact h.2⟩) hb
  · obtain ⟨hx, ys, e, hys⟩ := p
    rw [List.take_of_length_le (by rw [List.length_map, hl]; exact Nat.le_refl _)] at hys
    exact k Dl ys H' hD hx e hys
theorem gm_name {j : Nat} : ∀ (v : V) (σ : L2.St) (H : Hp) (R R' : L2.St → Hp → Prop), (∀ σ2 H2, R σ2 H2 → R' σ2 H2) → gName j v σ H R → gName j v σ H R' := fun _ _ _ _ _ h q => h _ _ q
def GsM (t : TGs) : Prop := ∀ vs σ H R R', (∀ σ2 H2, R σ2 H2 → R' σ2 H2) → t vs σ H R → t vs σ H R'
theorem gsm_nil : GsM gNil := fun _ _ _ _ _ h q => ⟨q.1, h _ _ q.2⟩
theorem gsm_cons {j : Nat} {t : TGs} (ht : GsM t) : GsM (gCons (gName j) t) := fun _ _ _ _ _ h ⟨v, r, e, q⟩ => ⟨v, r, e, ht _ _ _ _ _ h q⟩
theorem gm_tup {n : Nat} {t : TGs} (ht : GsM t) : ∀ (v : V) (σ : L2.St) (H : Hp) (R R' : L2.St → Hp → Prop), (∀ σ2 H2, R σ2 H2 → R' σ2 H2) → gTup K n t v σ H R → gTup K n t v σ H R' :=
  fun _ _ _ _ _ h ⟨a, xs, e, hs, hl, q⟩ => ⟨a, xs, e, hs, hl, ht _ _ _ _ _ h q⟩
/-! targets -/
theorem k_gtup {n : Nat} {t : TGs} {v : V} {R : L2.St → Hp → Prop} (h : Dp K H v (.tuple ds)) (hl : ds.length = n) (q : ∀ xs, DpAll K H xs ds → t xs σ H R) : gTup K n t v σ H R := by
  obtain ⟨a, xs, rfl, hs, hd⟩ := Dp.tup_inv h
  exact ⟨a, xs, rfl, hs, by rw [hd.len]; exact hl, q xs hd⟩
theorem k_gcons {j : Nat} {t : TGs} {d : PyData} {R : L2.St → Hp → Prop} (h : DpAll K H xs (d :: ds)) (q : ∀ v ws, Dp K H v d → DpAll K H ws ds → t ws (σ.set j (some v)) H R) : gCons (gName j) t xs σ H R := by
  obtain ⟨w, ws, rfl, h1, h2⟩ := DpAll.cons_inv h
  exact ⟨w, ws, rfl, q w ws h1 h2⟩
theorem k_gnil {R : L2.St → Hp → Prop} (h : DpAll K H xs []) (q : R σ H) : gNil xs σ H R := ⟨DpAll.nil_inv h, q⟩
end
/-! dicts with text keys and data as values -/
section
variable {K : PySem.W.Frag} {H H' : Hp} {kvs : List (Key × V)} {F : Str → Option PyData}
def HasD (K : PySem.W.Frag) (H : Hp) (kvs : List (Key × V)) (F : Str → Option PyData) : Prop := ∀ z : Str, match F z with
  | some d => Im d = true ∧ ∃ v, valV kvs (Sum.inr z : Key) = some v ∧ Dp K H v d
  | none => valV kvs (Sum.inr z : Key) = none
theorem HasD.nil : HasD K H [] (fun _ => none) := fun _ => rfl
theorem HasD.put {v : V} {d : PyData} {x : Str} (h : HasD K H kvs F) (im : Im d = true) (hd : Dp K H v d) : HasD K H (putK kvs (Sum.inr x : Key) v) (fun z => if z = x then some d else F z) := fun z => by
  by_cases e : z = x
  · subst e
    simp only [if_true]
    refine ⟨im, v, ?_, hd⟩
    rw [valV_put, if_pos rfl]
  · simp only [if_neg e]
    have hz := h z
    have e2 : ¬ (Sum.inr z : Key) = Sum.inr x := fun q => e (Sum.inr.inj q)
    cases hF : F z with
    | none =>
      rw [hF] at hz
      show valV _ _ = none
      rw [valV_put, if_neg e2]; exact hz
    | some d2 =>
      rw [hF] at hz
      obtain ⟨i2, w, h1, h2⟩ := hz
      exact ⟨i2, w, by rw [valV_put, if_neg e2]; exact h1, h2⟩
theorem HasD.mono (e : Xt H H') (h : HasD K H kvs F) : HasD K H' kvs F := fun z => by
  have hz := h z
  cases hF : F z with
  | none => rw [hF] at hz; exact hz
  | some d => rw [hF] at hz; obtain ⟨i, v, h1, h2⟩ := hz; exact ⟨i, v, h1, Dp.mono e h2⟩
theorem HasD.im (f : ∀ a xs, SqT K H a xs → SqT K H' a xs) (h : HasD K H kvs F) : HasD K H' kvs F := fun z => by
  have hz := h z
  cases hF : F z with
  | none => rw [hF] at hz; exact hz
  | some d => rw [hF] at hz; obtain ⟨i, v, h1, h2⟩ := hz; exact ⟨i, v, h1, Dp.im f i h2⟩
def tabF (l : List (Str × PyData)) : Str → Option PyData := l.foldl (fun F p z => if z = p.1 then some p.2 else F z) (fun _ => none)
theorem tabF_snoc (l : List (Str × PyData)) (p : Str × PyData) : tabF (l ++ [p]) = fun z => if z = p.1 then some p.2 else tabF l z := by
  unfold tabF
  rw [List.foldl_append]
  rfl
end
section
variable {K : PySem.W.Frag} {σ : L2.St} {H : Hp} {Q : VK} {tk tv : TE} {vs : List Nat} {g : TG} {tt : TT} {xs : List V} {ds : List PyData} {J : It} {n : Nat} {G : Hp → Prop} {Y : Nat → Hp → V → Hp → Prop}
theorem dc_it (w : Walk J n G Y) {H1 : Hp} {D : Addr} {Qd : Hp → Prop} (Pv : Nat → Hp → Prop) (h0 : Pv 0 (upd H1 D (.dK []))) (hG : ∀ i H, i ≤ n → Pv i H → G H)
    (hs : ∀ i x H H', i < n → Pv i H → Y i H x H' → g x (wipe σ vs) H' fun σ2 H2 => wipe σ2 vs = wipe σ vs ∧ tt σ2 H2 fun b H3 =>
      if b = true then tk σ2 H3 fun y H4 => tv σ2 H4 fun z H5 => ∃ kvs k, y = kV k ∧ H5 D = some (.dK kvs) ∧ kvs.length < sizeLine ∧ Pv (i + 1) (upd H5 D (.dK (putK kvs k z))) else Pv (i + 1) H3) (hd : ∀ H, Pv n H → Qd H) :
    ∃ W : Nat → Nat → Hp → Prop, (∃ m, W 0 m (upd H1 D (.dK []))) ∧ ∀ i m H, W i m H →
      (J.stop i H ∧ Qd H) ∨ (J.go i H ∧ ∃ Nx : Hp → Prop, (∀ H', Nx H' → ∃ m', m' < m ∧ W (i + 1) m' H') ∧ ∀ x H', J.yld i H x H' → g x (wipe σ vs) H' fun σ2 H2 => wipe σ2 vs = wipe σ vs ∧ tt σ2 H2 fun b H3 =>
        if b = true then tk σ2 H3 fun y H4 => tv σ2 H4 fun z H5 => ∃ kvs k, y = kV k ∧ H5 D = some (.dK kvs) ∧ kvs.length < sizeLine ∧ Nx (upd H5 D (.dK (putK kvs k z))) else Nx H3) := by
  refine ⟨fun i m H => m = n - i ∧ i ≤ n ∧ Pv i H, ⟨n, by simp, Nat.zero_le _, h0⟩, ?_⟩
  rintro i m H ⟨rfl, hi, p⟩
  have q := hG i H hi p
  by_cases hlt : i < n
  · exact .inr ⟨w.goes i H hlt q, Pv (i + 1), fun H' p' => ⟨n - (i + 1), by omega, rfl, hlt, p'⟩, fun x H' y => hs i x H H' hlt p (w.yields i H x H' hlt q y)⟩
  · have e : i = n := by omega
    subst e
    exact .inl ⟨w.stops H q, hd H p⟩
def DcB (J : It) (g : TG) (tt : TT) (tk tv : TE) (vs : List Nat) (σ : L2.St) (Q : VK) (H1 : Hp) : Prop := ∀ D, H1 D = none → ∃ W : Nat → Nat → Hp → Prop, (∃ m, W 0 m (upd H1 D (.dK []))) ∧ ∀ i m H, W i m H →
  (J.stop i H ∧ Q (.ref D) H) ∨ (J.go i H ∧ ∃ Nx : Hp → Prop, (∀ H', Nx H' → ∃ m', m' < m ∧ W (i + 1) m' H') ∧ ∀ x H', J.yld i H x H' → g x (wipe σ vs) H' fun σ2 H2 => wipe σ2 vs = wipe σ vs ∧ tt σ2 H2 fun b H3 =>
    if b = true then tk σ2 H3 fun y H4 => tv σ2 H4 fun z H5 => ∃ kvs k, y = kV k ∧ H5 D = some (.dK kvs) ∧ kvs.length < sizeLine ∧ Nx (upd H5 D (.dK (putK kvs k z))) else Nx H3)
theorem k_dc {wi : TI} (h : wi σ H fun J H1 => DcB J g tt tk tv vs σ Q H1) : tDc wi g tt tk tv vs σ H Q := h
/-- {k: v for .. in data}: kf and vf tell the key and the value -/
theorem b_dic (w : Walk J xs.length G (YAt xs)) (hG : ∀ H', Xt H H' → G H') (hds : DpAll K H xs ds) (kf : PyData → Str) (vf : PyData → PyData) (hf : ∀ d ∈ ds, Im (vf d) = true) (hn : ds.length < 10000000)
    (body : ∀ v d H', Dp K H' v d → d ∈ ds → Xt H H' → ∀ R : V → V → Hp → Prop, (∀ y H3, Xt H' H3 → Dp K H3 y (vf d) → R (.str (kf d)) y H3) → g v (wipe σ vs) H' fun σ2 H2 => wipe σ2 vs = wipe σ vs ∧ tk σ2 H2 fun a H3 => tv σ2 H3 fun b H4 => R a b H4)
    (k : ∀ Dl kvs H2, H Dl = none → Xt H H2 → H2 Dl = some (.dK kvs) → kvs.length ≤ ds.length → HasD K H2 kvs (tabF (ds.map fun d => (kf d, vf d))) → Q (.ref Dl) H2)
    (gm : ∀ v σ H R R', (∀ σ2 H2, R σ2 H2 → R' σ2 H2) → g v σ H R → g v σ H R') : DcB J g tYes tk tv vs σ Q H := fun Dl hD => by
  have hl := hds.len
  refine dc_it w (g := g) (tt := tYes) (tk := tk) (tv := tv) (σ := σ) (vs := vs) (fun i H' => Xt H H' ∧ ∃ kvs, H' Dl = some (.dK kvs) ∧ kvs.length ≤ i ∧ HasD K H' kvs (tabF ((ds.map fun d => (kf d, vf d)).take i)))
    ⟨xnew hD, [], upd_same, Nat.le_refl _, fun _ => rfl⟩ (fun i H' _ p => hG H' p.1) (fun i x H' H2 hi p hy => ?_) (fun H' p => ?_)
  · obtain ⟨hx, kvs, e, hkl, hk⟩ := p
    obtain ⟨rfl, hxi⟩ := hy
    obtain ⟨d, hd, hdp⟩ := DpAll.getV hds hxi
    have hmem : d ∈ ds := List.mem_of_getElem? hd
    have hb := body x d H2 (Dp.mono hx hdp) hmem hx (fun y z H5 => ∃ kvs k, y = kV k ∧ H5 Dl = some (.dK kvs) ∧ kvs.length < sizeLine ∧ (Xt H (upd H5 Dl (.dK (putK kvs k z))) ∧ ∃ kvs', (upd H5 Dl (.dK (putK kvs k z))) Dl = some (.dK kvs') ∧ kvs'.length ≤ i + 1 ∧ HasD K (upd H5 Dl (.dK (putK kvs k z))) kvs' (tabF ((ds.map fun d => (kf d, vf d)).take (i + 1))))) (fun y H4 x4 hy => by
      have e4 := x4 _ _ e
      have hk4 := (HasD.mono x4 hk).put (x := kf d) (hf d hmem) hy
      have et : (ds.map fun d => (kf d, vf d)).take (i + 1) = (ds.map fun d => (kf d, vf d)).take i ++ [(kf d, vf d)] := by rw [List.take_add_one, List.getElem?_map, hd]; rfl
      refine ⟨kvs, Sum.inr (kf d), rfl, e4, szL2 (by omega), xmut (xtr hx x4) hD, putK kvs (Sum.inr (kf d)) y, upd_same, ?_, ?_⟩
      · unfold putK
        split
        · rw [List.length_map]; omega
        · rw [List.length_append, List.length_singleton]; omega
      · rw [et, tabF_snoc]
        exact HasD.im (fun a zs h => SqT.updD e4 h) hk4)
    exact gm _ _ _ _ _ (fun σ2 H3 h => ⟨h.1, by refine k_yesT ?_; rw [if_pos rfl]; exact h.2⟩) hb
  · obtain ⟨hx, kvs, e, hkl, hk⟩ := p
    rw [List.take_of_length_le (by rw [List.length_map, hl]; exact Nat.le_refl _)] at hk
    exact k Dl kvs H' hD hx e (by omega) hk
end
end CW

set_option Elab.async false
set_option linter.all false
set_option maxRecDepth 100000
set_option maxHeartbeats 1000000
/-! tuple(..), list(..), objects, dicts by keys -/
namespace CW
open PySem PySem.Spec PyProof.Rows L2
section
variable {X : Cx}
def rTup (K : PySem.W.Frag) : List V → Hp → VK → Prop := fun xs H Q => ∃ p ys, xs = [.ref p] ∧ ((SqL K H p ys ∧ ∀ l, H l = none → Q (.ref l) (upd H l (.tup ys))) ∨ (SqT K H p ys ∧ Q (.ref p) H))
theorem call_tupU : CallR X (.type "tuple") (rTup X.K) := call_tuple_of
def rLst (K : PySem.W.Frag) : List V → Hp → VK → Prop := fun xs H Q => ∃ p ys, xs = [.ref p] ∧ (SqL K H p ys ∨ SqT K H p ys) ∧ ∀ l, H l = none → Q (.ref l) (upd H l (.lst ys))
theorem call_lstU : CallR X (.type "list") (rLst X.K) := call_list_of
end
section
variable {K : PySem.W.Frag} {σ : L2.St} {H : Hp} {Q : VK} {D : Ends} {te ta tv td ty : TE} {a : Addr} {x y v : V} {ds : List PyData} {f m : Str} {C dx : Addr} {fs : List (Str × V)} {t : TA} {xs : List V}
theorem d_tupl (h : Dp K H x (.list ds)) (q : ∀ v H', Xt H H' → Dp K H' v (.tuple ds) → Q v H') : rTup K [x] H Q := by
  obtain ⟨a, xs, rfl, hs, hd⟩ := Dp.lst_inv h
  exact ⟨a, xs, rfl, .inl ⟨hs, fun l hl => q _ _ (xnew hl) (.of_tup upd_same (DpAll.mono (xnew hl) hd))⟩⟩
theorem d_tupt (h : Dp K H x (.tuple ds)) (q : Q x H) : rTup K [x] H Q := by
  obtain ⟨a, xs, rfl, hs, hd⟩ := Dp.tup_inv h
  exact ⟨a, xs, rfl, .inr ⟨hs, q⟩⟩
theorem v_tupl (h : SqL K H a xs) (q : ∀ p H', H p = none → Xt H H' → H' p = some (.tup xs) → Q (.ref p) H') : rTup K [.ref a] H Q :=
  ⟨a, xs, rfl, .inl ⟨h, fun l hl => q l _ hl (xnew hl) upd_same⟩⟩
theorem d_lstl (h : Dp K H x (.list ds) ∨ Dp K H x (.tuple ds)) (q : ∀ p xs H', H p = none → Xt H H' → H' p = some (.lst xs) → DpAll K H' xs ds → Q (.ref p) H') : rLst K [x] H Q := by
  rcases h with h | h
  · obtain ⟨a, xs, rfl, hs, hd⟩ := Dp.lst_inv h
    exact ⟨a, xs, rfl, .inl hs, fun l hl => q l xs _ hl (xnew hl) upd_same (DpAll.mono (xnew hl) hd)⟩
  · obtain ⟨a, xs, rfl, hs, hd⟩ := Dp.tup_inv h
    exact ⟨a, xs, rfl, .inr hs, fun l hl => q l xs _ hl (xnew hl) upd_same (DpAll.mono (xnew hl) hd)⟩
/-! fields -/
def rFld (K : PySem.W.Frag) (f : Str) : V → Hp → VK → Prop := fun x H Q => ∃ a C dx fs v, x = .ref a ∧ H a = some (.ins C dx fs) ∧ Cls K C ∧ NoAttr K C f ∧ fs.lookup f = some v ∧ Q v H
theorem k_fld (h : ta σ H fun x H1 => rFld K f x H1 Q) : tFld K ta f σ H Q := h
theorem v_fld (e : H a = some (.ins C dx fs)) (c : Cls K C) (n : NoAttr K C f) (l : fs.lookup f = some v) (q : Q v H) : rFld K f (.ref a) H Q := ⟨a, C, dx, fs, v, rfl, e, c, n, l, q⟩
def rSFld (K : PySem.W.Frag) (f : Str) (D : Ends) (σ : L2.St) : V → V → Hp → Prop := fun y x H => ∃ a C dx fs, x = .ref a ∧ H a = some (.ins C dx fs) ∧ Cls K C ∧ NoAttr K C f ∧ fs.length < 1000 ∧ D.nx σ (upd H a (.ins C dx (putF f y fs)))
theorem k_sfld (h : tv σ H fun y H1 => ta σ H1 fun x H2 => rSFld K f D σ y x H2) : sFld K ta tv f D σ H := h
theorem v_sfld (e : H a = some (.ins C dx fs)) (c : Cls K C) (n : NoAttr K C f) (l : fs.length < 1000) (q : D.nx σ (upd H a (.ins C dx (putF f y fs)))) : rSFld K f D σ y (.ref a) H := ⟨a, C, dx, fs, rfl, e, c, n, l, q⟩
/-! dicts -/
def rDGet (ty : TE) (σ : L2.St) : V → Hp → VK → Prop := fun x H1 Q => ∃ a, x = .ref a ∧ IsD H1 a ∧ ty σ H1 fun y H2 => ∃ o, DGet H2 a y o ∧ Q (o.getD .non) H2
theorem k_dget (h : td σ H fun x H1 => rDGet ty σ x H1 Q) : tDGet1 td ty σ H Q := h
theorem k_din {R : VK} (h : ty σ H fun y H1 => td σ H1 fun x H2 => ∃ a o, x = .ref a ∧ DGet H2 a y o ∧ R (.bl o.isSome) H2) : tDIn ty td σ H R := h
theorem k_dput (h : tv σ H fun v H1 => td σ H1 fun x H2 => ty σ H2 fun y H3 => ∃ a H4, x = .ref a ∧ DPut H3 a y v H4 ∧ D.nx σ H4) : sDPut td ty tv D σ H := h
theorem v_dput {kvs : List (Key × V)} {z : Str} (e : H a = some (.dK kvs)) (hl : kvs.length < 10000000) (q : D.nx σ (upd H a (.dK (putK kvs (Sum.inr z : Key) v)))) : ∃ a' H4, V.ref a = .ref a' ∧ DPut H a' (.str z) v H4 ∧ D.nx σ H4 :=
  ⟨a, _, rfl, DPut.k (k := Sum.inr z) e (szL2 hl), q⟩
theorem v_din {kvs : List (Key × V)} {z : Str} {R : VK} (e : H a = some (.dK kvs)) (q : R (.bl (valV kvs (Sum.inr z : Key)).isSome) H) : ∃ a' o, V.ref a = .ref a' ∧ DGet H a' (.str z) o ∧ R (.bl o.isSome) H :=
  ⟨a, _, rfl, DGet.k (k := Sum.inr z) e, q⟩
theorem k_dnew (q : ∀ p H2, H p = none → Xt H H2 → H2 p = some (.dK []) → Q (.ref p) H2) : tDNewK σ H Q := fun p hp => q p _ hp (xnew hp) upd_same
/-! methods, makings -/
theorem k_meth {sp : Sp} {dvs : List V} {E : XK} (h : ta σ H fun x H1 => ∃ a dx fs, x = .ref a ∧ H1 a = some (.ins C dx fs) ∧ fs.lookup m = none ∧ t σ H1 fun vs H2 => sp (x :: (vs ++ dvs)) H2 Q E) : tMeth C m sp dvs E ta t σ H Q := h
theorem k_make {sp : Sp} {dvs : List V} {E : XK} (h : t σ H fun vs H1 => ∀ x dx, H1 x = none → H1 dx = none → dx ≠ x → sp (.ref x :: (vs ++ dvs)) (upd (upd H1 dx (.own x)) x (.ins C dx [])) (fun v H2 => v = .non ∧ Q (.ref x) H2) E) : tMake C sp dvs E t σ H Q := h
theorem k_bm0 {T : String} {r : V → List V → Hp → VK → Prop} {to : TE} (h : to σ H fun x H1 => tyV K T x H1 ∧ r x [] H1 Q) : tBM0 K T r to σ H Q := h
theorem v_pop {l : Addr} {zs : List V} (e : H l = some (.lst (zs ++ [v]))) (q : Q v (upd H l (.lst zs))) : rPop (.ref l) [] H Q :=
  ⟨l, zs ++ [v], v, rfl, rfl, e, by simp, by rw [List.dropLast_concat]; exact q⟩
/-! lists that change -/
theorem v_ext {l b : Addr} {zs : List V} (e : H l = some (.lst xs)) (e2 : H b = some (.lst zs)) (hz : xs.length + zs.length ≤ 10000000) (q : Q .non (upd H l (.lst (xs ++ zs)))) : rExtend (.ref l) [.ref b] H Q := ⟨l, b, xs, zs, rfl, rfl, e, e2, szL hz, q⟩
end
def sw2 {α : Type} : List α → List α
  | [a, b] => [b, a]
  | l => l
/-! tables -/
theorem snoc_ind {α : Type} {P : List α → Prop} (h0 : P []) (hs : ∀ l a, P l → P (l ++ [a])) (l : List α) : P l := by
  have h : ∀ r : List α, P r.reverse := fun r => by
    induction r with
    | nil => exact h0
    | cons a r ih => rw [List.reverse_cons]; exact hs _ _ ih
  have := h l.reverse
  rwa [List.reverse_reverse] at this
theorem tabF_none {l : List (Str × PyData)} {z : Str} : z ∉ l.map (·.1) → tabF l z = none := by
  refine snoc_ind (P := fun l => z ∉ l.map (·.1) → tabF l z = none) (fun _ => rfl) (fun l p ih h => ?_) l
  rw [tabF_snoc]
  rw [List.map_append, List.mem_append] at h
  have h1 : z ≠ p.1 := fun e => h (.inr (by simp [e]))
  simp only [if_neg h1]
  exact ih fun q => h (.inl q)
theorem tabF_mem {l : List (Str × PyData)} {z : Str} {d : PyData} : tabF l z = some d → (z, d) ∈ l := by
  refine snoc_ind (P := fun l => tabF l z = some d → (z, d) ∈ l) (fun h => by cases h) (fun l p ih h => ?_) l
  rw [tabF_snoc] at h
  by_cases e : z = p.1
  · simp only [if_pos e] at h
    cases h
    subst e
    simp
  · simp only [if_neg e] at h
    exact List.mem_append_left _ (ih h)
theorem tabF_isSome {l : List (Str × PyData)} {z : Str} : z ∈ l.map (·.1) → ∃ d, tabF l z = some d := by
  refine snoc_ind (P := fun l => z ∈ l.map (·.1) → ∃ d, tabF l z = some d) (fun h => by cases h) (fun l p ih h => ?_) l
  rw [tabF_snoc]
  by_cases e : z = p.1
  · exact ⟨p.2, if_pos e⟩
  · rw [List.map_append, List.mem_append] at h
    rcases h with h | h
    · obtain ⟨d, hd⟩ := ih h
      exact ⟨d, by simp only [if_neg e]; exact hd⟩
    · simp at h; exact absurd h e
end CW

set_option Elab.async false
set_option linter.all false
set_option maxRecDepth 100000
set_option maxHeartbeats 1000000
namespace L2
open PySem PySem.Spec PyProof.Rows CW
theorem SqL.updD {K : PySem.W.Frag} {H : Hp} {a b : Addr} {xs : List V} {zs : List (Key × V)} {o : HO} (hb : H b = some (.dK zs)) (h : SqL K H a xs) : SqL K (L2.upd H b o) a xs := by
  rcases h with (h | ⟨u, h⟩) | h
  · refine .inl (.inl ?_)
    rw [upd_ne (ne_of h hb (by intro z; cases z))]; exact h
  · refine .inl (.inr ⟨u, ?_⟩)
    rw [upd_ne (ne_of h hb (by intro z; cases z))]; exact h
  · exact .inr h
end L2
namespace CW
open PySem PySem.Spec PyProof.Rows L2
theorem inV_str {z : Str} {S : List Str} : inV (.str z) (S.map V.str) = decide (z ∈ S) := by
  induction S with
  | nil => rfl
  | cons s r ih =>
    show (eqV (.str s) (.str z) || inV (.str z) (r.map V.str)) = _
    rw [ih]
    have e : eqV (.str s) (.str z) = decide (s = z) := by
      show (s == z) = _
      by_cases h : s = z
      · subst h; simp
      · rw [decide_eq_false h]; exact beq_false_of_ne h
    rw [e]
    by_cases h : s = z
    · subst h; simp
    · have h2 : ¬ z = s := fun q => h q.symm
      simp [h, h2]
theorem flat_strs (S : List Str) : (S.map V.str).all flatV = true := by
  rw [List.all_map]
  exact List.all_eq_true.mpr fun _ _ => rfl
section
variable {K : PySem.W.Frag} {H : Hp} {Q : VK} {x s : V} {z : Str} {S : List Str}
theorem d_notin (h : Dp K H s (.tuple (S.map PyData.str))) (q : Q (.bl (!decide (z ∈ S))) H) : rNotInU K (.str z) s H Q := by
  obtain ⟨a, xs, rfl, hs, hd⟩ := Dp.tup_inv h
  have e := DpAll.strs_inv hd
  subst e
  exact v_notin_q (.inr hs) rfl (flat_strs S) (by rw [inV_str]; exact q)
theorem d_in (h : Dp K H s (.tuple (S.map PyData.str))) (q : Q (.bl (decide (z ∈ S))) H) : rInU K (.str z) s H Q := by
  obtain ⟨a, xs, rfl, hs, hd⟩ := Dp.tup_inv h
  have e := DpAll.strs_inv hd
  subst e
  exact v_in_q (.inr hs) rfl (flat_strs S) (by rw [inV_str]; exact q)
end
end CW
namespace HT
open PySem PySem.Spec PyProof.Rows
section
variable {prog : Program} {w : World} {A : Around} {E : Value → Shared → Prop} {s : Shared}
theorem fm_congr {α β : Type} {f g : α → Option β} : ∀ {l : List α}, (∀ a ∈ l, f a = g a) → l.filterMap f = l.filterMap g
  | [], _ => rfl
  | a :: r, h => by
    rw [List.filterMap_cons, List.filterMap_cons, h a (List.mem_cons_self ..), fm_congr fun b hb => h b (List.mem_cons_of_mem _ hb)]
theorem tail_pick1 (xs : Array Value) (h : 1 ≤ xs.size) : ((List.range (xs.size - 1)).filterMap fun (m : Nat) => xs[(((xs.size : Int) - 1) + (m : Int) * (-1)).toNat]?) = (xs.toList.drop 1).reverse := by
  have e1 : ((List.range (xs.size - 1)).filterMap fun (m : Nat) => xs[(((xs.size : Int) - 1) + (m : Int) * (-1)).toNat]?) = ((List.range (xs.size - 1)).map (fun m => 1 + (xs.size - 1 - 1 - m))).filterMap (xs[·]?) := by
    rw [List.filterMap_map]
    refine fm_congr fun m hm => ?_
    have := List.mem_range.mp hm
    have e : (((xs.size : Int) - 1) + (m : Int) * (-1)).toNat = 1 + (xs.size - 1 - 1 - m) := by omega
    rw [e]; rfl
  have e2 : (List.range (xs.size - 1)).map (fun m => 1 + (xs.size - 1 - 1 - m)) = ((List.range (xs.size - 1)).map (1 + ·)).reverse := by
    rw [← List.map_reverse, ← PySem.W.krv_range, List.map_map]
    rfl
  rw [e1, e2, List.filterMap_reverse, pick_run, List.take_of_length_le (by rw [List.length_drop, Array.length_toList]; exact Nat.le_refl _)]
theorem tail_pick (xs : Array Value) : ((List.range (xs.size - 1)).filterMap fun (m : Nat) => xs[(((xs.size : Int) - 1) + (m : Int) * (-1)).toNat]?) = (xs.toList.drop 1).reverse := by
  rcases Nat.eq_zero_or_pos xs.size with h | h
  · have e : xs.toList = [] := List.length_eq_zero_iff.mp (by rw [Array.length_toList]; exact h)
    rw [e, h]; rfl
  · exact tail_pick1 xs h
theorem adjust_tail (n : Nat) : Builtin.Slice.sliceAdjust none (some 0) (-1) (n : Int) = ((n : Int) - 1, min 0 ((n : Int) - 1)) := by
  unfold Builtin.Slice.sliceAdjust
  have h1 : ((-1 : Int) < 0) := by omega
  have h2 : ¬ ((0 : Int) < 0) := by omega
  simp only [h1, h2, if_true, if_false]
theorem places_tail (n : Nat) : Builtin.Slice.slicePlaces ((n : Int) - 1) (min 0 ((n : Int) - 1)) (-1) = n - 1 := by
  unfold Builtin.Slice.slicePlaces
  have h1 : ¬ ((-1 : Int) > 0) := by omega
  have h2 : (- -1 : Int) = 1 := by decide
  simp only [h1, if_false, h2, Int.ediv_one]
  split <;> omega
theorem getItem_tuple_tail {t sl : Addr} {items : Array Value} {vl vu vs : Value} {Q : Value → Shared → Prop} (ht : IsTup s.heap t items) (hs : s.heap.IsSliceOf sl vl vu vs) (pl : IsPart vl none) (pu : IsPart vu (some 0)) (ps : IsPart vs (some (-1)))
    (h : Q (.ref s.heap.objs.size) { s with heap := s.heap.push { cls := .type "tuple", data := .seq (items.toList.drop 1).reverse.toArray } })
    (hsz : items.size ≤ sizeLine) : wpAny (model prog w) A (getItem (.ref t) (.ref sl)) Q E s := by
  have htake : sizeOk (.seq (items.toList.drop 1).reverse.toArray) := by
    show (items.toList.drop 1).reverse.toArray.size ≤ sizeLine
    rw [List.size_toArray, List.length_reverse, List.length_drop, Array.length_toList]
    omega
  obtain ⟨os, hos, hcs, hds⟩ := id hs
  have hTs : s.TypeIs (.ref sl) "slice" := ⟨os, hos, hcs⟩
  unfold getItem
  try with_reducible refine wpAny_holding ?_
  first | refine wpAny_bind (wpAny_pure ?_) | skip
  refine wpAny_bind (wpAny_sequenceKey ht.typeIs (by decide) ?_)
  refine wpAny_bind (wpAny_callSpecial?_slot (name := Str.ofString "__getitem__") ht.typeIs PyProof.Rows.slot_tuple_getitem
    (wpAny_call_entry PyProof.Rows.slot_tuple_getitem ht.typeIs entry_tuple_getitem ?_ (args_tuple_getitem _ _)))
  show wpAny _ _ (Builtin.Tuple.tupleItemsOf (.ref t) >>= _) _ _ s
  refine wpAny_bind (tupleItemsOf_ ht ?_)
  refine wpAny_bind (wpAny_typeOf hTs ?_)
  rw [if_pos (by decide)]
  refine wpAny_bind ?_
  unfold Builtin.Slice.sliceApplied Builtin.Slice.sliceFields
  refine wpAny_bind (wpAny_bind (wpAny_field hos hds (x := vl) rfl (wpAny_bind (wpAny_field hos hds (x := vu) rfl (wpAny_bind (wpAny_field hos hds (x := vs) rfl (wpAny_pure ?_)))))))
  refine wpAny_bind (slicePart_ ps ?_)
  show wpAny _ _ (if ((-1 : Int) == 0) = true then _ else _) _ _ s
  rw [if_neg (by decide)]
  refine wpAny_bind (slicePart_ pl (wpAny_bind (slicePart_ pu (wpAny_bind (wpAny_pure ?_)))))
  show wpAny _ _ (match Builtin.Slice.sliceAdjust none (some 0) (-1) (items.size : Int) with | (lo, hi) => pure (lo, (-1 : Int), Builtin.Slice.slicePlaces lo hi (-1))) _ _ s
  rw [adjust_tail _]
  show wpAny _ _ (pure (((items.size : Int) - 1), (-1 : Int), Builtin.Slice.slicePlaces ((items.size : Int) - 1) (min 0 ((items.size : Int) - 1)) (-1))) _ _ s
  rw [places_tail _]
  refine wpAny_pure ?_
  have hno : ¬ (((((items.size : Int) - 1)) == 0 && (-1 : Int) == 1 && (items.size - 1) == items.size) = true) := by
    intro q
    rw [Bool.and_eq_true, Bool.and_eq_true] at q
    have q1 : (-1 : Int) = 1 := eq_of_beq q.1.2
    omega
  show wpAny _ _ (if ((((items.size : Int) - 1)) == 0 && (-1 : Int) == 1 && (items.size - 1) == items.size) = true then _ else _) _ _ s
  rw [if_neg hno]
  rw [tail_pick _]
  first
    | exact wpAny_bind (m := Builtin.Tuple.tupleExact _) (wpAny_newObj_type (wpAny_pure ⟨_, rfl, wpAny_pure h⟩) htake)
    | exact wpAny_bind (m := Builtin.Tuple.tupleExact _) (wpAny_newObj_type (wpAny_bind (wpAny_pure (wpAny_pure ⟨_, rfl, wpAny_pure h⟩))) htake)
    | exact wpAny_bind (wpAny_bind (m := Builtin.Tuple.tupleExact _) (wpAny_newObj_type (wpAny_pure (wpAny_pure ⟨_, rfl, wpAny_pure h⟩)) htake))
    | exact wpAny_bind (wpAny_bind (m := Builtin.Tuple.tupleExact _) (wpAny_newObj_type (wpAny_pure ⟨_, rfl, wpAny_pure h⟩) htake))
end
end HT
namespace CW
open PySem PySem.Spec PyProof.Rows L2
def rTR (K : PySem.W.Frag) : V → Hp → VK → Prop := fun x H Q => ∃ a xs, x = .ref a ∧ SqT K H a xs ∧ ∀ p, H p = none → Q (.ref p) (upd H p (.tup (xs.drop 1).reverse))
def tTR (K : PySem.W.Frag) (te : TE) : TE := fun σ H Q => te σ H fun x H1 => rTR K x H1 Q
theorem k_tr {K : PySem.W.Frag} {te : TE} {σ : L2.St} {H : Hp} {Q : VK} (h : te σ H fun x H1 => rTR K x H1 Q) : tTR K te σ H Q := h
theorem d_tr {K : PySem.W.Frag} {H : Hp} {Q : VK} {x : V} {d : PyData} {ds : List PyData} (h : Dp K H x (.tuple (d :: ds))) (q : ∀ p H' xs, H p = none → Xt H H' → H' p = some (.tup xs) → DpAll K H' xs ds.reverse → Q (.ref p) H') : rTR K x H Q := by
  obtain ⟨a, xs, rfl, hs, hd⟩ := Dp.tup_inv h
  refine ⟨a, xs, rfl, hs, fun p hp => q p _ _ hp (xnew hp) upd_same (DpAll.mono (xnew hp) (DpAll.rev ?_))⟩
  exact DpAll.drop 1 hd
theorem d_tr0 {K : PySem.W.Frag} {H : Hp} {Q : VK} {x : V} {ds : List PyData} (h : Dp K H x (.tuple ds)) (q : ∀ v H', Xt H H' → Dp K H' v (.tuple (ds.drop 1).reverse) → Q v H') : rTR K x H Q := by
  obtain ⟨a, xs, rfl, hs, hd⟩ := Dp.tup_inv h
  exact ⟨a, xs, rfl, hs, fun p hp => q _ _ (xnew hp) (.of_tup upd_same (DpAll.mono (xnew hp) (DpAll.rev (DpAll.drop 1 hd))))⟩
variable {X : Cx}
theorem pe_tailrev {e : Expr} {te : TE} {k k0 : Nat} {p0 p1 p2 p3 pos : Pos} (he : PE X e te) : PE X (.Subscript e (.Slice none (some (.Constant (.int 0) k0 p0)) (some (.UnaryOp .USub (.Constant (.int 1) k p1) p2)) p3) pos) (tTR X.K te) := by
  refine ⟨fun pins s σ H Q I h => ?_⟩
  refine Subscript_ (thn (he.run pins s σ H _ I h) fun v s1 ⟨x, H1, I1, r1, q1⟩ => ?_)
  obtain ⟨a, xs, ex, hx, q⟩ := q1
  subst ex
  cases r1
  have hst : PO X (some (.UnaryOp .USub (.Constant (.int 1) k p1) p2)) (tPart (tUn (rU fun i => .int (-i)) (tC (.int 1)))) := po_some (pe_un un_neg pe_int)
  have hz0 : PO X (some (.Constant (.int 0) k0 p0)) (tPart (tC (.int 0))) := po_some pe_int
  refine wpAny_Slice (thn (po_none.run pins s1 σ H1 (fun o H2 => o = none ∧ H2 = H1) I1 ⟨rfl, rfl⟩) fun vl s2 ⟨l, H2, I2, pl, el, e2⟩ => ?_)
  subst el e2
  refine thn (hz0.run pins s2 σ H2 (fun o H3 => o = some 0 ∧ H3 = H2) I2 ⟨0, rfl, rfl, rfl⟩) fun vu s3 ⟨u, H3, I3, pu, eu, e3⟩ => ?_
  subst eu e3
  refine thn (hst.run pins s3 σ H3 (fun o H4 => o = some (-1) ∧ H4 = H3) I3 ⟨1, rfl, -1, rfl, rfl, rfl⟩) fun vs s4 ⟨o, H4, I4, ps, eo, e4⟩ => ?_
  subst eo e4
  have I5 : Inv X pins σ H4 { s4 with heap := s4.heap.push { cls := .type "slice", data := .fields #[vl, vu, vs] } } := I4.kept (t' := s4.toks) fun b ob q => Heap.get?_push_of_some _ q
  obtain ⟨its, r, ht, hz⟩ := I5.tuple hx
  have hlen := r.length
  have hlen2 : its.toArray.size = xs.length := by rw [List.size_toArray]; exact hlen.symm
  show wpAny (model X.prog X.w) X.A (subscriptTail e (.Slice none (some (.Constant (.int 0) k0 p0)) (some (.UnaryOp .USub (.Constant (.int 1) k p1) p2)) p3) (.ref a) (.ref s4.heap.objs.size)) (EP X pins σ Q) X.xe { s4 with heap := s4.heap.push { cls := .type "slice", data := .fields #[vl, vu, vs] } }
  refine tail_any (ops := [.ref a, .ref s4.heap.objs.size]) ht.typeIs (PyProof.Rows.slot_tuple_getitem.lookup) ?_ (by with_unfolding_all rfl)
  refine HT.getItem_tuple_tail ht (Heap.IsSliceOf.new _ vl vu vs) pl pu ps ?_ (by rw [hlen2]; exact hz)
  refine ⟨.ref _, _, I5.laid (t' := s4.toks) (o := .tup (xs.drop 1).reverse) (fun b ob q => Heap.get?_push_of_some _ q) (Nat.le_refl _) ?_, rfl, q _ (I5.hok.fresh (Nat.le_refl _))⟩
  refine ⟨by rw [List.length_reverse, List.length_drop]; omega, _, (r.drop 1).reverse, ?_⟩
  exact IsTup.new _ _
end CW

set_option Elab.async false
set_option linter.all false
set_option maxRecDepth 100000
set_option maxHeartbeats 1000000
/-! data of signs below 128, tests on data of any kind -/
namespace CW
open PySem PySem.Spec PyProof.Rows L2
def ascS (z : Str) : Bool := z.cps.toList.all fun c => decide (c < 128)
mutual
def AsD : PyData → Bool
  | .none => true
  | .bool _ => true
  | .int _ => true
  | .str z => ascS z
  | .list _ => false
  | .dict _ => false
  | .tuple ds => AsAll ds
def AsAll : List PyData → Bool
  | [] => true
  | d :: ds => AsD d && AsAll ds
end
theorem asAll_iff : ∀ {ds : List PyData}, AsAll ds = true ↔ ∀ d ∈ ds, AsD d = true
  | [] => by simp [AsAll]
  | d :: ds => by
    rw [AsAll, Bool.and_eq_true, asAll_iff (ds := ds)]
    simp
theorem strOk_asc {z : Str} (h : ascS z = true) : PyData.strOk z = true := by
  unfold PyData.strOk
  rw [← Array.all_toList]
  exact List.all_eq_true.mpr fun c hc => decide_eq_true (Nat.lt_trans (of_decide_eq_true (List.all_eq_true.mp h c hc)) (by decide))
mutual
theorem as_im : ∀ {d : PyData}, AsD d = true → Im d = true
  | .none, _ => rfl
  | .bool _, _ => rfl
  | .int _, _ => rfl
  | .str _, _ => rfl
  | .list _, h => by simp [AsD] at h
  | .dict _, h => by simp [AsD] at h
  | .tuple ds, h => by
    have h2 : AsAll ds = true := by simpa [AsD] using h
    show ImAll ds = true
    exact as_imAll h2
theorem as_imAll : ∀ {ds : List PyData}, AsAll ds = true → ImAll ds = true
  | [], _ => rfl
  | d :: ds, h => by
    rw [AsAll, Bool.and_eq_true] at h
    rw [ImAll, as_im h.1, as_imAll h.2]; rfl
end
mutual
theorem as_lay : ∀ {d : PyData}, AsD d = true → d.canLay0 = true
  | .none, _ => by simp only [PyData.canLay0]
  | .bool _, _ => by simp only [PyData.canLay0]
  | .int _, _ => by simp only [PyData.canLay0]
  | .str z, h => by
    simp only [PyData.canLay0]
    exact strOk_asc (by simpa [AsD] using h)
  | .list _, h => by simp [AsD] at h
  | .dict _, h => by simp [AsD] at h
  | .tuple ds, h => by
    simp only [PyData.canLay0]
    exact as_layAll (by simpa [AsD] using h)
theorem as_layAll : ∀ {ds : List PyData}, AsAll ds = true → PyData.canLayAll0 ds = true
  | [], _ => by simp only [PyData.canLayAll0]
  | d :: ds, h => by
    rw [AsAll, Bool.and_eq_true] at h
    rw [PyData.canLayAll0, as_lay h.1, as_layAll h.2]; rfl
end
/-- small data -/
structure Sm (n : Nat) (d : PyData) : Prop where
  as : AsD d = true
  dp : d.depth ≤ n
  wt : d.weight ≤ 5000000
theorem Sm.shaped {n : Nat} {d : PyData} (h : Sm n d) (hn : n ≤ 64) : SeqAt.shaped d = true := by
  unfold SeqAt.shaped
  rw [as_lay h.as, decide_eq_true (Nat.le_trans h.dp hn)]; rfl
theorem Sm.im {n : Nat} {d : PyData} (h : Sm n d) : Im d = true := as_im h.as
theorem Sm.up {n m : Nat} {d : PyData} (h : Sm n d) (hm : n ≤ m) : Sm m d := ⟨h.as, Nat.le_trans h.dp hm, h.wt⟩
theorem depth_mem : ∀ {ds : List PyData} {d : PyData}, d ∈ ds → d.depth ≤ PyData.depthAll ds
  | [], _, h => by cases h
  | e :: ds, d, h => by
    rw [PyData.depthAll]
    rcases List.mem_cons.mp h with rfl | h
    · exact Nat.le_max_left _ _
    · exact Nat.le_trans (depth_mem h) (Nat.le_max_right _ _)
theorem weight_mem : ∀ {ds : List PyData} {d : PyData}, d ∈ ds → d.weight + 1 ≤ PyData.weightAll ds
  | [], _, h => by cases h
  | e :: ds, d, h => by
    rw [PyData.weightAll]
    rcases List.mem_cons.mp h with rfl | h
    · omega
    · have := weight_mem h; omega
theorem len_weight : ∀ {ds : List PyData}, ds.length ≤ PyData.weightAll ds
  | [] => Nat.zero_le _
  | e :: ds => by
    rw [PyData.weightAll, List.length_cons]
    have := len_weight (ds := ds); omega
theorem Sm.tup {n : Nat} {ds : List PyData} (h : Sm (n + 1) (.tuple ds)) : ∀ d ∈ ds, Sm n d := fun d hd => by
  have h1 : AsAll ds = true := by simpa [AsD] using h.as
  have h2 := h.dp
  have h3 := h.wt
  rw [PyData.depth] at h2
  rw [PyData.weight] at h3
  have := depth_mem hd
  have := weight_mem hd
  exact ⟨asAll_iff.mp h1 d hd, by omega, by omega⟩
theorem Sm.pos {n : Nat} {ds : List PyData} (h : Sm n (.tuple ds)) : ∃ m, n = m + 1 := by
  have h2 := h.dp
  rw [PyData.depth] at h2
  exact ⟨n - 1, by omega⟩
theorem Sm.len {n : Nat} {ds : List PyData} (h : Sm n (.tuple ds)) : ds.length ≤ 5000000 := by
  have h3 := h.wt
  rw [PyData.weight] at h3
  exact Nat.le_trans len_weight h3
theorem Sm.str {n : Nat} {z : Str} (h : Sm n (.str z)) : z.length ≤ 5000000 := by
  have h3 := h.wt
  rw [PyData.weight] at h3
  exact h3
theorem hu65 {k : Nat} {A : Around} (hr : Room k A) : A.units + 65 < cLine := by have := hr.un; omega
theorem hu64 {k : Nat} {A : Around} (hr : Room k A) : A.units + 64 < cLine := by have := hr.un; omega
section
variable {X : Cx}
def rInTD (K : PySem.W.Frag) (neg : Bool) : R2 := fun x y H Q => ∃ d ds, Dp K H x d ∧ Dp K H y (.tuple ds) ∧ SeqAt.shaped d = true ∧ PyData.canLayAll0 ds = true ∧ Q (.bl (if neg then !(ds.any fun z => PyData.eqv z d) else ds.any fun z => PyData.eqv z d)) H
theorem op_inTD (hu : X.A.units + 65 < cLine) : OpR X (compareOp .In) (rInTD X.K false) := by
  intro pins s σ H x y v u Q I rx ry h
  obtain ⟨d, ds, hd, he, sd, se, q⟩ := h
  obtain ⟨as, r1⟩ := Dp.reads I d x v hd rx
  obtain ⟨bs, r2⟩ := Dp.reads I (.tuple ds) y u he ry
  exact SeqAt.in_tuple_reads r2 r1 se (SeqAt.canLay_of_shaped sd) (room_in_shaped sd hu) ⟨.bl _, H, I, rfl, q⟩
theorem op_notInTD (hu : X.A.units + 65 < cLine) : OpR X (compareOp .NotIn) (rInTD X.K true) := by
  intro pins s σ H x y v u Q I rx ry h
  obtain ⟨d, ds, hd, he, sd, se, q⟩ := h
  obtain ⟨as, r1⟩ := Dp.reads I d x v hd rx
  obtain ⟨bs, r2⟩ := Dp.reads I (.tuple ds) y u he ry
  exact SeqAt.notIn_tuple_reads r2 r1 se (SeqAt.canLay_of_shaped sd) (room_in_shaped sd hu) ⟨.bl _, H, I, rfl, q⟩
def rInV (K : PySem.W.Frag) : R2 := fun x y H Q => rInU K x y H Q ∨ (rInTD K false x y H Q ∨ rInD K x y H Q)
def rNotInV (K : PySem.W.Frag) : R2 := fun x y H Q => rNotInU K x y H Q ∨ (rInTD K true x y H Q ∨ rNotInD K x y H Q)
theorem op_inV {k : Nat} (hr : Room k X.A) : OpR X (compareOp .In) (rInV X.K) := OpR.or op_inU (OpR.or (op_inTD (hu65 hr)) (op_inD (hu65 hr)))
theorem op_notInV {k : Nat} (hr : Room k X.A) : OpR X (compareOp .NotIn) (rNotInV X.K) := OpR.or op_notInU (OpR.or (op_notInTD (hu65 hr)) (op_notInD (hu65 hr)))
def rEqU (K : PySem.W.Frag) : R2 := fun x y H Q => rEq x y H Q ∨ rEqD K x y H Q
def rNeU (K : PySem.W.Frag) : R2 := fun x y H Q => rNe x y H Q ∨ rNeD K x y H Q
theorem op_eqU {k : Nat} (hr : Room k X.A) : OpR X (compareOp .Eq) (rEqU X.K) := OpR.or op_eq (op_eqD (hu64 hr))
theorem op_neU {k : Nat} (hr : Room k X.A) : OpR X (compareOp .NotEq) (rNeU X.K) := OpR.or op_ne (op_neD (hu64 hr))
def rLeS : R2 := fun x y H Q => ∃ i j, x = .str i ∧ y = .str j ∧ Q (.bl (!decide (j.cps.toList < i.cps.toList))) H
theorem op_leS : OpR X (compareOp .LtE) rLeS := op_le_str
end
section
variable {K : PySem.W.Frag} {H : Hp} {Q : VK} {x y s : V} {z w : Str} {S : List Str} {d e : PyData} {c : Nat} {a : Addr} {xs : List V}
theorem v_leS (q : Q (.bl (!decide (w.cps.toList < z.cps.toList))) H) : rLeS (.str z) (.str w) H Q := ⟨z, w, rfl, rfl, q⟩
theorem v_eqU (h : scal x y = true) (q : Q (.bl (decide (x = y))) H) : rEqU K x y H Q := .inl ⟨h, q⟩
theorem v_neU (h : scal x y = true) (q : Q (.bl (!decide (x = y))) H) : rNeU K x y H Q := .inl ⟨h, q⟩
theorem d_eq (h1 : Dp K H x d) (h2 : Dp K H y e) (s1 : SeqAt.shaped d = true) (s2 : SeqAt.shaped e = true) (q : Q (.bl (PyData.eqv d e)) H) : rEqU K x y H Q := .inr ⟨d, e, h1, h2, s1, s2, q⟩
theorem d_ne (h1 : Dp K H x d) (h2 : Dp K H y e) (s1 : SeqAt.shaped d = true) (s2 : SeqAt.shaped e = true) (q : Q (.bl (!PyData.eqv d e)) H) : rNeU K x y H Q := .inr ⟨d, e, h1, h2, s1, s2, q⟩
theorem w_in_s (q : Q (.bl (decide (c ∈ w.cps.toList))) H) : rInV K (.str ⟨#[c]⟩) (.str w) H Q := .inl (v_in_s q)
theorem w_notin_s (q : Q (.bl (!decide (c ∈ w.cps.toList))) H) : rNotInV K (.str ⟨#[c]⟩) (.str w) H Q := .inl (v_notin_s q)
theorem w_notin_q (h : SqL K H a xs ∨ SqT K H a xs) (hx : flatV x = true) (hf : xs.all flatV = true) (q : Q (.bl (!inV x xs)) H) : rNotInV K x (.ref a) H Q := .inl (v_notin_q h hx hf q)
theorem w_in_q (h : SqL K H a xs ∨ SqT K H a xs) (hx : flatV x = true) (hf : xs.all flatV = true) (q : Q (.bl (inV x xs)) H) : rInV K x (.ref a) H Q := .inl (v_in_q h hx hf q)
theorem w_notin (h : Dp K H s (.tuple (S.map PyData.str))) (q : Q (.bl (!decide (z ∈ S))) H) : rNotInV K (.str z) s H Q := .inl (d_notin h q)
theorem w_in (h : Dp K H s (.tuple (S.map PyData.str))) (q : Q (.bl (decide (z ∈ S))) H) : rInV K (.str z) s H Q := .inl (d_in h q)
theorem w_inl (h : Dp K H s (.list (S.map PyData.str))) (q : Q (.bl (decide (z ∈ S))) H) : rInV K (.str z) s H Q := by
  obtain ⟨a, xs, rfl, hs, hd⟩ := Dp.lst_inv h
  have e := DpAll.strs_inv hd
  subst e
  exact .inl (v_in_q (.inl hs) rfl (flat_strs S) (by rw [inV_str]; exact q))
/-- is that data one of these texts -/
def isIn (S : List Str) : PyData → Bool
  | .str z => decide (z ∈ S)
  | _ => false
theorem any_eqv (S : List Str) (d : PyData) : ((S.map PyData.str).any fun z => PyData.eqv z d) = isIn S d := by
  rw [List.any_map]
  induction S with
  | nil => cases d <;> rfl
  | cons t r ih =>
    rw [List.any_cons, ih]
    cases d with
    | str z =>
      show ((PyData.eqv (.str t) (.str z)) || decide (z ∈ r)) = decide (z ∈ t :: r)
      rw [PyData.eqv]
      by_cases h : t = z
      · subst h; simp
      · have h2 : ¬ z = t := fun q => h q.symm
        simp [h, h2]
    | none => rfl
    | bool b => rfl
    | int b => rfl
    | list b => rfl
    | tuple b => rfl
    | dict b => rfl
/-- data of any kind in a tuple of texts -/
theorem w_inD (h : Dp K H s (.tuple (S.map PyData.str))) (hx : Dp K H x d) (hd : SeqAt.shaped d = true) (hS : ∀ z ∈ S, ascS z = true) (q : Q (.bl (isIn S d)) H) : rInV K x s H Q := by
  refine .inr (.inl ⟨d, _, hx, h, hd, as_layAll (asAll_iff.mpr fun e he => ?_), ?_⟩)
  · obtain ⟨z, hz, rfl⟩ := List.mem_map.mp he
    simpa [AsD] using hS z hz
  · rw [any_eqv]; exact q
theorem w_inDl (h : Dp K H s (.list (S.map PyData.str))) (hx : Dp K H x d) (hd : SeqAt.shaped d = true) (hS : ∀ z ∈ S, ascS z = true) (hdep : True) (q : Q (.bl (isIn S d)) H) : rInV K x s H Q := by
  refine .inr (.inr ⟨d, _, hx, h, hd, ?_, ?_⟩)
  · unfold SeqAt.shaped
    rw [PyData.canLay0, as_layAll (asAll_iff.mpr fun e he => by
      obtain ⟨z, hz, rfl⟩ := List.mem_map.mp he
      simpa [AsD] using hS z hz), PyData.depth]
    have : PyData.depthAll (S.map PyData.str) = 0 := by
      clear h hS q
      induction S with
      | nil => rfl
      | cons t r ih => rw [List.map_cons, PyData.depthAll, ih, PyData.depth]; rfl
    rw [this]; rfl
  · rw [any_eqv]; exact q
/-! isinstance on data -/
def isTupD : PyData → Bool
  | .tuple _ => true
  | _ => false
def isStrD : PyData → Bool
  | .str _ => true
  | _ => false
theorem sqt_ty {xs : List V} (h : SqT K H a xs) : TyX K H (.ref a) (.type "tuple") := by
  rcases h with (h | ⟨u, h⟩) | ⟨o, its, n, l, c, _⟩
  · exact .base (.tup h)
  · exact .fTuple h
  · exact .kTuple l c
theorem d_isi {T : String} {r : Bool} (hx : Dp K H x d) (him : Im d = true) (hn : d = .none → kitB "NoneType" T = some r) (hb : ∀ b, d = .bool b → kitB "bool" T = some r) (hi : ∀ b, d = .int b → kitB "int" T = some r) (hs : ∀ b, d = .str b → kitB "str" T = some r)
    (ht : ∀ b, d = .tuple b → kitB "tuple" T = some r) (q : Q (.bl r) H) : rIsi K [x, .ty T] H Q := by
  cases hx with
  | non => exact ⟨_, _, .type "NoneType", .type T, r, rfl, .ty T, .base .non, kit_ty (hn rfl), q⟩
  | bl b => exact ⟨_, _, .type "bool", .type T, r, rfl, .ty T, .base (.bl b), kit_ty (hb _ rfl), q⟩
  | int b => exact ⟨_, _, .type "int", .type T, r, rfl, .ty T, .base (.int b), kit_ty (hi _ rfl), q⟩
  | str b => exact ⟨_, _, .type "str", .type T, r, rfl, .ty T, .base (.str b), kit_ty (hs _ rfl), q⟩
  | lst _ _ => simp [Im] at him
  | tup h1 h2 => exact ⟨_, _, .type "tuple", .type T, r, rfl, .ty T, sqt_ty h1, kit_ty (ht _ rfl), q⟩
theorem d_isTup (hx : Dp K H x d) (him : Im d = true) (q : Q (.bl (isTupD d)) H) : rIsi K [x, .ty "tuple"] H Q := d_isi hx him (fun e => by subst e; exact (by decide +kernel : kitB "NoneType" "tuple" = some false)) (fun b e => by subst e; exact (by decide +kernel : kitB "bool" "tuple" = some false)) (fun b e => by subst e; exact (by decide +kernel : kitB "int" "tuple" = some false)) (fun b e => by subst e; exact (by decide +kernel : kitB "str" "tuple" = some false)) (fun b e => by subst e; exact (by decide +kernel : kitB "tuple" "tuple" = some true)) q
theorem d_isStr (hx : Dp K H x d) (him : Im d = true) (q : Q (.bl (isStrD d)) H) : rIsi K [x, .ty "str"] H Q := d_isi hx him (fun e => by subst e; exact (by decide +kernel : kitB "NoneType" "str" = some false)) (fun b e => by subst e; exact (by decide +kernel : kitB "bool" "str" = some false)) (fun b e => by subst e; exact (by decide +kernel : kitB "int" "str" = some false)) (fun b e => by subst e; exact (by decide +kernel : kitB "str" "str" = some true)) (fun b e => by subst e; exact (by decide +kernel : kitB "tuple" "str" = some false)) q
theorem v_isi_int {i : Int} (q : Q (.bl true) H) : rIsi K [.int i, .ty "int"] H Q := ⟨_, _, .type "int", .type "int", true, rfl, .ty "int", .base (.int i), kit_ty (by decide +kernel), q⟩
theorem v_isi_intB {i : Int} (q : Q (.bl false) H) : rIsi K [.int i, .ty "bool"] H Q := ⟨_, _, .type "int", .type "bool", false, rfl, .ty "bool", .base (.int i), kit_ty (by decide +kernel), q⟩
theorem v_isN (q : Q (.bl (decide (x = .non))) H) : rIsN x .non H Q := ⟨rfl, q⟩
theorem v_notN (q : Q (.bl (!decide (x = .non))) H) : rNotN x .non H Q := ⟨rfl, q⟩
end
open RZ in
theorem k_izip {K : PySem.W.Frag} {σ : L2.St} {H : Hp} {ta : TA} {R : It → Hp → Prop} (h : ta σ H fun vs H1 => ∃ a b xs ys, vs = [.ref a, .ref b] ∧ ((SqL K H1 a xs ∧ SqL K H1 b ys ∧ R (Itz K a b) H1) ∨ (SqT K H1 a xs ∧ SqT K H1 b ys ∧ R (ItzT K a b) H1))) : RZ.iZipA K ta σ H R := h
end CW
namespace PySem
open AutoSeq1
theorem list_extend_tupD (l : Addr) (items : Array Value) (n : Nat) (b : Addr) (items2 : Array Value) (n2 : Nat) (dd : Option Addr) (sl : Array (Option Value)) (hs0 : ¬(!items.isEmpty && Builtin.List.listTooLong (items.size + items2.size)) = true) (hs1 : items.size ≤ sizeLine) (hs2 : items.size + items2.size ≤ sizeLine + 1) :
    Meets (Builtin.«list.extend» ⟨[.ref l, .ref b], []⟩) (fun _ R s => s.heap.get? l = some { cls := .type "list", dict := none, data := .seq items n, slots := #[] } ∧ s.heap.get? b = some { cls := .type "tuple", dict := dd, data := .seq items2 n2, slots := sl } ∧ R (.ok (.ret Value.none)) { s with heap := s.heap.update l (Obj.mapSeq fun x => x ++ items2), toks := s.toks }) :=
  .of_wp fun prog w A R s h => by
    obtain ⟨hp, g, d, tk, os⟩ := s; obtain ⟨hl, hb, h⟩ := h; have f1 := idx_int; have f2 := sub_tuple_tuple; have f3 := sub_list_list; have f4 := sub_tuple_list; have f5 := sub_list_tuple;
    have hz' : (items ++ items2).size ≤ sizeLine + 1 := by rw [Array.size_append]; exact hs2
    wp_walk using (wpAny_updateSeq hl rfl (hz := hs1) (_hz' := hz')), wpAny_loadPart' hl, wpAny_loadPart' hb; exact ⟨_, rfl, h⟩
end PySem
namespace CW
open PySem PySem.Spec PyProof.Rows L2
section
variable {X : Cx} {K : PySem.W.Frag} {H : Hp} {Q : VK} {l b : Addr} {xs zs : List V}
def rExtT (K : PySem.W.Frag) : V → List V → Hp → VK → Prop := fun x vs H Q => ∃ l b xs zs, x = .ref l ∧ vs = [.ref b] ∧ H l = some (.lst xs) ∧ SqT K H b zs ∧ xs.length + zs.length ≤ sizeLine ∧ Q .non (upd H l (.lst (xs ++ zs)))
theorem mt_extT : MtM X "list.extend" (rExtT X.K) := by
  intro pins s σ H x vs v us Q I rx rv h
  obtain ⟨l, b, xs, zs, rfl, rfl, hH, hB, hz, q⟩ := h
  cases rx
  obtain ⟨u, rfl, ru⟩ := rv.one
  cases ru
  obtain ⟨z, its, n, r, hl, e⟩ := I.lstM hH
  obtain ⟨its2, r2, ht2, hz2⟩ := I.tuple hB
  have hl2 := r2.length
  obtain ⟨⟨cls, dd, data, sl⟩, ho, hc, n2, hd⟩ := id ht2
  simp only at hc hd
  subst hc hd
  have hsz : its.toArray.size + its2.toArray.size ≤ sizeLine := by rw [List.size_toArray, List.size_toArray]; omega
  have hlong : ¬ (!its.toArray.isEmpty && Builtin.List.listTooLong (its.toArray.size + its2.toArray.size)) = true := by
    rw [notLongL hsz, Bool.and_false]
    exact Bool.false_ne_true
  refine call_meets F.slot_list_extend ⟨_, e, rfl⟩ F.entry_list_extend (F.args_list_extend_2 _ _)
    (PySem.list_extend_tupD l its.toArray n b its2.toArray n2 dd sl hlong (by rw [List.size_toArray]; omega) (by omega)) ⟨e, ho, ?_⟩
  refine ⟨.non, _, I.lset (its' := its ++ its2) hH e (by simp) (r.append r2) ?_, rfl, q⟩
  rw [List.length_append]
  omega
def rExtU (K : PySem.W.Frag) : V → List V → Hp → VK → Prop := fun x vs H Q => rExtend x vs H Q ∨ rExtT K x vs H Q
theorem mt_extU : MtM X "list.extend" (rExtU X.K) := MtR.or mt_extend mt_extT
theorem v_extU {zs : List V} (e : H l = some (.lst xs)) (e2 : H b = some (.lst zs)) (hz : xs.length + zs.length ≤ 10000000) (q : Q .non (upd H l (.lst (xs ++ zs)))) : rExtU K (.ref l) [.ref b] H Q := .inl ⟨l, b, xs, zs, rfl, rfl, e, e2, szL hz, q⟩
theorem v_extT (e : H l = some (.lst xs)) (e2 : SqT K H b zs) (hz : xs.length + zs.length ≤ 10000000) (q : Q .non (upd H l (.lst (xs ++ zs)))) : rExtU K (.ref l) [.ref b] H Q := .inr ⟨l, b, xs, zs, rfl, rfl, e, e2, szL hz, q⟩
end
end CW

/-! one object changes -/
namespace L2
open PySem PySem.Spec PyProof.Rows CW
mutual
theorem Dp.gen {K : PySem.W.Frag} {H H' : Hp} (f : ∀ a xs, SqT K H a xs → SqT K H' a xs) (g : ∀ a xs, SqL K H a xs → SqL K H' a xs) : ∀ {v : V} {d : PyData}, Dp K H v d → Dp K H' v d
  | _, _, .non => .non
  | _, _, .bl b => .bl b
  | _, _, .int i => .int i
  | _, _, .str x => .str x
  | _, _, .lst hs ha => .lst (g _ _ hs) (DpAll.gen f g ha)
  | _, _, .tup hs ha => .tup (f _ _ hs) (DpAll.gen f g ha)
theorem DpAll.gen {K : PySem.W.Frag} {H H' : Hp} (f : ∀ a xs, SqT K H a xs → SqT K H' a xs) (g : ∀ a xs, SqL K H a xs → SqL K H' a xs) : ∀ {vs : List V} {ds : List PyData}, DpAll K H vs ds → DpAll K H' vs ds
  | _, _, .nil => .nil
  | _, _, .cons h1 h2 => .cons (Dp.gen f g h1) (DpAll.gen f g h2)
end
end L2
namespace CW
open PySem PySem.Spec PyProof.Rows L2
def Xa (a : Addr) (H H' : Hp) : Prop := ∀ b o, b ≠ a → H b = some o → H' b = some o
theorem xa_of {a : Addr} {H H' : Hp} (e : Xt H H') : Xa a H H' := fun b o _ h => e b o h
theorem xa_tr {a : Addr} {H H1 H2 : Hp} (e : Xa a H H1) (f : Xa a H1 H2) : Xa a H H2 := fun b o n h => f b o n (e b o n h)
theorem xa_upd {a : Addr} {H : Hp} {o : HO} : Xa a H (upd H a o) := fun b u n h => by rw [upd_ne n]; exact h
theorem xa_free {a p : Addr} {H H' : Hp} {o : HO} (e : Xa a H H') (hi : H' a = some o) (h : H' p = none) : H p = none := by
  cases hp : H p with
  | none => rfl
  | some u =>
    have n : p ≠ a := fun q => by rw [q, hi] at h; cases h
    rw [e _ _ n hp] at h; cases h
theorem xa_mut {a p : Addr} {H H' : Hp} {o : HO} (e : Xa a H H') (h : H p = none) : Xa a H (upd H' p o) := fun b u n hb => by
  rw [upd_ne (ne_of_none hb h)]; exact e b u n hb
section
variable {K : PySem.W.Frag} {H H' : Hp} {a p C dx : Addr} {fs : List (Str × V)} {xs : List V} {v : V} {d : PyData}
theorem ne_ins {o : HO} (hi : H a = some (.ins C dx fs)) (h : H p = some o) (ho : ∀ C dx fs, o ≠ .ins C dx fs) : p ≠ a := fun e => by
  subst e; rw [hi] at h; cases h; exact ho _ _ _ rfl
theorem xat (hi : H a = some (.ins C dx fs)) (e : Xa a H H') (p : Addr) (xs : List V) (h : SqT K H p xs) : SqT K H' p xs := by
  rcases h with (h | ⟨o, h⟩) | h
  · exact .inl (.inl (e _ _ (ne_ins hi h (by intros; intro q; cases q)) h))
  · exact .inl (.inr ⟨o, e _ _ (ne_ins hi h (by intros; intro q; cases q)) h⟩)
  · exact .inr h
theorem xal (hi : H a = some (.ins C dx fs)) (e : Xa a H H') (p : Addr) (xs : List V) (h : SqL K H p xs) : SqL K H' p xs := by
  rcases h with (h | ⟨o, h⟩) | h
  · exact .inl (.inl (e _ _ (ne_ins hi h (by intros; intro q; cases q)) h))
  · exact .inl (.inr ⟨o, e _ _ (ne_ins hi h (by intros; intro q; cases q)) h⟩)
  · exact .inr h
theorem dpa (hi : H a = some (.ins C dx fs)) (e : Xa a H H') (h : Dp K H v d) : Dp K H' v d := Dp.gen (xat hi e) (xal hi e) h
end
end CW
namespace CW
open PySem PySem.Spec PyProof.Rows L2
section
variable {X : Cx}
theorem sw_trueD {kx vx : Expr} {gs : List Comprehension} {scope : Scope} {pos py : Pos} {y : Str} {l : Nat} {env : Env} (hk : env.scope.kind = .function) (hy : env.scope.names.lookup y = some .local) (hl : (py.line == pos.line) = true)
    (ha : (scope.names.any fun (n, k) => n == y && (k == .local || k == .cell)) = false) : swapsWith (.DictComp kx vx gs scope pos) (some (.Name y py)) l env = pure true := by
  have ky : env.kindOf y = some .local := hy
  have hb : env.blockKind = .function := by unfold Env.blockKind; rw [hk]; rfl
  unfold swapsWith
  simp only [hb, ky, ha, Expr.pos, hl]
  rfl
theorem ps_setDc {i : Nat} {y : Str} {py : Pos} {kx vx tg iter : Expr} {ifs : List Expr} {scope : Scope} {own : List (Str × Nat)} {pos spos : Pos} {wi : TI} {g : TG} {tt : TT} {tk tv : TE} (hc : X.calm = true) (hN : X.N.Nodup) (hy : X.N[i]? = some y) (hyl : X.env.scope.names.lookup y = some .local)
    (hsw : swapsWith (.DictComp kx vx [⟨tg, iter, ifs, 0⟩] scope pos) (some (.Name y py)) spos.line X.env = pure true) (hi : PI X tg iter wi) (ok : BlkOk X.N X.env.scope scope own)
    (hg : ∀ (s : Shared) (H : Hp) (C : Addr) (cl : List (Str × Addr)) (fp : List Addr), PG (X.blk s H scope (compEnvC scope cl C X.env) fp) tg g) (ht : ∀ (s : Shared) (H : Hp) (C : Addr) (cl : List (Str × Addr)) (fp : List Addr), PTs (X.blk s H scope (compEnvC scope cl C X.env) fp) ifs tt)
    (hk : ∀ (s : Shared) (H : Hp) (C : Addr) (cl : List (Str × Addr)) (fp : List Addr), PE (X.blk s H scope (compEnvC scope cl C X.env) fp) kx tk)
    (he : ∀ (s : Shared) (H : Hp) (C : Addr) (cl : List (Str × Addr)) (fp : List Addr), PE (X.blk s H scope (compEnvC scope cl C X.env) fp) vx tv) (hs : ∀ x, foldedSetIterable iter X.env x = pure x := by intro _; rfl) :
    PS X (.Assign [.Name y py] (.DictComp kx vx [⟨tg, iter, ifs, 0⟩] scope pos) spos) (tAsg (tDc wi g tt tk tv (own.map (·.2))) (gName i)) := by
  refine ⟨fun pins s σ H D I h => ?_⟩
  rw [exec_Assign_Name_used _ _ _ _ hsw]
  refine wpAny_bind (wpAny_standAt (wpAny_bind ?_))
  show wpAny _ X.A (do let _ ← comprehension (.DictComp kx vx [⟨tg, iter, ifs, 0⟩] scope pos) scope X.env (firstIterPos [⟨tg, iter, ifs, 0⟩] pos) newDict false (eval iter X.env) (some (assign (.Name y py) X.env))) _ _ s
  have h : tDc wi g tt tk tv (own.map (·.2)) σ H (fun x H1 => gName i x σ H1 D.nx) := h
  refine wpAny_bind (thn (dc_core (Qf := fun _ s' => SP X pins D .next s') hc hN I hi ok hg ht hk he hs h fun L C s' m H' I' q hn f => ?_) fun _ s' hq => wpAny_pure (wpAny_pure hq))
  show wpAny _ _ (assign (.Name y py) X.env (.ref L)) _ _ _
  refine wpAny_assign_Name (store_ok2 (v := V.ref L) I' hN hy (.inl hyl) rfl (fun s2 I2 ⟨a, sb, ha⟩ => ?_) (.inr hyl))
  obtain ⟨f0, f1, f2, f3, f4, f5⟩ := f
  have haC : C ≠ a := by
    rcases ha with z | z
    · rw [z]; exact f1
    · exact fun e => f4 y a z e.symm
  refine ⟨m, hn.sameBut sb haC, fun h3 sb3 => ?_⟩
  exact ⟨_, H', I2.turned (t' := s2.toks) (fun b o hb e => (sb3.2 b hb).trans e) f0 f1 f3 f4 f5, q⟩
end
end CW

set_option Elab.async false
set_option linter.all false
set_option maxRecDepth 100000
set_option maxHeartbeats 1000000
/-! texts by their signs -/
namespace CW
open PySem PySem.Spec PyProof.Rows L2
theorem app_l (a b : Str) : (a ++ b).cps.toList = a.cps.toList ++ b.cps.toList := Array.toList_append
theorem len_l (z : Str) : z.cps.toList.length = z.length := by rw [Array.length_toList]; rfl
theorem cut_l (z : Str) (lo hi : Option Int) : (cutS z lo hi).cps.toList = (z.cps.toList.drop (HT.sIx z.length 0 lo)).take (HT.sIx z.length z.length hi - HT.sIx z.length 0 lo) := rfl
theorem cut_to {z : Str} {n : Int} (h : 0 ≤ n) (h2 : n ≤ (z.length : Int)) : (cutS z none (some n)).cps.toList = z.cps.toList.take n.toNat := by
  obtain ⟨k, rfl⟩ : ∃ k : Nat, n = (k : Int) := ⟨n.toNat, by omega⟩
  rw [cut_l, HT.sIx_nat, HT.sIx_none, List.drop_zero, Nat.sub_zero, Int.toNat_natCast, show min k z.length = k by omega]
theorem cut_fr {z : Str} {n : Int} (h : 0 ≤ n) (h2 : n ≤ (z.length : Int)) : (cutS z (some n) none).cps.toList = z.cps.toList.drop n.toNat := by
  obtain ⟨k, rfl⟩ : ∃ k : Nat, n = (k : Int) := ⟨n.toNat, by omega⟩
  rw [cut_l, HT.sIx_nat, HT.sIx_none, Int.toNat_natCast, show min k z.length = k by omega]
  exact List.take_of_length_le (by rw [List.length_drop, len_l]; exact Nat.le_refl _)
theorem list_exP {α : Type} {f : α → V} {P : α → Prop} : ∀ {ys : List V}, (∀ (i : Nat) (y : V), ys[i]? = some y → ∃ c, y = f c ∧ P c) → ∃ cs : List α, ys = cs.map f ∧ ∀ c ∈ cs, P c
  | [], _ => ⟨[], rfl, fun _ h => by cases h⟩
  | y :: r, h => by
    obtain ⟨c, e, p⟩ := h 0 y rfl
    obtain ⟨cs, e2, p2⟩ := list_exP (ys := r) fun i z hz => h (i + 1) z hz
    exact ⟨c :: cs, by rw [e, e2]; rfl, fun d hd => by
      rcases List.mem_cons.mp hd with rfl | hd
      · exact p
      · exact p2 d hd⟩
theorem join_cs (cs : List Nat) : Txt.join (Str.ofString "") (cs.map fun c => (⟨#[c]⟩ : Str)) = ⟨cs.toArray⟩ := by
  show Builtin.Str.glued (Str.ofString "") _ = _
  rw [StrLaws.glued_eq_join]
  exact PyProof.Rows.join_ones cs
theorem v_joinP {K : PySem.W.Frag} {H : Hp} {Q : VK} {a : Addr} {ys : List V} {P : Nat → Prop} (e : H a = some (.lst ys)) (h : ∀ (i : Nat) (y : V), ys[i]? = some y → ∃ c : Nat, y = V.str ⟨#[c]⟩ ∧ P c) (hz : ys.length ≤ 100000)
    (q : ∀ cs : List Nat, cs.length = ys.length → (∀ c ∈ cs, P c) → Q (.str ⟨cs.toArray⟩) H) : rJoin K (.str (Str.ofString "")) [.ref a] H Q := by
  obtain ⟨cs, rfl, hP⟩ := list_exP (f := fun c : Nat => V.str ⟨#[c]⟩) h
  have e2 : (cs.map fun c : Nat => V.str ⟨#[c]⟩) = (cs.map fun c => (⟨#[c]⟩ : Str)).map V.str := by rw [List.map_map]; rfl
  rw [List.length_map] at hz
  refine v_join (ys := cs.map fun c => (⟨#[c]⟩ : Str)) (sql (by rw [← e2]; exact e)) ?_ ?_
  · rw [sum_ones, show (Str.ofString "").length = 0 by decide, Nat.mul_zero]; omega
  · rw [join_cs]
    exact q cs (by rw [List.length_map]) hP
theorem ofl_l (cs : List Nat) : (⟨cs.toArray⟩ : Str).cps.toList = cs := rfl
theorem ofl_len (cs : List Nat) : (⟨cs.toArray⟩ : Str).length = cs.length := by show cs.toArray.size = _; rw [List.size_toArray]
theorem one_l (c : Nat) : (⟨#[c]⟩ : Str).cps.toList = [c] := rfl
theorem str_ext {a b : Str} (h : a.cps.toList = b.cps.toList) : a = b := by
  cases a with | mk x => cases b with | mk y =>
  have : x = y := by
    apply Array.ext'
    exact h
  rw [this]
end CW
namespace CW
open PySem PySem.Spec PyProof.Rows L2
section
variable {X : Cx} {K : PySem.W.Frag} {H : Hp} {Q : VK} {a : Addr} {xs : List V}
/-- * of ints, of a text, of a list -/
def rTimesU : R2 := fun x y H Q => rTimes x y H Q ∨ rRep x y H Q
theorem op_timesU : OpR X (binaryOp .Mult) rTimesU := OpR.or op_times op_rep
theorem u_times_int {i j : Int} (h : CMul i j) (q : Q (.int (i * j)) H) : rTimesU (.int i) (.int j) H Q := .inl (v_times_int h q)
theorem u_times_str {z : Str} {n : Int} (h : 0 ≤ n ∧ n ≤ 1000 ∧ z.length ≤ 1000) (q : ∀ w : Str, w.length = z.length * n.toNat → Q (.str w) H) : rTimesU (.str z) (.int n) H Q := .inl (v_times_str h q)
theorem u_rep {n : Int} {ss : List Int} (e : H a = some (.lst (ss.map V.int))) (h0 : 0 ≤ n) (h1 : n ≤ 1000) (h2 : ss.length ≤ 1000) (q : ∀ p H', H p = none → Xt H H' → H' p = some (.lst ((List.replicate n.toNat ss).flatten.map V.int)) → Q (.ref p) H') : rTimesU (.ref a) (.int n) H Q := by
  refine .inr ⟨a, n, _, rfl, rfl, e, by omega, by omega, ?_, fun p hp => ?_⟩
  · rw [List.length_map]
    have : ss.length * n.toNat ≤ 1000 * 1000 := Nat.mul_le_mul h2 (by omega)
    exact szL (by omega)
  · have e2 : (List.replicate n.toNat (ss.map V.int)).flatten = (List.replicate n.toNat ss).flatten.map V.int := by
      rw [List.map_flatten, List.map_replicate]
    rw [e2]
    exact q p _ hp (xnew hp) upd_same
theorem flat_len (l : List Int) : ∀ n : Nat, (List.replicate n l).flatten.length = l.length * n
  | 0 => by simp
  | n + 1 => by rw [List.replicate_succ, List.flatten_cons, List.length_append, flat_len l n, Nat.mul_succ]; omega
theorem flat_at (l : List Int) : ∀ (n k j : Nat), k < n → j < l.length → (List.replicate n l).flatten[l.length * k + j]? = l[j]?
  | 0, _, _, h, _ => by omega
  | n + 1, 0, j, _, hj => by
    rw [List.replicate_succ, List.flatten_cons, Nat.mul_zero, Nat.zero_add, List.getElem?_append_left hj]
  | n + 1, k + 1, j, hk, hj => by
    rw [List.replicate_succ, List.flatten_cons, List.getElem?_append_right (by rw [Nat.mul_succ]; omega)]
    rw [show l.length * (k + 1) + j - l.length = l.length * k + j by rw [Nat.mul_succ]; omega]
    exact flat_at l n k j (by omega) hj
theorem flat_mem {l : List Int} {n : Nat} {x : Int} (h : x ∈ (List.replicate n l).flatten) : x ∈ l := by
  rw [List.mem_flatten] at h
  obtain ⟨m, hm, hx⟩ := h
  rw [List.mem_replicate] at hm
  rw [hm.2] at hx; exact hx
end
end CW

set_option Elab.async false
set_option linter.all false
set_option maxRecDepth 100000
set_option maxHeartbeats 1000000
/-! comprehensions over data with a test -/
namespace CW
open PySem PySem.Spec PyProof.Rows L2
section
variable {K : PySem.W.Frag} {σ : L2.St} {H : Hp} {Q : VK} {te : TE} {vs : List Nat} {Dl : Addr} {g : TG} {tt : TT} {xs : List V} {ds : List PyData} {J : It} {G : Hp → Prop}
theorem b_datF (w : Walk J xs.length G (YAt xs)) (hG : ∀ H', Xt H H' → G H') (hds : DpAll K H xs ds) (p : PyData → Bool) (f : PyData → PyData) (hf : ∀ d ∈ ds, Im (f d) = true) (hn : ds.length < 10000000)
    (body : ∀ v d H', Dp K H' v d → d ∈ ds → Xt H H' → ∀ (R : VK) (R0 : Hp → Prop), (p d = true → ∀ y H2, Xt H' H2 → Dp K H2 y (f d) → R y H2) → (p d = false → ∀ H2, Xt H' H2 → R0 H2) →
      g v (wipe σ vs) H' fun σ2 H2 => wipe σ2 vs = wipe σ vs ∧ tt σ2 H2 fun b H3 => if b = true then te σ2 H3 R else R0 H3)
    (k : ∀ Dl ys H2, H Dl = none → Xt H H2 → H2 Dl = some (.lst ys) → DpAll K H2 ys ((ds.filter p).map f) → Q (.ref Dl) H2) : LcB J g tt te vs σ Q H := fun Dl hD => by
  have hl := hds.len
  refine lc_it w (g := g) (tt := tt) (te := te) (σ := σ) (vs := vs) (fun i H' => Xt H H' ∧ ∃ ys, H' Dl = some (.lst ys) ∧ ys.length ≤ i ∧ DpAll K H' ys (((ds.take i).filter p).map f))
    ⟨xnew hD, [], upd_same, Nat.le_refl _, by rw [List.take_zero]; exact .nil⟩ (fun i H' _ p => hG H' p.1) (fun i x H' H2 hi q hy => ?_) (fun H' q => ?_)
  · obtain ⟨hx, ys, e, hyl, hys⟩ := q
    obtain ⟨rfl, hxi⟩ := hy
    obtain ⟨d, hd, hdp⟩ := DpAll.getV hds hxi
    have hmem : d ∈ ds := List.mem_of_getElem? hd
    have et : ds.take (i + 1) = ds.take i ++ [d] := by rw [List.take_add_one, hd]; rfl
    refine body x d H2 (Dp.mono hx hdp) hmem hx _ _ (fun hp y H4 x4 hy => ?_) (fun hp H4 x4 => ?_)
    · have e4 := x4 _ _ e
      have hys4 := DpAll.mono x4 hys
      refine ⟨ys, e4, szL2 (by omega), xmut (xtr hx x4) hD, ys ++ [y], upd_same, by rw [List.length_append, List.length_singleton]; omega, ?_⟩
      rw [et, List.filter_append, List.map_append]
      have e1 : [d].filter p = [d] := by rw [List.filter_cons, if_pos hp]; rfl
      rw [e1]
      have im1 : ImAll (((ds.take i).filter p).map f) = true := imAll_iff.mpr fun z hz => by
        obtain ⟨c, hc, rfl⟩ := List.mem_map.mp hz
        exact hf c (List.mem_of_mem_take ((List.mem_filter.mp hc).1))
      exact DpAll.app (DpAll.im (fun a zs h => SqT.upd e4 h) im1 hys4) (.cons (Dp.im (fun a zs h => SqT.upd e4 h) (hf d hmem) hy) .nil)
    · refine ⟨xtr hx x4, ys, x4 _ _ e, by omega, ?_⟩
      rw [et, List.filter_append, List.map_append]
      have e1 : [d].filter p = [] := by rw [List.filter_cons, if_neg (by rw [hp]; decide)]; rfl
      rw [e1, List.map_nil, List.append_nil]
      exact DpAll.mono x4 hys
  · obtain ⟨hx, ys, e, hyl, hys⟩ := q
    rw [List.take_of_length_le (by rw [hl]; exact Nat.le_refl _)] at hys
    exact k Dl ys H' hD hx e hys
end
theorem up_asc : ∀ cs : List Nat, (∀ c ∈ cs, c < 128) → ascS (Txt.upper ⟨cs.toArray⟩) = true ∧ (Txt.upper ⟨cs.toArray⟩).length = cs.length
  | [], _ => ⟨by decide +kernel, by decide +kernel⟩
  | c :: r, h => by
    have ih := up_asc r fun d hd => h d (List.mem_cons_of_mem _ hd)
    have hc := h c (List.mem_cons_self ..)
    have e : (⟨(c :: r).toArray⟩ : Str) = ⟨#[c]⟩ ++ ⟨r.toArray⟩ := str_ext (by rw [app_l]; rfl)
    rw [e, PySem.W.KOpn.upper_app, PySem.W.KOpn.upper_one hc]
    constructor
    · unfold ascS at ih ⊢
      rw [app_l, List.all_append, ih.1, Bool.and_true]
      show ((if 97 ≤ c ∧ c ≤ 122 then c - 32 else c) < 128 && true) = true
      rw [Bool.and_true]
      exact decide_eq_true (by split <;> omega)
    · rw [← len_l, app_l, List.length_append, len_l, len_l, ih.2, List.length_cons]
      show 1 + r.length = _
      omega
theorem upper_asc {z : Str} (h : ascS z = true) : ascS (Txt.upper z) = true ∧ (Txt.upper z).length = z.length := by
  have h2 : ∀ c ∈ z.cps.toList, c < 128 := fun c hc => of_decide_eq_true (List.all_eq_true.mp h c hc)
  have := up_asc z.cps.toList h2
  have e : (⟨z.cps.toList.toArray⟩ : Str) = z := str_ext rfl
  rw [e, len_l] at this
  exact this
end CW

set_option Elab.async false
set_option linter.all false
set_option maxRecDepth 100000
set_option maxHeartbeats 1000000
namespace CW
open PySem PySem.Spec PyProof.Rows L2
section
variable {K : PySem.W.Frag} {x qual : Str} {st : Stmt} {f : Addr} {fd : FuncData}
theorem fun_kbr {a b : Str} (F : Fun K x qual st f fd) (h : ∀ (kV doc pm : Value) (an : Option Addr) (cdv ct : Value) (u v : Value), bindArgs (PySem.W.fnOf x qual (defArgs st) (defBody st) (defScope st) .none kV doc pm an cdv ct) ⟨[], [(b, u), (a, v)]⟩ = pure [(a, v), (b, u)]) :
    KBn K fd [a, b] 0 [b, a] (fun _ ws => sw2 ws) (fun _ zs => sw2 zs) := by
  obtain ⟨oc, od, kV, doc, pm, an, cdv, ct, osl, rfl, lk, hcd⟩ := F.ex
  refine ⟨fun s us ws _ h0 h1 => ?_, fun {vs us zs ws} r1 r2 => ?_⟩
  · cases us with
    | cons _ _ => cases h0
    | nil =>
      match ws, h1 with
      | [u, v], _ => exact BindsTo.of_eq (h kV doc pm an cdv ct u v)
  · match zs, ws, r2 with
    | [], [], .nil => exact .nil
    | [_], [_], .cons h1 .nil => exact .cons h1 .nil
    | [_, _], [_, _], .cons h1 (.cons h2 .nil) => exact .cons h2 (.cons h1 .nil)
    | _ :: _ :: _ :: _, _ :: _ :: _ :: _, h => exact h
end
end CW

set_option Elab.async false
set_option linter.all false
set_option maxRecDepth 100000
set_option maxHeartbeats 2000000
/-! errors of the program: super().__init__(text) in an own __init__ over ValueError -/
namespace CW
open PySem PySem.Spec PyProof.Rows L2 PySem.W PySem.F PyProof.V PySem.Calls
/-- what the written part says of an __init__ at f, with the cell cc for __class__, of the class at C -/
structure SupK (K : PySem.W.Frag) (prog : Program) (C f cc cda : Addr) (fd : FuncData) : Prop where
  fn : ∃ oc od osl, K.lookup f = some ⟨oc, od, .func fd, osl⟩
  me : ∃ ar, (fd.params.posonlyargs ++ fd.params.args).head? = some ar ∧ ar.arg = "self"
  cod : ∃ ccl cdd vs ccs file tf, K.lookup cda = some ⟨ccl, cdd, .fields vs, ccs⟩ ∧ vs[2]? = some (.str file tf) ∧ ((prog.main.file : Str) == file) = true
  cel : ∃ cl cld csl, K.lookup cc = some ⟨cl, cld, .cell (some (.ref C)), csl⟩
  cls : ∃ cd, clsIn K C = some cd ∧ alongIn K "__init__" ((cd.mro.dropWhile (· != .ref C)).drop 1) = some (some (.builtin "ValueError.__init__"))
  sub : mroIn K C (.ref C) = some true
  ve : subIn K (.ref C) (.type "ValueError") = some true
  op : nsIn K cStatics "thirdparty.any" = some none
  top : (prog.main.scope.names.lookup ("super" : Str)).isSome = false
section
variable {X : Cx} {pins : List (Addr × Obj)} {σ : L2.St} {H : Hp} {s : Shared} {body : List Stmt} {p0 p1 p2 p3 p4 : Pos} {fe : Expr} {te : TA} {i : Nat} {a C f cc cda : Addr} {fd : FuncData}
theorem sup_stmt {Post : Hp → Prop} (S : SupK X.K X.prog C f cc cda fd) (T : OexC X.K C) (hks : Gl X "super") (hmg : X.mg "super" = none) (hkc : X.env.kindOf "__class__" = some .free) (hfu : X.env.func = some f) (hco : X.env.code = .ref cda)
    (hcl : X.env.cells.lookup ("__class__" : Str) = some cc) (hN : X.N[i]? = some ("self" : Str)) (hka : X.env.kindOf "self" = some .local) (hσ : σ[i]? = some (some (.ref a))) (hfe : PA X [fe] te) (he : starEach [fe] X.env = [(false, eval fe X.env)])
    (hi : interactive X.env = false) (hsw : swapsWith (.Call (.Attribute (.Call (.Name "super" p0) [] [] p1) "__init__" p2) [fe] [] p3) none p4.line X.env = pure false)
    {pl : Sem Bool} (hev : eval (.Call (.Attribute (.Call (.Name "super" p0) [] [] p1) "__init__" p2) [fe] [] p3) X.env = (do
      let ov ← attributeBase (.Call (.Name "super" p0) [] [] p1) "__init__" X.env (eval (.Call (.Name "super" p0) [] [] p1) X.env)
      standAt p2.atName
      let (f, first) ← holding [ov] (getMethod ov "__init__" pl)
      callWith p3 f first (backTo p3 (starEach [fe] X.env)) []))
    (I : L2.Inv X pins σ H s) (ha : H a = some (exo a C none)) (hv : te σ H fun vs H1 => vs.length ≤ 1000 ∧ H1 a = some (exo a C none) ∧ Post H1) :
    PySem.wpAt (model X.prog X.w) X.A (.func body X.env) (exec (.Expr (.Call (.Attribute (.Call (.Name "super" p0) [] [] p1) "__init__" p2) [fe] [] p3) p4) X.env) (fun fl s' => fl = .next ∧ ∃ H1, L2.Inv X pins σ H1 s' ∧ Post H1) X.xe s := by
  obtain ⟨oc, od, osl, hf⟩ := S.fn
  obtain ⟨ar, hme, har⟩ := S.me
  obtain ⟨ccl, cdd, vs, ccs, file, tf, hcod, hvs, hfile⟩ := S.cod
  obtain ⟨cl, cld, csl, hcel⟩ := S.cel
  obtain ⟨cd, hcd, hal⟩ := S.cls
  have KX := I.kIn
  obtain ⟨mb, hbn, hbx⟩ := I.ok.mod.blt
  obtain ⟨m, hns, hloc⟩ := I.loc
  obtain ⟨u, ru, hlook⟩ := hloc i "self" (.ref a) hN hσ (.inl hka)
  obtain rfl : u = Value.ref a := ru
  have hm : m "self" = some (.ref a) := by
    rcases hlook with h | ⟨h | h, _⟩
    · exact h.2
    · rw [hka] at h; cases h
    · rw [hka] at h; cases h
  obtain ⟨oD, hD1, hD2⟩ : ∃ oD, s.heap.get? C = some oD ∧ oD.data = .cls cd := by
    have h := hcd
    unfold clsIn at h
    split at h
    · rename_i c d cd' sl ho
      cases h
      exact ⟨_, KX _ _ ho, rfl⟩
    · cases h
  obtain ⟨t1, hox⟩ := exo_at I.hok ha
  refine ks_wpAt_Expr_any ?_ hi hsw
  refine ks_wpAt_MethodCall ?_ hev
  refine ks_wpAt_super_base hks hkc (by decide) hfu (KX _ _ hf) rfl hme hco (KX _ _ hcod) rfl hvs hfile S.top ?_
  refine ks_loadName_global I.ok.kind hks (loadGlobal_builtin (mg := X.mg) (mb := mb) (by rw [I.ok.glob]; exact I.ok.mod.glob.keeps I.bk) hmg (by rw [I.ok.blt]; exact hbn.keeps I.bk) ((hbx "super" (by decide)).trans (show bootBuiltins "super" = some (.type "super") by decide +kernel)) ⟨rfl, ?_⟩)
  refine wpAny_loadName_free I.ok.kind hkc hcl ⟨_, KX _ _ hcel, rfl⟩ ?_ (by decide)
  rw [har]
  refine wpAny_loadName_local I.ok.kind hka hns hm ?_
  refine ks_wpAny_isType_cls hD1 hD2 ⟨rfl, ?_⟩
  obtain ⟨hh, g, d, t, os⟩ := s
  refine ks_wpAny_call_super hD1 hD2 hox rfl (fun c e => by cases e) (looks_mroIn KX S.sub) (fun h1 e1 k1 => ?_)
  have I1 : L2.Inv X pins σ H ⟨h1, g, d, t, os⟩ := I.kept (t' := t) k1
  have K1 := I1.kIn
  have hox1 := k1 _ _ hox
  have ia : PySem.W.InstAt h1 a _ C none := ⟨hox1, rfl, rfl, trivial⟩
  refine kxs_getMethod kxs_ValueError e1 (looks_opaque K1 S.op) (l₀ := cd.mro) (fun A Q E s k q => wpAny_bind ((looks_clsIn K1 hcd) A _ E s k (wpAny_pure q))) rfl K1 hal (ia.type.andThen (looks_subIn K1 S.ve)) (ks_ne K1 ia hcd) (by decide) ?_
  have hu : (h1.push (kxs_mw "ValueError.__init__" a)).get? h1.objs.size = some (kxs_mw "ValueError.__init__" a) := Heap.get?_push_size _ rfl
  have I2 : L2.Inv X pins σ H ⟨h1.push (kxs_mw "ValueError.__init__" a), g, d, t + 1, os⟩ := I1.kept (t' := t + 1) fun b o e => Heap.get?_push_of_some _ e
  have I3 : L2.Inv X ((h1.objs.size, kxs_mw "ValueError.__init__" a) :: pins) σ H ⟨h1.push (kxs_mw "ValueError.__init__" a), g, d, t + 1, os⟩ := by
    refine I2.pins_of fun p hp => ?_
    rcases List.mem_cons.mp hp with rfl | hp
    · exact ⟨hu, I1.hok.fresh (Nat.le_refl _), fun z => absurd I1.lt (by show ¬ X.env.locals < h1.objs.size; rw [← z]; exact Nat.lt_irrefl _), I1.nofs (Nat.le_refl _), fun v e => by cases e⟩
    · exact I2.pin p (List.mem_append_right _ hp)
  have hrun := hfe.run p3 _ _ σ H _ I3 hv
  rw [he] at hrun ⊢
  refine kxs_callWith (i := "ValueError.__init__") (x := a) rfl (evalArgs_plain (thn hrun fun us s1 ⟨vs, H1, J, rv, hvl, ha1, hp⟩ => ?_))
  have hu1 := (J.pin _ (List.mem_append_right _ (List.mem_cons_self ..))).1
  refine ⟨hu1, ?_⟩
  have J1 : L2.Inv X pins σ H1 s1 := J.pins_of fun p hp => J.pin p (List.mem_append_right _ (List.mem_cons_of_mem _ hp))
  obtain ⟨nm, q, N, bs, bm, sn, sub, ab, col, dd, k0, k1', k2, k3, k5, hC, hbm⟩ := T.cls
  obtain ⟨t2, ho⟩ := exo_at J1.hok ha1
  obtain ⟨hp1, g1, d1, tk1, os1⟩ := s1
  have hlen : us.length ≤ sizeLine := by
    rw [← Paired.length rv, sizeLine_eq]
    omega
  refine wpAny_call (codeAny_of_tree ?_)
  show wpAny _ _ (callAny (.ref h1.objs.size) ⟨us, []⟩) _ _ _
  unfold callAny
  refine wpAny_bind (wpAny_load hu1 ?_)
  dsimp only
  refine KFB.if_so (by decide) ?_
  refine KFB.if_so (by decide) ?_
  refine wpAny_bind (check_bound_init F.excBase_ValueError.toExcCallFacts (J1.kIn _ _ hC) ho rfl ?_)
  refine wpAny_bind (wpAny_pure (wpAny_pure ?_))
  refine ⟨plainId_quiet (by decide +kernel) _, codeAny_builtin F.excBase_ValueError.initEntry ?_⟩
  refine exc_init_tree (cls := .ref C) (t0 := t2) (dv := none) (c2 := .none) (c3 := .none) (b4 := .bool false) ho hlen (fun h' k hx _ => ?_)
  have J2 := J1.write (t' := tk1) (x := a) (e := a) (o := exo a C none) (by rw [ha1]; exact True.intro) (.inl rfl) k ⟨_, hx⟩ (exo_ok hx)
  have eu : upd H1 a (exo a C none) = H1 := funext fun b => by
    by_cases hb : b = a
    · rw [hb, upd_same, ha1]
    · rw [upd_ne hb]
  rw [eu] at J2
  exact ⟨rfl, H1, J2, hp⟩
end
end CW

set_option Elab.async false
set_option linter.all false
set_option maxRecDepth 100000
set_option maxHeartbeats 2000000
namespace CW
open PySem PySem.Spec PyProof.Rows L2 NdefX PySem.W PySem.F PyProof.V PySem.Calls
section
variable {P : Program} {w : World} {K : PySem.W.Frag} {mg : Str → Option Value} {base : Heap} {CX : CXT} {C f cc cda : Addr} {name qual x : Str} {params : Arguments} {scope : Scope} {dV kV doc pm ctv : Value} {an : Option Addr} {N : List Str} {k : Nat} {p0 p1 p2 p3 p4 : Pos} {fe : Expr} {s2 : Stmt} {body : List Stmt}
abbrev errNF (name qual : Str) (params : Arguments) (body : List Stmt) (scope : Scope) (cc cda : Addr) : NF := ⟨name, qual, params, body, scope, [("__class__", cc)], cda⟩
theorem err_fn {ta : TA} {ts : TS} {sp : Sp} (S : SupK K P C f cc cda (fnX name qual params body scope [("__class__", cc)] dV kV doc pm an (.ref cda) ctv)) (T : OexC K C) (hmg : mg "super" = none)
    (NS : NScope N ["self", x] ["__class__"] scope) (hks : scope.names.lookup ("super" : Str) = some .globalImplicit) (hcode : codeIn K (.ref cda) qual = true)
    (hbody : body = [.Expr (.Call (.Attribute (.Call (.Name "super" p0) [] [] p1) "__init__" p2) [fe] [] p3) p4, s2])
    (hfe : ∀ A outer s H E, Room k (A.deeper (envF (errNF name qual params body scope cc cda) f s.heap.objs.size)) → PA (ncx CX P w K mg base N (errNF name qual params body scope cc cda) f A outer s H E) [fe] ta)
    (hs2 : ∀ A outer s H E, Room k (A.deeper (envF (errNF name qual params body scope cc cda) f s.heap.objs.size)) → PSs (ncx CX P w K mg base N (errNF name qual params body scope cc cda) f A outer s H E) [s2] ts)
    (hst : ∀ env : Env, starEach [fe] env = [(false, eval fe env)]) (hi : ∀ L, interactive (envF (errNF name qual params body scope cc cda) f L) = false)
    (hsw : ∀ L, swapsWith (.Call (.Attribute (.Call (.Name "super" p0) [] [] p1) "__init__" p2) [fe] [] p3) none p4.line (envF (errNF name qual params body scope cc cda) f L) = pure false)
    {pl : Env → Sem Bool} (hev : ∀ env : Env, eval (.Call (.Attribute (.Call (.Name "super" p0) [] [] p1) "__init__" p2) [fe] [] p3) env = (do
      let ov ← attributeBase (.Call (.Name "super" p0) [] [] p1) "__init__" env (eval (.Call (.Name "super" p0) [] [] p1) env)
      standAt p2.atName
      let (f, first) ← holding [ov] (getMethod ov "__init__" (pl env))
      callWith p3 f first (backTo p3 (starEach [fe] env)) []))
    (len : ∀ vs H Q E, sp vs H Q E → vs.length = 2)
    (hsp : ∀ vs H Q E, sp vs H Q E → ∃ a y, vs = [.ref a, y] ∧ H a = some (exo a C none) ∧ ta (startF N vs [none]) H fun ws H1 => ws.length ≤ 1000 ∧ H1 a = some (exo a C none) ∧ ts { nx := fun _ H' => Q .non H', rt := Q } (startF N vs [none]) H1) :
    FnOk P w K mg base CX (k + 1) f (fnX name qual params body scope [("__class__", cc)] dV kV doc pm an (.ref cda) ctv) ["self", x] sp := by
  refine ⟨len, fun A outer s H args us vs Q E hr e0 hb rv hq => ?_⟩
  obtain ⟨oc, od, osl, hf⟩ := S.fn
  obtain ⟨cl, cld, csl, hcel⟩ := S.cel
  have bk : ∀ b o, base.get? b = some o → s.heap.get? b = some o := fun b o e => (e0.bs b o e).1
  have KX : K.In s.heap := e0.mod.kin.keeps bk
  have lim : s.heap.NoLimit := e0.mod.nolimit.keeps bk
  obtain ⟨a, y, rfl, ha, hta⟩ := hsp vs H Q E hq
  have hpar : ∀ z ∈ (["self", x] : List Str).zip us, scope.names.lookup z.1 = some .local := fun ⟨n, _⟩ hy => NS.par n (List.of_mem_zip hy).1
  have Ce : CellsAt [(("__class__" : Str), cc)] ["__class__"] [none] s.heap H := by
    refine ⟨rfl, fun y c e => ?_, fun x y c e1 e2 => ?_, fun i y e => ?_⟩
    · have hc : c = cc := by
        rw [List.lookup_cons] at e
        split at e
        · exact (Option.some.inj e).symm
        · cases e
      subst hc
      exact ⟨(e0.bs _ _ (e0.mod.kin _ _ hcel)).2, _, _, KX _ _ hcel, rfl⟩
    · have h1 : x = "__class__" := by
        rw [List.lookup_cons] at e1
        split at e1
        · rename_i h; exact eq_of_beq h
        · cases e1
      have h2 : y = "__class__" := by
        rw [List.lookup_cons] at e2
        split at e2
        · rename_i h; exact eq_of_beq h
        · cases e2
      rw [h1, h2]
    · match i, e with
      | 0, e =>
        cases e
        exact ⟨cc, rfl, fun v e => by cases e⟩
  refine ks_codeAny_call_defAt (fd := fnX name qual params body scope [("__class__", cc)] dV kV doc pm an (.ref cda) ctv) (body := body) (binds := (["self", x] : List Str).zip us) hr.depth (KX _ _ hf) rfl lim (codeRec_of KX hcode) rfl hb NS.nocell hpar (fun h₁ hns kp => ?_) NS.co NS.gen NS.kind
  have I : L2.Inv (ncx CX P w K mg base N (errNF name qual params body scope cc cda) f A outer s H E) [] (startF N [.ref a, y] [none]) H { s with heap := h₁, toks := s.toks + ((["self", x] : List Str).zip us).length } := inv_startN NS hr.hd e0 rfl rv Ce hns kp
  subst hbody
  have h1 := sup_stmt (X := ncx CX P w K mg base N (errNF name qual params [.Expr (.Call (.Attribute (.Call (.Name "super" p0) [] [] p1) "__init__" p2) [fe] [] p3) p4, s2] scope cc cda) f A outer s H E)
    (body := [.Expr (.Call (.Attribute (.Call (.Name "super" p0) [] [] p1) "__init__" p2) [fe] [] p3) p4, s2]) (i := 0) (pins := []) (σ := startF N [.ref a, y] [none]) (H := H) (a := a) S T hks hmg ?hkc rfl rfl rfl ?hN (NS.par "self" (List.mem_cons_self ..)) rfl (hfe A outer s H E (hr.deeper _)) (hst _) (hi _) (hsw _) (hev _) I ha hta
  case hkc => exact NS.frk "__class__" (List.mem_cons_self ..)
  case hN =>
    have h := congrArg (fun l : List Str => l[0]?) NS.pre
    have h2 : (N.take ((["self", x] : List Str).length + (["__class__"] : List Str).length))[0]? = N[0]? := List.getElem?_take_of_lt (Nat.succ_pos _)
    exact h2.symm.trans h
  refine ks_wpAt_execs_cons (PySem.wpAt_mono h1 (fun fl s' ⟨e, H1, J, hp⟩ => ?_) fun e s' h => h)
  subst e
  refine PySem.wpAt_of_wpAny (wpAny_mono ((hs2 A outer s H E (hr.deeper _)).run [] s' _ H1 _ J hp) (fun fl s'' hs => ?_) fun e s' h => h)
  cases fl with
  | ret u =>
    obtain ⟨v, σ', H', J', rv', q⟩ := hs
    exact ⟨v, H', J'.os, J'.bare, J'.base, J'.hok, rv', q⟩
  | next =>
    obtain ⟨σ', H', J', q⟩ := hs
    exact ⟨V.non, H', J'.os, J'.bare, J'.base, J'.hok, rfl, q⟩
  | brk =>
    obtain ⟨_, _, _, q⟩ := hs
    exact False.elim q
  | cont =>
    obtain ⟨_, _, _, q⟩ := hs
    exact False.elim q
end
end CW

set_option Elab.async false
set_option linter.all false
set_option maxRecDepth 100000
set_option maxHeartbeats 2000000
namespace CW
open PySem PySem.Spec PyProof.Rows L2 NdefX PySem.W
/-- a value whose text can be told in an error's words: a text of signs below 128, or a small number -/
def RepV (y : V) : Prop := (∃ z : Str, y = .str z ∧ ascS z = true ∧ z.length ≤ 100000) ∨ ∃ i : Int, y = .int i ∧ i.natAbs.log2 < 1920
/-- an own __init__ of an error keeps this: the one field is set -/
def spErr (C : Addr) (fld : Str) : Sp := fun vs H Q _ => ∃ a y, vs = [.ref a, y] ∧ H a = some (exo a C none) ∧ RepV y ∧ ∀ dx, H dx = none → dx ≠ a → Q .non (upd (upd H dx (exd dx [(fld, y)])) a (exo a C (some dx)))
def taErr (pre : Str) : TA := tCons (fun σ H Q => tJs [tC (.str pre), tFmtR (tVar 1)] Str.empty σ H fun out H1 => Q (.str out) H1) tNil
theorem int_text {i : Int} (h : i.natAbs.log2 < 1920) : (Str.ofString (toString i)).length ≤ 100000 := by
  have h1 := int_text_length_le (by decide) h
  rw [PySem.ofString_length]
  omega
theorem err_read {K : PySem.W.Frag} {C : Addr} {fld pre x : Str} (T : OexC K C) (hno : findIn K (.ref C) fld = some none) (hpre : pre.length ≤ 100) {vs : List V} {H : Hp} {Q : VK} {E : XK} (h : spErr C fld vs H Q E) :
    ∃ a y, vs = [.ref a, y] ∧ H a = some (exo a C none) ∧ taErr pre (startF ["self", x, "__class__"] vs [none]) H fun ws H1 => ws.length ≤ 1000 ∧ H1 a = some (exo a C none) ∧ tOst K fld (tVar 0) (tVar 1) { nx := fun _ H' => Q .non H', rt := Q } (startF ["self", x, "__class__"] vs [none]) H1 := by
  obtain ⟨a, y, rfl, ha, hy, q⟩ := h
  refine ⟨a, y, rfl, ha, ?_⟩
  have fin : tOst K fld (tVar 0) (tVar 1) { nx := fun _ H' => Q .non H', rt := Q } (startF ["self", x, "__class__"] [.ref a, y] [none]) H :=
    ⟨y, rfl, .ref a, rfl, a, C, rfl, T, hno, .inl ⟨ha, q⟩⟩
  have e0 : Str.length (Str.empty ++ pre) = pre.length := by rw [len_app]; show 0 + _ = _; omega
  refine ⟨pre, rfl, by rw [e0, sizeLine_eq]; omega, y, rfl, ?_⟩
  rcases hy with ⟨z, rfl, hz, hl⟩ | ⟨i, rfl, hi⟩
  · have hr := StrLaws.reprText_len z fun c hc => Nat.lt_trans (of_decide_eq_true (List.all_eq_true.mp hz c hc)) (by decide)
    refine .inl ⟨z, rfl, by rw [sizeLine_eq]; omega, _, rfl, ?_, ?_⟩
    · rw [len_app, e0, sizeLine_eq]; omega
    · exact ⟨by show 1 ≤ 1000; omega, ha, fin⟩
  · have hr := int_text hi
    refine .inr ⟨i, rfl, hi, _, rfl, ?_, ?_⟩
    · rw [len_app, e0, sizeLine_eq]; exact Nat.le_trans (Nat.add_le_add_left hr _) (by omega)
    · exact ⟨by show 1 ≤ 1000; omega, ha, fin⟩
end CW

set_option Elab.async false
set_option linter.all false
set_option maxRecDepth 100000
set_option maxHeartbeats 2000000
/-! errors of the program held as values: made, their fields read, asked by isinstance -/
namespace CW
open PySem PySem.Spec PyProof.Rows L2 PySem.W PySem.F PyProof.V PySem.Calls
/-- C(e, ..) as a value, C's own __init__ keeping sp -/
def tMkX (C : Addr) (sp : Sp) (ta : TA) : TE := fun σ H Q => ta σ H fun vs H1 => vs.length ≤ 1000 ∧ ∀ a, H1 a = none → sp (.ref a :: vs) (upd H1 a (exo a C none)) (fun v H2 => v = .non ∧ Q (.ref a) H2) (fun _ _ _ => False)
/-- C() as a value, C without own __init__ -/
def tMkP (C : Addr) : TE := fun _ H Q => ∀ a, H a = none → Q (.ref a) (upd H a (ExO (.ref C) a))
/-- an error of the class C stands at a -/
def ErrAt (H : Hp) (a C : Addr) : Prop := (∃ d fs, H a = some (exo a C (some d)) ∧ H d = some (exd d fs)) ∨ H a = some (ExO (.ref C) a)
/-- e.f of an error held as a value -/
def tXv (K : PySem.W.Frag) (f : Str) (te : TE) : TE := fun σ H Q => te σ H fun x H1 => ∃ (a C d : Addr) (fs : List (Str × V)) (v : V), x = .ref a ∧ XfC K C ∧ PySem.W.findIn K (.ref C) f = some none ∧ H1 a = some (exo a C (some d)) ∧ H1 d = some (exd d fs) ∧ fs.lookup f = some v ∧ Q v H1
/-- isinstance(e, c) of an error held as a value -/
def rIsV (K : PySem.W.Frag) : List V → Hp → VK → Prop := fun xs H Q => ∃ (a D : Addr) (c : V) (cv : Value) (b : Bool), xs = [.ref a, c] ∧ ErrAt H a D ∧ ExcC K D ∧ (∀ u, RelV c u → u = cv) ∧ PySem.W.kitOne K (.ref D) cv = some b ∧ Q (.bl b) H
section
variable {X : Cx} {e : Expr} {es : List Expr} {te : TE} {ta : TA} {p pos : Pos}
theorem exO_at {P : Program} {w : World} {H : Hp} {h : Heap} {a : Addr} {cls : Value} (hok : HOk P w H h) (he : H a = some (ExO cls a)) : ∃ (oe : Obj) (vs : Array Value), h.get? a = some oe ∧ Zc cls none oe ∧ oe.data = .fields vs := by
  have x : ObjOk P w H h a (.ext fun h => ∃ (oe : Obj) (vs : Array Value), h.get? a = some oe ∧ Zc cls none oe ∧ oe.data = .fields vs ∧ vs[1]? = some .none ∧ vs[2]? = some .none ∧ 4 < vs.size) := hok a _ he
  obtain ⟨oe, vs, h1, h2, h3, _⟩ := x.1
  exact ⟨oe, vs, h1, h2, h3⟩
theorem pe_mkx {CX : CXT} {x : Str} {C fI : Addr} {k : Nat} {fd : FuncData} {ps : List Str} {sp : Sp} (T : OexC X.K C) (iC : PySem.W.findIn X.K (.ref C) "__init__" = some (some (.ref fI))) (tI : PySem.W.typeIn X.K (.ref fI) = some (.type "function"))
    (F1 : FnOk X.prog X.w X.K X.mg X.base CX k fI fd ps sp) (hr : Room (k + 1) X.A) (hb : Binds X.K fd ps []) (hx : Passes CX X (fun _ _ _ => False)) (hg : Gl X x) (hm : X.mg x = some (.ref C)) (ha : PA X (e :: es) ta)
    (hdb : (x == ("__debug__" : Str)) = false := by decide) (he : starEach (e :: es) X.env = (false, eval e X.env) :: starEach es X.env := by rfl) (hpl : (backTo pos (starEach es X.env)).any (·.1) = false := by rfl) :
    PE X (.Call (.Name x p) (e :: es) [] pos) (tMkX C sp ta) := by
  refine ⟨fun pins s σ H Q I h => ?_⟩
  obtain ⟨nm, q, N, bs, bm, sn, sub, ab, col, dd, k0, k1, k2, k3, k5, hC, hbm⟩ := T.cls
  refine wpAny_Call_Name_kw (ld_glob I hg hm ?_ hdb)
  refine PySem.W.callWith_K (h₀ := X.base) I.ok.mod.kin T.kC (thn (ha.run pos pins s σ H _ I h) fun us s1 ⟨vs, H1, I1, r1, hz, q1⟩ => ⟨I1.kIn, ?_⟩) he hpl
  show wpAny _ _ (call (.ref C) us) _ _ _
  obtain ⟨hp, g, dr, tk, os⟩ := s1
  have hsz : hp.objs.size ≤ hp.objs.size + 1 := Nat.le_succ _
  have hn : H1 (hp.objs.size + 1) = none := I1.hok.fresh hsz
  have hq := q1 (hp.objs.size + 1) hn
  have kk : ∀ b o, hp.get? b = some o → ((hp.push (PySem.W.kdv_tup us)).push (PySem.HandSPX.excO C hp.objs.size)).get? b = some o := fun b o e => Heap.get?_push_of_some _ (Heap.get?_push_of_some _ e)
  have hget : ((hp.push (PySem.W.kdv_tup us)).push (PySem.HandSPX.excO C hp.objs.size)).get? (hp.objs.size + 1) = some (PySem.HandSPX.excO C hp.objs.size) := by heap_get
  have I2 : L2.Inv X pins σ (upd H1 (hp.objs.size + 1) (exo (hp.objs.size + 1) C none)) ⟨(hp.push (PySem.W.kdv_tup us)).push (PySem.HandSPX.excO C hp.objs.size), g, dr, tk, os⟩ :=
    I1.laid (t' := tk) (a := hp.objs.size + 1) (o := exo (hp.objs.size + 1) C none) (h' := (hp.push (PySem.W.kdv_tup us)).push (PySem.HandSPX.excO C hp.objs.size)) kk hsz (exo_ok hget)
  have r2 : Vals (V.ref (hp.objs.size + 1) :: vs) (Value.ref (hp.objs.size + 1) :: us) := .cons rfl r1
  have hl : (Value.ref (hp.objs.size + 1) :: us ++ []).length = ps.length := by
    rw [List.append_nil]
    have e := r2.length
    rw [F1.len _ _ _ _ hq] at e
    exact e.symm
  have hus : us.length ≤ sizeLine := by
    rw [← Paired.length r1, sizeLine_eq]
    omega
  refine wpAny_call (PySem.HandSPX.call_own F.excBase_ValueError (fun Y => PySem.HandSPX.refsVE_contains Y bm hbm) (I1.kIn _ _ hC) (PySem.W.looks_findIn I1.kIn iC) (fun self => PySem.W.bind_fn I1.kIn self tI) hus
    (codeAny_mono (F1.run _ X.stack _ _ ⟨Value.ref (hp.objs.size + 1) :: us, []⟩ (Value.ref (hp.objs.size + 1) :: us) _ _ (fun _ _ _ => False) (hr.make C us []) (I2.env0.make C us []) (by have h2 := hb _ (Value.ref (hp.objs.size + 1) :: us) I2.kIn hl; rw [List.append_nil] at h2; exact h2) r2 hq) fun r s' hq' => ?_))
  cases r with
  | error er => exact hx pins σ _ _ er s' I2 hq'
  | ok fl =>
    cases fl with
    | ret u =>
      obtain ⟨v, H2, os2, bare2, un2, hok2, rv, ev, q2⟩ := hq'
      subst ev
      obtain ⟨h2, g2, d2, t2, os'⟩ := s'
      exact ⟨rv, .ref (hp.objs.size + 1), H2, I2.call' (ch := []) os2 un2 hok2 bare2 (fun b z => absurd z (by simp)), rfl, q2⟩
    | next => exact False.elim hq'
    | brk => exact False.elim hq'
    | cont => exact False.elim hq'
theorem pe_mkp {C : Addr} {bmB : List Value} {B newId initId : String} {x : Str} (F : ExcBaseFacts B newId initId bmB) (q : PySem.W.excIn X.K C bmB newId = true) (gC : X.mg x = some (.ref C)) (kC : PySem.W.keepIn X.K (.ref C) = true) (hg : Gl X x)
    (hdb : (x == ("__debug__" : Str)) = false := by decide) : PE X (.Call (.Name x p) [] [] pos) (tMkP C) := by
  refine ⟨fun pins s σ H Q I h => ?_⟩
  refine wpAny_Call_Name_kw (ld_glob I hg gC ?_ hdb)
  refine PySem.W.callWith_K0 I.kIn kC ?_
  show wpAny _ _ (call (.ref C) []) _ _ _
  obtain ⟨bm, N, nm, qn, bs, hdct, sn, sub, ab, col, dd, k0, k1, k2, k3, k5, mN, hC, hN, hni, T⟩ := exc_obj I.kIn q
  refine wpAny_call_exc_subT F T hC hN hni (fun h' a hm => ?_) (by show 0 ≤ sizeLine; exact Nat.zero_le _)
  have hn : H a = none := I.hok.gone hm.new
  obtain ⟨t, ht, _, _⟩ := hm.there
  exact ⟨.ref a, upd H a (ExO (.ref C) a), I.laidN hm.keeps hm.new hn (exO_ok ht ⟨rfl, rfl⟩ rfl rfl rfl (show 4 < 6 by decide)), rfl, h a hn⟩
theorem pe_xv {n : Str} (he : PE X e te) (hb : attributeBase e n X.env (eval e X.env) = eval e X.env := by rfl) : PE X (.Attribute e n pos) (tXv X.K n te) := by
  refine ⟨fun pins s σ H Q I h => ?_⟩
  refine attr_of hb (thn (he.run pins s σ H _ I h) fun u s1 hh => ?_)
  obtain ⟨x, H1, I1, rx, a, C, dd, fs, v, ex, T, hno, ha, ed, l, q⟩ := hh
  subst ex
  obtain rfl : u = Value.ref a := rx
  obtain ⟨t1, hao⟩ := exo_at I1.hok ha
  obtain ⟨mA, hns, hr⟩ := exd_at I1.hok ed
  obtain ⟨od, ho, hl⟩ := lookIn_ns hns
  obtain ⟨u, hu, ru⟩ := RelO.some_of (v := v) (o := mA n) (by rw [← l]; exact hr n)
  have J : PySem.W.InstAt s1.heap a { cls := .ref C, dict := some dd, data := .fields #[.ref t1, .none, .none, .none, .bool false, .none] } C (some od) := ⟨hao, rfl, rfl, ho⟩
  exact HandSPX.exc_get I1.kIn J T.ga T.gg T.exC (PySem.W.findObj_own T.hdC hno rfl (by rw [hl, hu])) (handed_of ru) ⟨v, H1, I1.tok _, ru, q⟩
theorem call_isV : CallR X (.builtin "isinstance") (rIsV X.K) := by
  intro pins s σ H xs us Q I r h
  obtain ⟨a, D, c, cv, b, rfl, hE, C, hcv, e, q⟩ := h
  cases r with
  | cons rx rr =>
    cases rr with
    | cons rt rr =>
      cases rr
      cases rx
      have ec := hcv _ rt
      subst ec
      have hcl : (PySem.W.clsIn X.K D).isSome = true := by
        obtain ⟨cdD, hcD, _⟩ := PySem.W.any_some C.hd
        rw [hcD]
        rfl
      rcases hE with ⟨dd, fs, ha, hdd⟩ | ha
      · obtain ⟨t1, hao⟩ := exo_at I.hok ha
        obtain ⟨mA, hns, hr⟩ := exd_at I.hok hdd
        obtain ⟨od, es, ep, ho, _⟩ := hns
        have J : PySem.W.InstAt s.heap a { cls := .ref D, dict := some dd, data := .fields #[.ref t1, .none, .none, .none, .bool false, .none] } D (some od) := ⟨hao, rfl, rfl, ho⟩
        exact PySem.W.kia_one (PySem.W.kitx_exc hcl C.hg C.hk C.hs C.ha C.hn C.ht C.hm) I.kIn J e (fun z => nomatch z) fun tk => ⟨.bl b, H, I.kept (t' := tk) fun _ _ z => z, rfl, q⟩
      · obtain ⟨oe, vs, hao, hz, hv⟩ := exO_at I.hok ha
        have J : PySem.W.InstAt s.heap a oe D none := by
          obtain ⟨oc, od, oda, osl⟩ := oe
          obtain ⟨h1, h2⟩ := hz
          dsimp only at h1 h2 hv
          subst h1 h2 hv
          exact ⟨hao, rfl, rfl, trivial⟩
        exact PySem.W.kia_one (PySem.W.kitx_exc hcl C.hg C.hk C.hs C.ha C.hn C.ht C.hm) I.kIn J e (fun z => nomatch z) fun tk => ⟨.bl b, H, I.kept (t' := tk) fun _ _ z => z, rfl, q⟩
end
end CW

set_option Elab.async false
set_option linter.all false
set_option maxRecDepth 100000
set_option maxHeartbeats 2000000
/-! calls that may raise: C(e, ..) and o.m(e, ..); in the suite: isinstance and the fields of the error that it holds -/
namespace CW
open PySem PySem.Spec PyProof.Rows L2 PySem.W PySem.F PyProof.V PySem.Calls
section
variable {X : Cx} {CX : CXT} {k : Nat} {f C : Addr} {fd : FuncData} {ps : List Str} {sp : Sp} {E : L2.St → XK} {x m : Str} {p pos apos : Pos} {e o : Expr} {es : List Expr} {ta : TE} {t : TA}
theorem run_makeX {pins : List (Addr × Obj)} {σ : L2.St} {H : Hp} {s : Shared} {Q : VK} {us : List Value} {vs : List V} (M : L2.Mk X.K C f) (F : FnOk X.prog X.w X.K X.mg X.base CX k f fd ps sp) (hr : Room (k + 1) X.A) (hb : Binds X.K fd ps [])
    (hx : PassesAt CX X σ (E σ)) (I : L2.Inv X pins σ H s) (r : Vals vs us)
    (h : ∀ x dx, H x = none → H dx = none → dx ≠ x → sp (.ref x :: vs) (upd (upd H dx (.own x)) x (.ins C dx [])) (fun v H2 => v = .non ∧ Q (.ref x) H2) (E σ)) :
    wpAny (model X.prog X.w) X.A (call (.ref C) us) (EP X pins σ Q) X.xe s := by
  have hq := h (s.heap.objs.size + 1) s.heap.objs.size (I.hok.fresh (Nat.le_succ _)) (I.hok.fresh (Nat.le_refl _)) (Nat.ne_of_lt (Nat.lt_succ_self _))
  have I2 := Inv.made (C := C) I
  have r2 : Vals (V.ref (s.heap.objs.size + 1) :: vs) (Value.ref (s.heap.objs.size + 1) :: us) := .cons rfl r
  have hl : (Value.ref (s.heap.objs.size + 1) :: us ++ []).length = ps.length := by
    rw [List.append_nil]
    have e := r2.length
    rw [F.len _ _ _ _ hq] at e
    exact e.symm
  refine wpAny_call (make_map (f := f) I.kIn M.makes M.init (beq_iff_eq.mp M.fn) (codeAny_mono (F.run _ X.stack _ _ ⟨Value.ref (s.heap.objs.size + 1) :: us, []⟩ (Value.ref (s.heap.objs.size + 1) :: us) _ _ (E σ) (hr.make C us [])
    (I2.env0.make C us []) (by have h2 := hb _ (Value.ref (s.heap.objs.size + 1) :: us) I2.kIn hl; rw [List.append_nil] at h2; exact h2) r2 hq) fun r s' hq' => ?_))
  cases r with
  | error e => exact hx pins _ _ e s' I2 hq'
  | ok fl =>
    cases fl with
    | ret u =>
      obtain ⟨v, H', I3, rv, ev, q3⟩ := I2.after hq'
      subst ev
      exact ⟨rv, ⟨V.ref (s.heap.objs.size + 1), H', I3, rfl, q3⟩⟩
    | next => exact False.elim hq'
    | brk => exact False.elim hq'
    | cont => exact False.elim hq'
/-- C(e, ..), C's own __init__ may raise -/
def tMakeX (C : Addr) (sp : Sp) (E : L2.St → XK) (t : TA) : TE := fun σ H Q => t σ H fun vs H1 => ∀ x dx, H1 x = none → H1 dx = none → dx ≠ x → sp (.ref x :: vs) (upd (upd H1 dx (.own x)) x (.ins C dx [])) (fun v H2 => v = .non ∧ Q (.ref x) H2) (E σ)
theorem pe_makeX (M : L2.Mk X.K C f) (F : FnOk X.prog X.w X.K X.mg X.base CX k f fd ps sp) (hr : Room (k + 1) X.A) (hg : Gl X x) (hm : X.mg x = some (.ref C)) (hb : Binds X.K fd ps []) (hx : ∀ σ, PassesAt CX X σ (E σ))
    (ha : PA X (e :: es) t) (hdb : (x == ("__debug__" : Str)) = false := by decide) (he : starEach (e :: es) X.env = (false, eval e X.env) :: starEach es X.env := by rfl) (hpl : (backTo pos (starEach es X.env)).any (·.1) = false := by rfl) :
    PE X (.Call (.Name x p) (e :: es) [] pos) (tMakeX C sp E t) := by
  refine ⟨fun pins s σ H Q I h => ?_⟩
  refine wpAny_Call_Name_kw (ld_glob I hg hm ?_ hdb)
  refine PySem.W.callWith_K (h₀ := X.base) I.ok.mod.kin M.kp (thn (ha.run pos pins s σ H _ I h) fun us s1 ⟨vs, H1, I1, r, q⟩ => ⟨I1.kIn, ?_⟩) he hpl
  exact run_makeX M F hr hb (hx σ) I1 r q
/-- o.m(e, ..), the method may raise -/
def tMethX (C : Addr) (m : Str) (sp : Sp) (E : L2.St → XK) (ta : TE) (t : TA) : TE := fun σ H Q => ta σ H fun x H1 => ∃ a dx fs, x = .ref a ∧ H1 a = some (.ins C dx fs) ∧ fs.lookup m = none ∧ t σ H1 fun vs H2 => sp (x :: vs) H2 Q (E σ)
theorem pe_methX {pl : Sem Bool} (he : PE X o ta) (c : L2.Cls X.K C) (hm : L2.Meth X.K C m f) (F : FnOk X.prog X.w X.K X.mg X.base CX k f fd ps sp) (hr : Room k X.A) (hb : Binds X.K fd ps []) (hx : ∀ σ, PassesAt CX X σ (E σ)) (ha : PA X (e :: es) t)
    (hst : starEach (e :: es) X.env = (false, eval e X.env) :: starEach es X.env := by rfl) (hpl : (backTo pos (starEach es X.env)).any (·.1) = false := by rfl)
    (ht : eval (.Call (.Attribute o m apos) (e :: es) [] pos) X.env = (do
      let ov ← eval o X.env
      standAt apos.atName
      let (f, first) ← holding [ov] (getMethod ov m pl)
      callWith pos f first (backTo pos (starEach (e :: es) X.env)) (backToKw pos (keywordEach [] X.env))) := by rfl) :
    PE X (.Call (.Attribute o m apos) (e :: es) [] pos) (tMethX C m sp E ta t) := by
  refine ⟨fun pins s σ H Q I h => ?_⟩
  refine PySem.W.methodCall_KW (pl := pl) (thn (he.run pins s σ H _ I h) fun u s1 ⟨x, H1, I1, rx, a, dx, fs, ex, ea, l, q⟩ => ?_) ht
  subst ex
  obtain rfl : u = Value.ref a := rx
  refine getmeth_ok I1 ea c hm l ?_
  refine PySem.W.callWith_K (first := [.ref a]) (h₀ := X.base) I.ok.mod.kin hm.kp (thn (ha.run pos pins s1 σ H1 _ I1 q) fun us s2 ⟨vs, H2, I2, r, q2⟩ => ⟨I2.kIn, ?_⟩) hst hpl
  exact run_fnS (us := .ref a :: us) (vs := .ref a :: vs) F hr hb (hx σ) I2 (.cons rfl r) q2
end
/-- isinstance(e, c), e the error (with its dict) that the suite holds -/
def rIsS (K : PySem.W.Frag) (a : Addr) (cls : Value) (d : Option Addr) : List V → Hp → VK → Prop := fun xs H Q => ∃ (D : Addr) (c : V) (cv : Value) (b : Bool), xs = [.ref a, c] ∧ cls = .ref D ∧ (d = none ∨ ∃ dd fs, d = some dd ∧ H dd = some (.xd fs)) ∧ ExcC K D ∧ (∀ u, RelV c u → u = cv) ∧ PySem.W.kitOne K (.ref D) cv = some b ∧ Q (.bl b) H
theorem call_isS {X : Cx} {a : Addr} {oe : Obj} {cls : Value} {d : Option Addr} {pn : List (Addr × Obj)} (hz : Zc cls d oe) (hf : ∃ vs, oe.data = .fields vs) : CallR (X.suite a ((a, oe) :: pn)) (.builtin "isinstance") (rIsS X.K a cls d) := by
  intro pins s σ H xs us Q I r h
  obtain ⟨D, c, cv, b, rfl, rfl, hd, C, hcv, e, q⟩ := h
  cases r with
  | cons rx rr =>
    cases rr with
    | cons rt rr =>
      cases rr
      cases rx
      have ec := hcv _ rt
      subst ec
      have hcl : (PySem.W.clsIn X.K D).isSome = true := by
        obtain ⟨cdD, hcD, _⟩ := PySem.W.any_some C.hd
        rw [hcD]
        rfl
      obtain ⟨hget, _⟩ := I.pin (a, oe) (List.mem_append.mpr (.inl List.mem_cons_self))
      obtain ⟨vs, hv⟩ := hf
      obtain ⟨od, J⟩ : ∃ od, PySem.W.InstAt s.heap a oe D od := by
        rcases hd with rfl | ⟨dd, fs, rfl, hdd⟩
        · exact ⟨none, hget, hz.1, by unfold PySem.W.notCls; rw [hv] <;> rfl, by rw [hz.2]; exact trivial⟩
        · have hx : ObjOk X.prog X.w H s.heap dd (.xd fs) := I.hok dd _ hdd
          obtain ⟨mA, hns, hr⟩ := hx
          obtain ⟨od, es, ep, ho, _⟩ := hns
          exact ⟨some od, hget, hz.1, by unfold PySem.W.notCls; rw [hv] <;> rfl, by rw [hz.2]; exact ho⟩
      exact PySem.W.kia_one (PySem.W.kitx_exc hcl C.hg C.hk C.hs C.ha C.hn C.ht C.hm) I.kIn J e (fun z => nomatch z) fun tk => ⟨.bl b, H, I.kept (t' := tk) fun _ _ z => z, rfl, q⟩
/-- e.f, e the error that the suite holds, of whichever class -/
def tXs (K : PySem.W.Frag) (a : Addr) (cls : Value) (d : Option Addr) (f : Str) (te : TE) : TE := fun σ H Q => te σ H fun x H1 => x = .ref a ∧ ∃ (C dd : Addr) (fs : List (Str × V)) (v : V), cls = .ref C ∧ XfC K C ∧ PySem.W.findIn K (.ref C) f = some none ∧ d = some dd ∧ H1 dd = some (.xd fs) ∧ fs.lookup f = some v ∧ Q v H1
theorem pe_xs {X : Cx} {a : Addr} {oe : Obj} {cls : Value} {d : Option Addr} {pn : List (Addr × Obj)} {e : Expr} {te : TE} {pos : Pos} {n : Str} (hz : Zc cls d oe) (hf : ∃ vs, oe.data = .fields vs) (he : PE (X.suite a ((a, oe) :: pn)) e te)
    (hb : attributeBase e n X.env (eval e X.env) = eval e X.env := by rfl) : PE (X.suite a ((a, oe) :: pn)) (.Attribute e n pos) (tXs X.K a cls d n te) := by
  refine ⟨fun pins s σ H Q I h => ?_⟩
  refine attr_of hb (thn (he.run pins s σ H _ I h) fun u s1 hh => ?_)
  obtain ⟨x, H1, I1, rx, ex, C, dd, fs, v, ec, T, hno, ed, ea, l, q⟩ := hh
  subst ex
  obtain rfl : u = Value.ref a := rx
  subst ec
  subst ed
  obtain ⟨ha, _⟩ := I1.pin (a, oe) (List.mem_append_left _ List.mem_cons_self)
  obtain ⟨vs, hd⟩ := hf
  have hx : ObjOk X.prog X.w H1 s1.heap dd (.xd fs) := I1.hok dd _ ea
  obtain ⟨mA, hns, hr⟩ := hx
  obtain ⟨od, ho, hl⟩ := lookIn_ns hns
  obtain ⟨u, hu, ru⟩ := RelO.some_of (v := v) (o := mA n) (by rw [← l]; exact hr n)
  have J : PySem.W.InstAt s1.heap a oe C (some od) := ⟨ha, hz.1, by unfold PySem.W.notCls; rw [hd] <;> rfl, by rw [hz.2]; exact ho⟩
  exact HandSPX.exc_get I1.kIn J T.ga T.gg T.exC (PySem.W.findObj_own T.hdC hno rfl (by rw [hl, hu])) (handed_of ru) ⟨v, H1, I1.tok _, ru, q⟩
end CW

set_option Elab.async false
set_option linter.all false
set_option maxRecDepth 100000
set_option maxHeartbeats 2000000
/-! list.count of flat values -/
namespace CW
open PySem PySem.Spec PyProof.Rows L2
def rCntF (K : PySem.W.Frag) : V → List V → Hp → VK → Prop := fun x xs H Q => ∃ (p : Addr) (ys : List V) (y : V), x = .ref p ∧ xs = [y] ∧ SqL K H p ys ∧ flatV y = true ∧ ys.all flatV = true ∧ Q (.int (ys.countP fun z => eqV z y : Nat)) H
theorem countP_eqU {y : V} : ∀ {ys : List V} {us : List Value}, Vals ys us → ys.all flatV = true → us.countP (eqU y) = ys.countP fun z => eqV z y
  | _, _, .nil, _ => rfl
  | _, _, .cons r rs, f => by
    rw [List.all_cons, Bool.and_eq_true] at f
    rw [List.countP_cons, List.countP_cons, countP_eqU rs f.2, eqU_of r f.1]
theorem mt_countF {X : Cx} : MtR X "list.count" (rCntF X.K) := by
  intro pins s σ H x xs v us Q I rx rxs h
  obtain ⟨p, ys, y, rfl, rfl, hs, fy, fys, q⟩ := h
  cases rx
  cases rxs with
  | cons ry rt =>
    rename_i uy ut
    cases rt
    obtain ⟨its, rv, ⟨⟨cls, dd, data, sl⟩, n, ho, hc, hdn, hd⟩, hlen⟩ := I.list hs
    simp only at hc hd
    subst hc hd
    refine call_meets PySem.F.slot_list_count ⟨_, ho, rfl⟩ PySem.F.entry_list_count (PySem.F.args_list_count_2 _ _)
      (SeqAt.list_countAt p its.toArray n dd sl uy (eqU y)) ⟨ho, fun u' hu' => mem_eqAt ry fy rv fys u' (by simpa using hu'), ?_⟩
    have ec : its.toArray.toList.countP (eqU y) = ys.countP fun z => eqV z y := countP_eqU rv fys
    refine ⟨.int (ys.countP fun z => eqV z y : Nat), H, I.tok _, ⟨s.toks, ?_⟩, q⟩
    show Value.int ((its.toArray.toList.countP (eqU y) : Nat) : Int) s.toks = Value.int ((ys.countP fun z => eqV z y : Nat) : Int) s.toks
    rw [ec]
end CW
namespace CW
open PySem PySem.Spec PyProof.Rows L2
theorem mark_units {A : Around} {v : Option Value} : (A.mark v).units = A.units := by first | rfl | (cases A; rfl)
/-- what a suite has of its def's room -/
theorem hus {A : Around} {k : Nat} {v : Option Value} (hr : Room k A) : (A.mark v).units + 64 < cLine := by
  rw [mark_units]
  have := hr.un
  omega
theorem op_eqW {X : Cx} (hu : X.A.units + 64 < cLine) : OpR X (compareOp .Eq) (rEqU X.K) := OpR.or op_eq (op_eqD hu)
theorem op_neW {X : Cx} (hu : X.A.units + 64 < cLine) : OpR X (compareOp .NotEq) (rNeU X.K) := OpR.or op_ne (op_neD hu)
end CW

set_option Elab.async false
set_option linter.all false
set_option maxRecDepth 100000
set_option maxHeartbeats 2000000
/-! keywords of methods, in any order -/
namespace CW
open PySem PySem.Spec PyProof.Rows L2 PySem.W
section
variable {K : PySem.W.Frag} {x qual : Str} {st : Stmt} {f : Addr} {fd : FuncData} {ps ks : List Str} {n : Nat} {g : List Value → List Value → List Value} {gV : List V → List V → List V}
theorem fun_kbg (F : Fun K x qual st f fd) (rel : ∀ {vs : List V} {us : List Value} {zs : List V} {ws : List Value}, Vals vs us → Vals zs ws → Vals (gV vs zs) (g us ws))
    (h : ∀ (kV doc pm : Value) (an : Option Addr) (cdv ct : Value) (us ws : List Value), us.length = n → ws.length = ks.length → bindArgs (PySem.W.fnOf x qual (defArgs st) (defBody st) (defScope st) .none kV doc pm an cdv ct) ⟨us, ks.zip ws⟩ = pure (ps.zip (g us ws))) :
    KBn K fd ps n ks g gV := by
  obtain ⟨oc, od, kV, doc, pm, an, cdv, ct, osl, rfl, lk, hcd⟩ := F.ex
  exact ⟨fun s us ws _ h0 h1 => BindsTo.of_eq (h kV doc pm an cdv ct us ws h0 h1), rel⟩
theorem rel_app {vs : List V} {us : List Value} {zs : List V} {ws : List Value} (r : Vals vs us) (s : Vals zs ws) : Vals (vs ++ zs) (us ++ ws) := r.append s
theorem vals_rev : ∀ {zs : List V} {ws : List Value}, Vals zs ws → Vals zs.reverse ws.reverse
  | _, _, .nil => .nil
  | _, _, .cons r rs => by
    rw [List.reverse_cons, List.reverse_cons]
    exact (vals_rev rs).append (.cons r .nil)
theorem rel_appr {vs : List V} {us : List Value} {zs : List V} {ws : List Value} (r : Vals vs us) (s : Vals zs ws) : Vals (vs ++ zs.reverse) (us ++ ws.reverse) := r.append (vals_rev s)
end
/-- o.m(k = v, ..) -/
def tMethN (C : Addr) (m : Str) (nk : Nat) (sp : Sp) (gV : List V → List V → List V) (E : XK) (ta : TE) (tk : TA) : TE := fun σ H Q => ta σ H fun x H1 => ∃ a dx fs, x = .ref a ∧ H1 a = some (.ins C dx fs) ∧ fs.lookup m = none ∧ tk σ H1 fun zs H2 => zs.length = nk ∧ sp (gV [x] zs) H2 Q E
theorem pe_methN {X : Cx} {CX : CXT} {k : Nat} {f C : Addr} {fd : FuncData} {ps ks : List Str} {sp : Sp} {E : XK} {m : Str} {apos pos : Pos} {o : Expr} {ta : TE} {kws : List Keyword} {tk : TA} {g : List Value → List Value → List Value} {gV : List V → List V → List V} {pl : Sem Bool}
    (he : PE X o ta) (c : L2.Cls X.K C) (hm : L2.Meth X.K C m f) (F : FnOk X.prog X.w X.K X.mg X.base CX k f fd ps sp) (hr : Room k X.A) (hb : KBn X.K fd ps 1 ks g gV) (hx : Passes CX X E) (hkw : PK X kws tk)
    (hall : (backToKw pos (keywordEach kws X.env)).all (·.1.isSome) = true := by rfl) (hks : (backToKw pos (keywordEach kws X.env)).filterMap (·.1) = ks := by rfl)
    (hpl : ((backTo pos (starEach [] X.env)).any (·.1) || (backToKw pos (keywordEach kws X.env)).any (·.1.isNone)) = false := by rfl)
    (ht : eval (.Call (.Attribute o m apos) [] kws pos) X.env = (do
      let ov ← eval o X.env
      standAt apos.atName
      let (f, first) ← holding [ov] (getMethod ov m pl)
      callWith pos f first (backTo pos (starEach [] X.env)) (backToKw pos (keywordEach kws X.env))) := by rfl) :
    PE X (.Call (.Attribute o m apos) [] kws pos) (tMethN C m ks.length sp gV E ta tk) := by
  refine ⟨fun pins s σ H Q I h => ?_⟩
  refine PySem.W.methodCall_KW (pl := pl) (thn (he.run pins s σ H _ I h) fun u s1 ⟨x, H1, I1, rx, a, dx, fs, ex, ea, l, q⟩ => ?_) ht
  subst ex
  obtain rfl : u = Value.ref a := rx
  refine getmeth_ok I1 ea c hm l ?_
  refine PySem.W.callWith_KW0 (first := [.ref a]) (h₀ := X.base) I.ok.mod.kin hm.kp hall ?_ hpl
  refine thn (hkw.run pos pins s1 σ H1 _ I1 q) fun ws s2 ⟨zs, H2, I2, rz, l2, q2⟩ => ⟨I2.kIn, ?_⟩
  rw [hks]
  exact run_fnN (us := [.ref a]) (vs := [.ref a]) F hr hb hx I2 (.cons rfl .nil) rz rfl l2 q2
end CW

set_option Elab.async false
set_option linter.all false
set_option maxRecDepth 100000
set_option maxHeartbeats 2000000
/-! defs that are only called where no repr is under way; repr of data -/
namespace CW
open PySem PySem.Spec PyProof.Rows L2
/-- as FnOk, where no guard stands around the call -/
structure FnOkG (P : Program) (w : World) (K : PySem.W.Frag) (mg : Str → Option Value) (base : Heap) (CX : CXT) (k : Nat) (f : Addr) (fd : FuncData) (ps : List Str) (sp : Sp) : Prop where
  lenG : ∀ vs H Q E, sp vs H Q E → vs.length = ps.length
  runG : ∀ (A : Around) (outer : List Env) (s : Shared) (H : Hp) (args : Args) (us : List Value) (vs : List V) (Q : VK) (E : XK), A.guards = some [] → Room k A → Env0 P w K mg base A outer s H →
    BindsTo s fd args (ps.zip us) → Vals vs us → sp vs H Q E → codeAny (model P w) A (.call (.ref f) args) (CR CX outer P w H s Q E) s
theorem FnOk.toG {P : Program} {w : World} {K : PySem.W.Frag} {mg : Str → Option Value} {base : Heap} {CX : CXT} {k : Nat} {f : Addr} {fd : FuncData} {ps : List Str} {sp : Sp} (F : FnOk P w K mg base CX k f fd ps sp) : FnOkG P w K mg base CX k f fd ps sp :=
  ⟨F.len, fun A outer s H args us vs Q E _ => F.run A outer s H args us vs Q E⟩
section
variable {P : Program} {w : World} {K : PySem.W.Frag} {mg : Str → Option Value} {base : Heap} {CX : CXT}
theorem okG_of {x qual : Str} {st : Stmt} {f : Addr} {fd : FuncData} {N ps : List Str} {k : Nat} {sp : Sp} (F : Fun K x qual st f fd) (S : FnScope N ps (defScope st)) (ln : ∀ vs H Q E, sp vs H Q E → vs.length = ps.length)
    (bd : ∀ (cdv : Value) (A : Around) (outer : List Env) (s : Shared) (H : Hp) (vs : List V) (Q : VK) (E : XK), (A.deeper (envOfC qual (defScope st) s.heap.objs.size f cdv)).guards = some [] → Room k (A.deeper (envOfC qual (defScope st) s.heap.objs.size f cdv)) → sp vs H Q E →
      ∃ t, PSs (cxOf CX0 P w K mg base N qual (defScope st) f cdv A outer s H E).nox (defBody st) t ∧ t { nx := fun _ H' => Q .non H', rt := Q } (start N vs) H) : FnOkG P w K mg base CX0 (k + 1) f fd ps sp := by
  obtain ⟨oc, od, kV, doc, pm, an, cdv, ct, osl, rfl, lk, hcd⟩ := F.ex
  refine ⟨ln, fun A outer s H args us vs Q E hg hr e0 hb rv hs => ?_⟩
  have vl := ln _ _ _ _ hs
  have keep : ∀ b o, base.get? b = some o → s.heap.get? b = some o := fun b o z => (e0.bs b o z).1
  have kin : K.In s.heap := e0.mod.kin.keeps keep
  have nl : s.heap.NoLimit := e0.mod.nolimit.keeps keep
  have kinds : ∀ y ∈ ps.zip us, (defScope st).names.lookup y.1 = some .local ∨ ((defScope st).names.lookup y.1 = some .cell ∧ ((cellsFrom (s.heap.objs.size + 1) (defScope st).names []).lookup y.1).isSome = true) := by
    rintro ⟨n, v⟩ hy
    rcases S.par n (List.of_mem_zip hy).1 with h1 | h1
    · exact Or.inl h1
    · exact Or.inr ⟨h1, PySem.W.cellsFrom_some _ _ _ (Or.inl h1)⟩
  refine codeAny_call_function hr.depth (kin _ _ lk) rfl S.co S.gen rfl (PySem.W.codeRec_of kin hcd) (hb _ _ _ _ (wpAny_newFunctionEnv_cells S.kind kinds fun env he s1 nw => ?_))
  cases he
  refine ⟨nl.keeps nw.toInCall.keep, codeAny_func ?_⟩
  obtain ⟨t, ht, hq⟩ := bd cdv A outer s H vs Q E hg (hr.deeper _) hs
  have J : L2.Inv (cxOf CX0 P w K mg base N qual (defScope st) f cdv A outer s H E) [] (start N vs) H s1 := inv_start S hr.hd e0 vl rv nw
  refine wpAny_mono (ht.nox.run [] s1 (start N vs) H _ J hq) (fun fl s2 z => ?_) fun _ _ z => z
  match fl, z with
  | .ret u, ⟨v, _, H2, J2, r2, q2⟩ => exact ⟨v, H2, J2.os, J2.bare, J2.base, J2.hok, r2, q2⟩
  | .next, ⟨_, H2, J2, q2⟩ => exact ⟨.non, H2, J2.os, J2.bare, J2.base, J2.hok, rfl, q2⟩
  | .brk, ⟨_, _, _, q2⟩ => exact q2.elim
  | .cont, ⟨_, _, _, q2⟩ => exact q2.elim
end
section
variable {X : Cx} {CX : CXT} {k : Nat} {f : Addr} {fd : FuncData} {ps : List Str} {sp : Sp} {E : XK} {x : Str} {p pos : Pos} {e : Expr} {es : List Expr} {t : TA}
theorem pe_callG (F : FnOkG X.prog X.w X.K X.mg X.base CX k f fd ps sp) (hgu : X.A.guards = some []) (hr : Room k X.A) (hg : Gl X x) (hm : X.mg x = some (.ref f)) (hk : PySem.W.keepIn X.K (.ref f) = true) (hb : Binds X.K fd ps []) (hx : Passes CX X E)
    (ha : PA X (e :: es) t) (hdb : (x == ("__debug__" : Str)) = false := by decide) (he : starEach (e :: es) X.env = (false, eval e X.env) :: starEach es X.env := by rfl) (hpl : (backTo pos (starEach es X.env)).any (·.1) = false := by rfl) :
    PE X (.Call (.Name x p) (e :: es) [] pos) (tCall sp [] E t) := by
  refine ⟨fun pins s σ H Q I h => wpAny_Call_Name_kw (ld_glob I hg hm ?_ hdb)⟩
  refine PySem.W.callWith_K (h₀ := X.base) I.ok.mod.kin hk (thn (ha.run pos pins s σ H _ I h) fun us s1 ⟨vs, H1, I1, r, q⟩ => ⟨I1.kIn, ?_⟩) he hpl
  have q : sp (vs ++ []) H1 Q E := q
  rw [List.append_nil] at q
  have hl : (us ++ []).length = ps.length := by rw [List.append_nil, ← r.length]; exact F.lenG _ _ _ _ q
  have bnd := hb s1 us I1.kIn hl
  rw [List.append_nil] at bnd
  refine wpAny_call (codeAny_mono (F.runG X.A X.stack s1 H1 ⟨us, []⟩ us vs Q E hgu hr I1.env0 bnd r q) fun z s2 hz => ?_)
  match z, hz with
  | .error er, hz => exact hx pins σ H1 s1 er s2 I1 hz
  | .ok (.ret u), hz => exact I1.after hz
  | .ok .next, hz => exact hz.elim
  | .ok .brk, hz => exact hz.elim
  | .ok .cont, hz => exact hz.elim
/-- repr(x), x data -/
def rRepr (K : PySem.W.Frag) : List V → Hp → VK → Prop := fun xs H Q => ∃ (a : Addr) (d : PyData), xs = [.ref a] ∧ Dp K H (.ref a) d ∧ d.showable = true ∧ d.hasDict = false ∧ d.depth ≤ 50 ∧ d.shown.length ≤ sizeLine ∧ Q (.str d.shown) H
theorem call_repr {k : Nat} (hgu : X.A.guards = some []) (hr : Room k X.A) : CallR X (.builtin "repr") (rRepr X.K) := by
  rintro pins s σ H xs us Q I r ⟨a, d, rfl, hd, hs, hn, hp, hz, q⟩
  cases r with
  | cons rx rr =>
    cases rr
    cases rx
    obtain ⟨as, hrd⟩ := Dp.reads I d _ _ hd rfl
    have hu := hr.units
    refine PySem.repr_of_reads' hrd hs (PyData.noDict_hsm hn) hgu (by omega) (fun _ _ z => z) (fun h2 u tk hk => ?_) hz
    exact ⟨.str d.shown, H, I.kept (t' := tk) hk, ⟨u, rfl⟩, q⟩
end
section
variable {P : Program} {w : World} {K : PySem.W.Frag} {mg mb : Str → Option Value} {CX : CXT} {k : Nat} {fa a : Addr} {fd : FuncData} {x : Str} {sp : Sp} {s₁ : Shared} {vs : List Value} {ns : List Int}
theorem law_coreG (KX : K.In s₁.heap) (hns : s₁.heap.Ns mainGlobals mg) (hb : s₁.heap.Ns builtinsNs mb) (hbb : ∀ x : Str, x ≠ "__name__" → mb x = bootBuiltins x) (hlim : s₁.heap.NoLimit) (hg : s₁.gens = #[])
    (ha : s₁.heap.get? a = some { cls := .type "list", data := .seq vs.toArray }) (hr : Room k callerA)
    (F : ∀ base : Heap, K.In base → base.Ns mainGlobals mg → FnOkG P w K mg base CX k fa fd [x] sp) (bnd : ∀ (s : Shared) (u : Value), BindsTo s fd ⟨[u], []⟩ [(x, u)])
    (hCX : ∀ H e s', CX [] H s₁ (fun _ _ _ => False) e s' → False) {H : Hp} (hO : Only H) (hok : HOk P w H s₁.heap) (hA : ∀ b, H b ≠ none → b = a) (hK : H a ≠ none → K.lookup a = none) (hs : sp [.ref a] H (fun v _ => v = .bl true) fun _ _ _ => False) :
    codeAny (model P w) callerA (.call (.ref fa) ⟨[.ref a], []⟩) (fun r s' => r = .ok (.ret (.bool true)) ∧ OldK s₁.heap s'.heap ∧ s'.os = s₁.os ∧ AllBare s'.gens) s₁ := by
  have only_a : ∀ {b : Addr} {u : HO}, H b = some u → b = a := fun {b u} z => hA b (by rw [z]; exact fun y => by cases y)
  have put : ∀ {b : Addr} {o : Obj}, s₁.heap.get? b = some o → H b = none → (hidT s₁.heap H).get? b = some o := fun z y => hidT_get z y
  have notA : ∀ {b : Addr} {o : Obj} {es : Array DictEntry} {ep : Nat}, s₁.heap.get? b = some o → o.data = .dict es ep → H b = none := by
    intro b o es ep z y
    match q : H b with
    | none => rfl
    | some u =>
      cases only_a q
      rw [ha] at z
      cases z
      cases (show Data.seq vs.toArray _ = Data.dict es ep from y)
  have names : ∀ {b : Addr} {m : Str → Option Value}, s₁.heap.Ns b m → (hidT s₁.heap H).Ns b m := by
    rintro b m ⟨o, es, ep, z, y, r⟩
    exact ⟨o, es, ep, put z (notA z y), y, r⟩
  have inK : K.In (hidT s₁.heap H) := by
    intro b o z
    refine put (KX b o z) ?_
    match q : H b with
    | none => rfl
    | some u =>
      cases only_a q
      rw [hK (by rw [q]; exact fun y => by cases y)] at z
      cases z
  have lim : (hidT s₁.heap H).NoLimit := by
    obtain ⟨mc, h1, h2⟩ := hlim
    exact ⟨mc, names h1, h2⟩
  have env : Env0 P w K mg (hidT s₁.heap H) callerA [] s₁ H :=
    ⟨rfl, ⟨inK, names hns, ⟨mb, names hb, hbb⟩, lim⟩, fun b o z => of_hidT z, Nat.le_of_eq (hidT_size _ _), trivial, fun b z => absurd (show b ∈ ([] : List Addr) from z) (by simp), hok, .of_eq hg⟩
  refine codeAny_mono ((F _ inK (names hns)).runG callerA [] s₁ H ⟨[.ref a], []⟩ [.ref a] [.ref a] _ _ rfl hr env (bnd s₁ (.ref a)) (.cons rfl .nil) hs) fun r s2 z => ?_
  match r, z with
  | .error e, z => exact (hCX H e s2 z).elim
  | .ok .next, z => exact z.elim
  | .ok .brk, z => exact z.elim
  | .ok .cont, z => exact z.elim
  | .ok (.ret u), ⟨v, H2, ho, hbr, un, hok2, rv, q⟩ =>
    cases (show v = .bl true from q)
    cases (show u = Value.bool true from rv)
    refine ⟨rfl, OldK.of_keep fun b o z => ?_, ho, hbr⟩
    match q : H b with
    | none => exact un.keep b o z q (fun y => absurd (show b ∈ ([] : List Addr) from y) (by simp)) (by simp)
    | some u =>
      rcases hO b with y | ⟨ob, xs, y⟩
      · rw [q] at y; cases y
      · have e1 := (hok b _ y).1
        have e2 := (hok2 b _ (un.frzs b ob _ y)).1
        rw [z] at e1
        cases e1
        exact e2
theorem law_callG (KX : K.In s₁.heap) (hns : s₁.heap.Ns mainGlobals mg) (hb : s₁.heap.Ns builtinsNs mb) (hbb : ∀ x : Str, x ≠ "__name__" → mb x = bootBuiltins x) (hlim : s₁.heap.NoLimit) (hg : s₁.gens = #[])
    (ha : s₁.heap.get? a = some { cls := .type "list", data := .seq vs.toArray }) (hi : IntsAre vs ns) (hl : ns.length ≤ sizeLine) (hr : Room k callerA)
    (F : ∀ base : Heap, K.In base → base.Ns mainGlobals mg → FnOkG P w K mg base CX k fa fd [x] sp) (bnd : ∀ (s : Shared) (u : Value), BindsTo s fd ⟨[u], []⟩ [(x, u)])
    (hsp : ∀ H : Hp, Only H → SqL K H a (ns.map V.int) → sp [.ref a] H (fun v _ => v = .bl true) fun _ _ _ => False)
    (hCX : ∀ H e s', CX [] H s₁ (fun _ _ _ => False) e s' → False) :
    codeAny (model P w) callerA (.call (.ref fa) ⟨[.ref a], []⟩) (fun r s' => r = .ok (.ret (.bool true)) ∧ OldK s₁.heap s'.heap ∧ s'.os = s₁.os ∧ AllBare s'.gens) s₁ := by
  have rv := vals_ints hi
  have vl := hi.length
  match q : K.lookup a with
  | some o =>
    have z := KX a o q
    rw [ha] at z
    cases z
    have hS : SqL K (fun _ => none) a (ns.map V.int) := Or.inr ⟨_, vs.toArray, _, q, rfl, rfl, rfl, by rw [List.size_toArray, vl]; exact hl, by simpa using rv⟩
    exact law_coreG KX hns hb hbb hlim hg ha hr F bnd hCX (H := fun _ => none) (fun _ => Or.inl rfl) (fun b u y => by cases (show (none : Option HO) = some u from y)) (fun b y => absurd rfl y) (fun y => absurd rfl y) (hsp _ (fun _ => Or.inl rfl) hS)
  | none =>
    have hO : Only (fun b => if b = a then some (.frz { cls := .type "list", data := .seq vs.toArray } (.lst (ns.map V.int))) else none) := by
      intro b
      by_cases y : b = a
      · exact Or.inr ⟨_, _, if_pos y⟩
      · exact Or.inl (if_neg y)
    refine law_coreG KX hns hb hbb hlim hg ha hr F bnd hCX hO (fun b u z => ?_) (fun b z => ?_) (fun _ => q) (hsp _ hO (Or.inl (Or.inr ⟨{ cls := .type "list", data := .seq vs.toArray }, if_pos rfl⟩)))
    · by_cases y : b = a
      · cases (if_pos y).symm.trans z
        subst y
        exact ⟨ha, by rw [List.length_map]; exact hl, vs, _, rv, ha⟩
      · cases (if_neg y).symm.trans z
    · by_cases y : b = a
      · exact y
      · exact absurd (if_neg y) z
end
/-- walk_of for such a law -/
theorem walk_ofG {l : PySem.W.OpenLaw} {n k : Nat} {q : Program} {loose : List Str} {XP : (Str → Option Value) → Heap → Prop} {YP : World → Heap → Prop} {d : DefRec} {K : Params → PySem.W.Frag} {sp : World → Sp} {x : Str}
    (hn : l.most = some n) (hn2 : n ≤ sizeLine) (hdf : d.params.defaults = []) (hr : Room k callerA) (hY : ∀ (w : World) (h : Heap), YP w h → (K w.params).In h)
    (F : ∀ (w : World) (mg : Str → Option Value) (fa : Addr) (h : Heap), (K w.params).In h → h.Ns mainGlobals mg → mg d.name = some (.ref fa) →
      ∃ fd : FuncData, (∀ (s : Shared) (u : Value), BindsTo s fd ⟨[u], []⟩ [(x, u)]) ∧ ∀ base : Heap, (K w.params).In base → base.Ns mainGlobals mg → FnOkG l.prog w (K w.params) mg base CX0 k fa fd [x] (sp w))
    (hsp : ∀ (w : World) (H : Hp) (a : Addr) (ns : List Int), ns.length ≤ n → Only H → SqL (K w.params) H a (ns.map V.int) → sp w [.ref a] H (fun v _ => v = .bl true) fun _ _ _ => False) :
    PySem.W.WalkO q loose XP YP l.row.toRowW d [] (fun f vs => PySem.call f vs) := by
  refine Att.attach_call hn hdf fun w s₀ s₁ mg mb fa o pm cd doc a vs ns G Y _ _ _ hm hobj hints hlen hg => ?_
  obtain ⟨fd, hb, hF⟩ := F w mg fa _ (hY w _ Y) G.T.g hm
  exact law_callG (hY w _ Y) G.T.g G.T.b G.T.builtins G.T.nolimit hg hobj hints (Nat.le_trans hlen hn2) hr hF hb (fun H z y => hsp w H a ns hlen z y) fun _ _ _ z => z
end CW

set_option Elab.async false
set_option linter.all false
set_option maxRecDepth 100000
set_option maxHeartbeats 2000000
/-! errors whose field may also be a tuple of texts or small numbers -/
namespace CW
open PySem PySem.Spec PyProof.Rows L2 NdefX PySem.W
/-- what stands in such a tuple -/
def RepS (y : V) : Prop := (∃ z : Str, y = .str z ∧ ascS z = true ∧ z.length ≤ 100) ∨ ∃ i : Int, y = .int i ∧ i.natAbs.log2 < 1000
def RepX (K : PySem.W.Frag) (H : Hp) (y : V) : Prop := RepV y ∨ ∃ (a : Addr) (xs : List V), y = .ref a ∧ SqT K H a xs ∧ xs.length ≤ 20 ∧ ∀ x ∈ xs, RepS x
def tFmtQ (K : PySem.W.Frag) (te : TE) : TE := fun σ H Q => te σ H fun x H1 => RepX K H1 x ∧ ∀ m : Str, m.length ≤ 2000000 → Q (.str m) H1
theorem repr_allS {prog : Program} {w : World} : ∀ {xs : List V} {its : List Value}, Vals xs its → (∀ x ∈ xs, RepS x) → ∃ ts, ReprAll prog w its ts ∧ ts.length = xs.length ∧ ∀ t ∈ ts, t.length ≤ 2000
  | [], _, r, _ => by
    cases r
    exact ⟨[], .nil, rfl, by simp⟩
  | y :: l, _, r, h => by
    cases r with
    | cons r1 r2 =>
      obtain ⟨ts, a, b, c⟩ := repr_allS (prog := prog) (w := w) r2 fun z hz => h z (List.mem_cons_of_mem _ hz)
      rcases h y List.mem_cons_self with ⟨z, rfl, hz, hl⟩ | ⟨i, rfl, hi⟩
      · obtain ⟨t, rfl⟩ := r1
        have hr := StrLaws.reprText_len z fun c hc => Nat.lt_trans (of_decide_eq_true (List.all_eq_true.mp hz c hc)) (by decide)
        refine ⟨reprText z :: ts, .cons (ReprIs.str z t (by rw [sizeLine_eq]; omega)) a, by simp [b], fun u hu => ?_⟩
        rcases List.mem_cons.mp hu with rfl | hu
        · omega
        · exact c u hu
      · obtain ⟨t, rfl⟩ := r1
        have h2 : i.natAbs.log2 < 1920 := by omega
        have h1 := int_text_length_le (by decide) h2
        refine ⟨(toString i : Str) :: ts, .cons (ReprIs.int t h2) a, by simp [b], fun u hu => ?_⟩
        rcases List.mem_cons.mp hu with rfl | hu
        · rw [PySem.ofString_length]; omega
        · exact c u hu
theorem piled_le : ∀ (ts : List Str), (∀ t ∈ ts, t.length ≤ 2000) → piled ts ≤ 2010 * ts.length
  | [], _ => Nat.zero_le _
  | t :: ts, h => by
    have h1 := h t List.mem_cons_self
    have h2 := piled_le ts fun u hu => h u (List.mem_cons_of_mem _ hu)
    rw [piled_cons, List.length_cons]
    omega
theorem pe_fmtQ {X : Cx} {e : Expr} {te : TE} {pos : Pos} {k : Nat} (hr : Room k X.A) (he : PE X e te) : PE X (.FormattedValue e 114 none pos) (tFmtQ X.K te) := by
  refine ⟨fun pins s σ H Q I h => ?_⟩
  refine wpAny_FormattedValue_repr (thn (he.run pins s σ H _ I h) fun v s1 hv => ?_)
  obtain ⟨x, H1, I1, r1, hx, q⟩ := hv
  rcases hx with (⟨z, rfl, hz, hl⟩ | ⟨i, rfl, hi⟩) | ⟨a, xs, rfl, hs, hn, hxs⟩
  · obtain ⟨t, rfl⟩ := r1
    have hr := StrLaws.reprText_len z fun c hc => Nat.lt_trans (of_decide_eq_true (List.all_eq_true.mp hz c hc)) (by decide)
    have hz2 : (reprText z).length ≤ sizeLine := by rw [sizeLine_eq]; omega
    exact pyReprObj_str (wpAny_formatField_str ⟨.str (reprText z), H1, I1.tok _, ⟨_, rfl⟩, q _ (by omega)⟩ ⟨.str (reprText z), H1, I1.tok _, ⟨_, rfl⟩, q _ (by omega)⟩ hz2) hz2
  · obtain ⟨t, rfl⟩ := r1
    have h1 := int_text hi
    exact pyReprObj_int hi (wpAny_formatField_str ⟨.str (toString i), H1, I1.tok _, ⟨_, rfl⟩, q _ (by omega)⟩ ⟨.str (toString i), H1, I1.tok _, ⟨_, rfl⟩, q _ (by omega)⟩ (int_text_fits hi))
  · cases r1
    obtain ⟨its, rv, ⟨o, ho, hcl, n, hd⟩, _⟩ := I1.tuple hs
    obtain ⟨ts, h1, h2, h3⟩ := repr_allS (prog := X.prog) (w := X.w) rv hxs
    have hp := piled_le ts h3
    have htx := fmt_text ts
    have hu := hr.units
    have hL : (tupleText ts).length ≤ 100000 := by omega
    have hS : (tupleText ts).length + 5 ≤ sizeLine := by rw [sizeLine_eq]; omega
    refine wpAny_pyReprObj_slot (by omega) ⟨o, ho, hcl⟩ F.slot_tuple_repr ?_
    refine fmt_tuple_repr ho hcl hd h1 (by omega) fun m u tk hm => ⟨m, u, rfl, ?_⟩
    exact wpAny_formatField_str ⟨.str m, H1, (I1.tok _).tok _, ⟨_, rfl⟩, q _ (by omega)⟩ ⟨.str m, H1, (I1.tok _).tok _, ⟨_, rfl⟩, q _ (by omega)⟩ (by omega)
def spErrQ (K : PySem.W.Frag) (C : Addr) (fld : Str) : Sp := fun vs H Q _ => ∃ a y, vs = [.ref a, y] ∧ H a = some (exo a C none) ∧ RepX K H y ∧ ∀ dx, H dx = none → dx ≠ a → Q .non (upd (upd H dx (exd dx [(fld, y)])) a (exo a C (some dx)))
def taErrQ (K : PySem.W.Frag) (pre : Str) : TA := tCons (fun σ H Q => tJs [tC (.str pre), tFmtQ K (tVar 1)] Str.empty σ H fun out H1 => Q (.str out) H1) tNil
theorem err_readQ {K : PySem.W.Frag} {C : Addr} {fld pre x : Str} (T : OexC K C) (hno : findIn K (.ref C) fld = some none) (hpre : pre.length ≤ 100) {vs : List V} {H : Hp} {Q : VK} {E : XK} (h : spErrQ K C fld vs H Q E) :
    ∃ a y, vs = [.ref a, y] ∧ H a = some (exo a C none) ∧ taErrQ K pre (startF ["self", x, "__class__"] vs [none]) H fun ws H1 => ws.length ≤ 1000 ∧ H1 a = some (exo a C none) ∧ tOst K fld (tVar 0) (tVar 1) { nx := fun _ H' => Q .non H', rt := Q } (startF ["self", x, "__class__"] vs [none]) H1 := by
  obtain ⟨a, y, rfl, ha, hy, q⟩ := h
  refine ⟨a, y, rfl, ha, ?_⟩
  have fin : tOst K fld (tVar 0) (tVar 1) { nx := fun _ H' => Q .non H', rt := Q } (startF ["self", x, "__class__"] [.ref a, y] [none]) H :=
    ⟨y, rfl, .ref a, rfl, a, C, rfl, T, hno, .inl ⟨ha, q⟩⟩
  have e0 : Str.length (Str.empty ++ pre) = pre.length := by rw [len_app]; show 0 + _ = _; omega
  refine ⟨pre, rfl, by rw [e0, sizeLine_eq]; omega, y, rfl, hy, fun m hm => ⟨m, rfl, ?_, ?_⟩⟩
  · rw [len_app, e0, sizeLine_eq]; omega
  · exact ⟨by show 1 ≤ 1000; omega, ha, fin⟩
end CW

set_option Elab.async false
set_option linter.all false
set_option maxRecDepth 100000
set_option maxHeartbeats 2000000
/-! what the written part says of one class of errors, in one piece -/
namespace CW
open PySem PySem.Spec PyProof.Rows L2 NdefX PySem.W
abbrev fnI (st : Stmt) (ql : Str) (cc cd : Addr) (kI doI pI : Value) (anI : Option Addr) (ctI : Value) : FuncData := fnX "__init__" ql (defArgs st) (defBody st) (defScope st) [("__class__", cc)] .none kI doI pI anI (.ref cd) ctI
structure ErrT (P : Program) (K : PySem.W.Frag) (mg : Str → Option Value) (nm : Str) (st : Stmt) (ql fld x : Str) where
  (C fI cc cd : Addr)
  (kI doI pI ctI : Value)
  anI : Option Addr
  a : nsIn K mainGlobals nm = some (some (.ref C))
  g : mg nm = some (.ref C)
  S : SupK K P C fI cc cd (fnI st ql cc cd kI doI pI anI ctI)
  hc : codeIn K (.ref cd) ql = true
  ox : OexC K C
  no : findIn K (.ref C) fld = some none
  iI : findIn K (.ref C) "__init__" = some (some (.ref fI))
  tI : typeIn K (.ref fI) = some (.type "function")
  bI : L2.Binds K (fnI st ql cc cd kI doI pI anI ctI) ["self", x] []
  xc : ExcC K C
  xf : XfC K C
/-- a class without own __init__ -/
structure LeafT (K : PySem.W.Frag) (mg : Str → Option Value) (nm : Str) (bm : List Value) (newId : String) where
  C : Addr
  a : nsIn K mainGlobals nm = some (some (.ref C))
  g : mg nm = some (.ref C)
  qx : excIn K C bm newId = true
  kx : keepIn K (.ref C) = true
  xc : ExcC K C
/-- what all of them ask -/
structure ErrAll (P : Program) (K : PySem.W.Frag) (mg : Str → Option Value) : Prop where
  op : nsIn K cStatics "thirdparty.any" = some none
  spe : specialIn K (.builtin "object.__class__") "__get__" = some (some (.builtin "getset_descriptor.__get__"))
  tak : takesIn K (.builtin "object.__class__") = some true
  top : (P.main.scope.names.lookup ("super" : Str)).isSome = false
section
variable {P : Program} {K : PySem.W.Frag} {mg : Str → Option Value} {h : Heap} {nm : Str} {st : Stmt} {ql fld x : Str}
def errT_mk (X : K.In h) (G : h.Ns mainGlobals mg) (B : ErrAll P K mg) {C fI cc cd N : Addr} {nm' qn file : Str} {tf : Tok} {bs bm sub : List Value} {sn : List Str} {ab : Bool} {col : Option Bool} {dd oda odc ode anI : Option Addr} {k0 k1 k2 k3 k5 : Option Value}
    {oca occ oce kI doI pI ctI : Value} {sla slc sle : Array (Option Value)} {vs : Array Value} {cdv : ClassData}
    (e1 : nsIn K mainGlobals nm = some (some (.ref C))) (e2 : K.lookup C = some (excClassObj nm' qn C N bs bm true sn sub ab col dd k0 k1 k2 k3 k5 "ValueError.__new__")) (e3 : findIn K (.ref C) "__setattr__" = some (some (.builtin "object.__setattr__")))
    (e4 : subIn K (.ref C) (.type "BaseException") = some true) (e5 : typeIn K (.ref C) = some (.type "type")) (e6 : keepIn K (.ref C) = true) (e7 : findIn K (.ref C) fld = some none) (e8 : findIn K (.ref C) "__init__" = some (some (.ref fI)))
    (e9 : typeIn K (.ref fI) = some (.type "function")) (f1 : K.lookup fI = some ⟨oca, oda, .func (fnI st ql cc cd kI doI pI anI ctI), sla⟩) (f2 : K.lookup cd = some ⟨occ, odc, .fields vs, slc⟩) (f3 : K.lookup cc = some ⟨oce, ode, .cell (some (.ref C)), sle⟩)
    (f4 : clsIn K C = some cdv) (f5 : mroIn K C (.ref C) = some true) (f6 : subIn K (.ref C) (.type "ValueError") = some true) (f7 : codeIn K (.ref cd) ql = true) (f8 : findIn K (.ref C) "__getattribute__" = some (some (.builtin "BaseException.__getattribute__")))
    (f9 : findIn K (.ref C) "__getattr__" = some none) (g1 : hasDictIn K C = true) (g2 : findIn K (.ref C) "__class__" = some (some (.builtin "object.__class__"))) (g3 : mroIn K C (.type "object") = some true)
    (r1 : PySem.HandSPX.refsVE bm = true) (r2 : vs[2]? = some (.str file tf)) (r3 : ((P.main.file : Str) == file) = true) (r4 : alongIn K "__init__" ((cdv.mro.dropWhile (· != .ref C)).drop 1) = some (some (.builtin "ValueError.__init__")))
    (r5 : ∃ ar, ((fnI st ql cc cd kI doI pI anI ctI).params.posonlyargs ++ (fnI st ql cc cd kI doI pI anI ctI).params.args).head? = some ar ∧ ar.arg = "self")
    (r6 : ∀ us : List Value, us.length = 2 → bindArgs (fnI st ql cc cd kI doI pI anI ctI) ⟨us, []⟩ = pure ((["self", x] : List Str).zip us)) : ErrT P K mg nm st ql fld x where
  C := C
  fI := fI
  cc := cc
  cd := cd
  kI := kI
  doI := doI
  pI := pI
  ctI := ctI
  anI := anI
  a := e1
  g := mg_of X G e1
  S := ⟨⟨_, _, _, f1⟩, r5, ⟨_, _, _, _, _, _, f2, r2, r3⟩, ⟨_, _, _, f3⟩, ⟨_, f4, r4⟩, f5, f6, B.op, B.top⟩
  hc := f7
  ox := ⟨⟨_, _, _, _, _, _, _, _, _, _, _, _, _, _, _, e2, r1⟩, e3, e4, e5, e6⟩
  no := e7
  iI := e8
  tI := e9
  bI := Binds.all fun us hl => r6 us hl
  xc := ⟨f8, f9, e4, g1, g2, B.spe, B.tak, g3⟩
  xf := ⟨f8, f9, e4, g1⟩
def leafT_mk (X : K.In h) (G : h.Ns mainGlobals mg) (B : ErrAll P K mg) {C : Addr} {bm : List Value} {newId : String}
    (e1 : nsIn K mainGlobals nm = some (some (.ref C))) (e2 : keepIn K (.ref C) = true) (e4 : subIn K (.ref C) (.type "BaseException") = some true) (f8 : findIn K (.ref C) "__getattribute__" = some (some (.builtin "BaseException.__getattribute__")))
    (f9 : findIn K (.ref C) "__getattr__" = some none) (g1 : hasDictIn K C = true) (g2 : findIn K (.ref C) "__class__" = some (some (.builtin "object.__class__"))) (g3 : mroIn K C (.type "object") = some true) (r1 : excIn K C bm newId = true) : LeafT K mg nm bm newId where
  C := C
  a := e1
  g := mg_of X G e1
  qx := r1
  kx := e2
  xc := ⟨f8, f9, e4, g1, g2, B.spe, B.tak, g3⟩
end
theorem errAll_mk {P : Program} {K : PySem.W.Frag} {mg : Str → Option Value} {h : Heap} (_ : K.In h) (a : nsIn K cStatics "thirdparty.any" = some none) (b : specialIn K (.builtin "object.__class__") "__get__" = some (some (.builtin "getset_descriptor.__get__")))
    (c : takesIn K (.builtin "object.__class__") = some true) (d : (P.main.scope.names.lookup ("super" : Str)).isSome = false) : ErrAll P K mg := ⟨a, b, c, d⟩
/-- the addresses of these names -/
def addrOf (K : PySem.W.Frag) (n : Str) : Addr := match nsIn K mainGlobals n with
  | some (some (.ref a)) => a
  | _ => 0
theorem addrOf_eq {K : PySem.W.Frag} {n : Str} {C : Addr} (h : nsIn K mainGlobals n = some (some (.ref C))) : addrOf K n = C := by
  unfold addrOf
  rw [h]
end CW

set_option Elab.async false
set_option linter.all false
set_option maxRecDepth 100000
set_option maxHeartbeats 2000000
/-! what repr asks of data -/
namespace CW
open PySem PySem.Spec PyProof.Rows L2
theorem sh_all : ∀ {ds : List PyData}, (∀ d ∈ ds, d.showable = true) → PyData.showableAll ds = true
  | [], _ => rfl
  | d :: r, h => by
    rw [PyData.showableAll, h d List.mem_cons_self, sh_all (ds := r) fun e he => h e (List.mem_cons_of_mem _ he)]; rfl
theorem hd_all : ∀ {ds : List PyData}, (∀ d ∈ ds, d.hasDict = false) → PyData.hasDictAll ds = false
  | [], _ => rfl
  | d :: r, h => by
    rw [PyData.hasDictAll, h d List.mem_cons_self, hd_all (ds := r) fun e he => h e (List.mem_cons_of_mem _ he)]; rfl
theorem dp_all {n : Nat} : ∀ {ds : List PyData}, (∀ d ∈ ds, d.depth ≤ n) → PyData.depthAll ds ≤ n
  | [], _ => Nat.zero_le _
  | d :: r, h => by
    rw [PyData.depthAll]
    exact Nat.max_le.mpr ⟨h d List.mem_cons_self, dp_all (ds := r) fun e he => h e (List.mem_cons_of_mem _ he)⟩
theorem shown_map : ∀ ds : List PyData, PyData.shownAll ds = ds.map PyData.shown
  | [] => rfl
  | d :: r => by rw [PyData.shownAll, shown_map r]; rfl
theorem sum_len_le {B : Nat} : ∀ {ts : List Str}, (∀ t ∈ ts, t.length ≤ B) → (ts.map (·.length)).sum ≤ B * ts.length
  | [], _ => Nat.zero_le _
  | t :: r, h => by
    have h1 := h t List.mem_cons_self
    have h2 := sum_len_le (ts := r) fun u hu => h u (List.mem_cons_of_mem _ hu)
    rw [List.map_cons, List.sum_cons, List.length_cons, Nat.mul_succ]
    omega
theorem list_text_le {B : Nat} {ds : List PyData} (h : ∀ d ∈ ds, d.shown.length ≤ B) : (PyData.list ds).shown.length ≤ (B + 2) * ds.length + 3 := by
  have h0 : (PyData.list ds).shown = listText (ds.map PyData.shown) := by rw [PyData.shown, shown_map]
  have h1 := listText_len_le (ds.map PyData.shown)
  have h2 := sum_len_le (B := B) (ts := ds.map PyData.shown) fun t ht => by
    obtain ⟨d, hd, rfl⟩ := List.mem_map.mp ht
    exact h d hd
  rw [h0]
  rw [List.length_map] at h1 h2
  rw [Nat.add_mul]
  omega
theorem tup_text_le {B : Nat} {ds : List PyData} (h : ∀ d ∈ ds, d.shown.length ≤ B) : (PyData.tuple ds).shown.length ≤ (B + 2) * ds.length + 2 := by
  have h0 : (PyData.tuple ds).shown = tupleText (ds.map PyData.shown) := by rw [PyData.shown, shown_map]
  have h1 := fmt_text (ds.map PyData.shown)
  have h2 : ∀ ts : List Str, (∀ t ∈ ts, t.length ≤ B) → piled ts ≤ (B + 2) * ts.length := by
    intro ts
    induction ts with
    | nil => intro _; exact Nat.zero_le _
    | cons t r ih =>
      intro ht
      have a := ht t List.mem_cons_self
      have b := ih fun u hu => ht u (List.mem_cons_of_mem _ hu)
      rw [piled_cons, List.length_cons, Nat.mul_succ]
      omega
  have h3 := h2 (ds.map PyData.shown) fun t ht => by
    obtain ⟨d, hd, rfl⟩ := List.mem_map.mp ht
    exact h d hd
  rw [h0]
  rw [List.length_map] at h3
  omega
theorem str_text_le {z : Str} (h : ascS z = true) : (PyData.str z).shown.length ≤ 10 * z.length + 4 := by
  have := StrLaws.reprText_len z fun c hc => Nat.lt_trans (of_decide_eq_true (List.all_eq_true.mp h c hc)) (by decide)
  rw [PyData.shown]
  omega
theorem cutV_len {xs : List V} {lo hi : Int} (h0 : 0 ≤ lo) (h1 : lo ≤ hi) (h2 : lo ≤ (xs.length : Int)) : (cutV xs (some lo) (some hi)).length ≤ (hi - lo).toNat := by
  obtain ⟨i, rfl⟩ : ∃ k : Nat, lo = (k : Int) := ⟨lo.toNat, by omega⟩
  obtain ⟨j, rfl⟩ : ∃ k : Nat, hi = (k : Int) := ⟨hi.toNat, by omega⟩
  unfold cutV
  rw [HT.sIx_nat, HT.sIx_nat, List.length_take]
  omega
end CW

set_option Elab.async false
set_option linter.all false
set_option maxRecDepth 100000
set_option maxHeartbeats 2000000
/-! x in o, o an instance of a class with its own __contains__ -/
namespace CW
open PySem PySem.Spec PyProof.Rows L2 PySem.W
section
variable {X : Cx} {CX : CXT} {k : Nat} {f C : Addr} {fd : FuncData} {ps : List Str} {sp : Sp}
def rInO (C : Addr) (sp : Sp) : R2 := fun x y H Q => ∃ a dx fs, y = .ref a ∧ H a = some (.ins C dx fs) ∧ sp [y, x] H (fun v H' => ∃ b, v = .bl b ∧ Q (.bl b) H') (fun _ _ _ => False)
theorem op_inO (c : L2.Cls X.K C) (hm : L2.Meth X.K C "__contains__" f) (F : FnOk X.prog X.w X.K X.mg X.base CX k f fd ps sp) (hr : Room k X.A) (hb : L2.Binds X.K fd ps []) (hx : Passes CX X (fun _ _ _ => False)) : OpR X (compareOp .In) (rInO C sp) := by
  rintro pins s σ H x y v u Q I rx ry ⟨a, dx, fs, rfl, ha, hs⟩
  cases ry
  have kin := I.kIn
  obtain ⟨mA, O, _, _, _, _⟩ := ins_get I.hok ha
  have hI : PySem.W.InstAt s.heap a (PySem.W.instObj C dx) C (some (Classical.choose O.ns)) := ⟨O.obj, rfl, rfl, (Classical.choose_spec (Classical.choose_spec (Classical.choose_spec O.ns))).1⟩
  refine wpAny_bind ?_
  unfold contains
  refine wpAny_holding ?_
  refine wpAny_bind (wpAny_bind ?_)
  refine hI.type.here ?_
  refine (looks_findIn kin hm.at_).here ?_
  rw [if_neg (fun z => by cases z)]
  refine wpAny_bind (unlessNone_K kin hI hm.at_ hm.fn ?_)
  refine wpAny_mono (run_fn (us := [.ref a, v]) (vs := [.ref a, x]) F hr hb .nil hx I (.cons rfl (.cons rx .nil)) (by rw [List.append_nil]; exact hs)) (fun r s2 hz => ?_) fun _ _ z => z
  obtain ⟨w, H2, I2, rw, b, rfl, q⟩ := hz
  obtain rfl : r = Value.bool b := rw
  show wpAny _ _ (truthy (Value.bool b)) _ _ _
  have z : EP X pins σ Q (.bool b) s2 := ⟨.bl b, H2, I2, rfl, q⟩
  exact fun _ _ _ => (wpAny_pure z : wpAny (model X.prog X.w) X.A (pure (.bool b)) (EP X pins σ Q) X.xe s2)
/-- over a list or a tuple -/
def iSeq (K : PySem.W.Frag) (te : TE) : TI := fun σ H R => te σ H fun x H1 => ∃ a, x = .ref a ∧ (((∃ xs, SqL K H1 a xs) ∧ R (Itl K a) H1) ∨ ((∃ xs, SqT K H1 a xs) ∧ R (Itt K a) H1))
theorem pi_seq {tg l : Expr} {tl : TE} (hl : PE X l tl) : PI X tg l (iSeq X.K tl) := by
  refine ⟨fun pins s σ H R I h => ?_⟩
  refine thn (hl.run pins s σ H _ I h) fun v s1 ⟨x, H1, I1, r1, q1⟩ => ?_
  obtain ⟨a, e, q1⟩ := q1
  subst e
  cases r1
  rcases q1 with ⟨⟨xs, hq⟩, q⟩ | ⟨⟨xs, hq⟩, q⟩
  · obtain ⟨its, rv, p, hz⟩ := I1.list hq
    refine wpAny_pyIter_list p.isList ?_
    refine ⟨s1.heap.objs.size, [s1.heap.objs.size], _, _, H1, rfl, I1.kept (t' := s1.toks) fun b o e => Heap.get?_push_of_some _ e, turn_list a _, ⟨_, Heap.get?_push_size _ rfl, rfl, rfl⟩, fun b hb => ?_, q⟩
    have e : b = s1.heap.objs.size := by simpa using hb
    subst e
    exact I1.fpOk (Nat.le_refl _) (I1.hok.fresh (Nat.le_refl _))
  · obtain ⟨its, rv, p, hz⟩ := I1.tuple hq
    refine wpAny_pyIter_tuple (show s1.heap.IsTuple a its.toArray from p) ?_
    refine ⟨s1.heap.objs.size, [s1.heap.objs.size], _, _, H1, rfl, I1.kept (t' := s1.toks) fun b o e => Heap.get?_push_of_some _ e, turn_tuple a _, ⟨_, Heap.get?_push_size _ rfl, rfl, rfl⟩, fun b hb => ?_, q⟩
    have e : b = s1.heap.objs.size := by simpa using hb
    subst e
    exact I1.fpOk (Nat.le_refl _) (I1.hok.fresh (Nat.le_refl _))
theorem k_iseq {K : PySem.W.Frag} {te : TE} {σ : L2.St} {H : Hp} {R : It → Hp → Prop} (h : te σ H fun x H1 => ∃ a, x = .ref a ∧ (((∃ xs, SqL K H1 a xs) ∧ R (Itl K a) H1) ∨ ((∃ xs, SqT K H1 a xs) ∧ R (Itt K a) H1))) : iSeq K te σ H R := h
end
end CW

set_option Elab.async false
set_option linter.all false
set_option maxRecDepth 100000
set_option maxHeartbeats 2000000
namespace K00
open PySem PySem.Spec PyProof.Rows L2 NdefX CW RZ
open PySem.W (fnX)
def VEb : List Value := [.type "ValueError", .type "Exception", .type "BaseException", .type "object"]
def topS (i : Nat) : Stmt := PySem.Challenge.pw_claimworlds_k00_vocabularies_made.main.body.getD i (.Pass ⟨0, 0, 0, 0⟩)
abbrev s_is_name : Stmt := topS 16
abbrev N_is_name : List Str := ["value"]
theorem sc_is_name : FnScope N_is_name ["value"] (defScope s_is_name) := ⟨rfl, rfl, rfl, by decide +kernel, rfl, by decide +kernel, by decide +kernel⟩
abbrev s__has_form : Stmt := topS 17
abbrev N__has_form : List Str := ["value", "sign"]
theorem sc__has_form : FnScope N__has_form ["value"] (defScope s__has_form) := ⟨rfl, rfl, rfl, by decide +kernel, rfl, by decide +kernel, by decide +kernel⟩
abbrev s_Vocabulary___init__ : Stmt := inClass (topS 20) 0
abbrev N_Vocabulary___init__ : List Str := ["self", "sorts", "functions", "predicates", "name", "sort", "rows", "_", "value_sorts", "row", "arguments"]
theorem sc_Vocabulary___init__ : FnScope N_Vocabulary___init__ ["self", "sorts", "functions", "predicates"] (defScope s_Vocabulary___init__) := ⟨rfl, rfl, rfl, by decide +kernel, rfl, by decide +kernel, by decide +kernel⟩
abbrev s_Vocabulary___contains__ : Stmt := inClass (topS 20) 1
abbrev N_Vocabulary___contains__ : List Str := ["self", "name"]
theorem sc_Vocabulary___contains__ : FnScope N_Vocabulary___contains__ ["self", "name"] (defScope s_Vocabulary___contains__) := ⟨rfl, rfl, rfl, by decide +kernel, rfl, by decide +kernel, by decide +kernel⟩
abbrev s_Vocabulary_arguments : Stmt := inClass (topS 20) 2
abbrev N_Vocabulary_arguments : List Str := ["self", "name"]
theorem sc_Vocabulary_arguments : FnScope N_Vocabulary_arguments ["self", "name"] (defScope s_Vocabulary_arguments) := ⟨rfl, rfl, rfl, by decide +kernel, rfl, by decide +kernel, by decide +kernel⟩
abbrev s_Vocabulary_value_sort : Stmt := inClass (topS 20) 3
abbrev N_Vocabulary_value_sort : List Str := ["self", "name"]
theorem sc_Vocabulary_value_sort : FnScope N_Vocabulary_value_sort ["self", "name"] (defScope s_Vocabulary_value_sort) := ⟨rfl, rfl, rfl, by decide +kernel, rfl, by decide +kernel, by decide +kernel⟩
abbrev s_Vocabulary_extended : Stmt := inClass (topS 20) 4
abbrev N_Vocabulary_extended : List Str := ["self", "functions"]
theorem sc_Vocabulary_extended : FnScope N_Vocabulary_extended ["self", "functions"] (defScope s_Vocabulary_extended) := ⟨rfl, rfl, rfl, by decide +kernel, rfl, by decide +kernel, by decide +kernel⟩
abbrev s__check_rows : Stmt := topS 21
abbrev N__check_rows : List Str := ["rows", "sorts", "taken", "name", "wanted", "sort"]
theorem sc__check_rows : FnScope N__check_rows ["rows", "sorts"] (defScope s__check_rows) := ⟨rfl, rfl, rfl, by decide +kernel, rfl, by decide +kernel, by decide +kernel⟩
abbrev s__law_cell : Stmt := topS 23
abbrev N__law_cell : List Str := ["script", "k", "seed", "cell"]
theorem sc__law_cell : FnScope N__law_cell ["script", "k"] (defScope s__law_cell) := ⟨rfl, rfl, rfl, by decide +kernel, rfl, by decide +kernel, by decide +kernel⟩
abbrev s__law_digits : Stmt := topS 24
abbrev N__law_digits : List Str := ["cell", "sizes", "row", "rest", "size", "seed", "k", "twice"]
theorem sc__law_digits : FnScope N__law_digits ["cell", "sizes"] (defScope s__law_digits) := ⟨rfl, rfl, rfl, by decide +kernel, rfl, by decide +kernel, by decide +kernel⟩
abbrev s__law_is_name : Stmt := topS 25
abbrev N__law_is_name : List Str := ["text", "letters", "sign", "barred"]
theorem sc__law_is_name : FnScope N__law_is_name ["text"] (defScope s__law_is_name) := ⟨rfl, rfl, rfl, by decide +kernel, rfl, by decide +kernel, by decide +kernel⟩
abbrev s__law_name : Stmt := topS 26
abbrev N__law_name : List Str := ["alike", "k", "row", "letters", "many", "text", "j"]
theorem sc__law_name : FnScope N__law_name ["alike", "k", "row"] (defScope s__law_name) := ⟨rfl, rfl, rfl, by decide +kernel, rfl, by decide +kernel, by decide +kernel⟩
abbrev s__law_bad : Stmt := topS 27
abbrev N__law_bad : List Str := ["text", "k", "barred", "longer", "made"]
theorem sc__law_bad : FnScope N__law_bad ["text", "k"] (defScope s__law_bad) := ⟨rfl, rfl, rfl, by decide +kernel, rfl, by decide +kernel, by decide +kernel⟩
abbrev s__law_near : Stmt := topS 28
abbrev N__law_near : List Str := ["k"]
theorem sc__law_near : FnScope N__law_near ["k"] (defScope s__law_near) := ⟨rfl, rfl, rfl, by decide +kernel, rfl, by decide +kernel, by decide +kernel⟩
abbrev s__law_rows : Stmt := topS 29
abbrev N__law_rows : List Str := ["script", "counts", "alike", "rows", "kind", "k", "row", "title", "sort_names", "picked", "value", "one", "j"]
theorem sc__law_rows : FnScope N__law_rows ["script", "counts", "alike"] (defScope s__law_rows) := ⟨rfl, rfl, rfl, by decide +kernel, rfl, by decide +kernel, by decide +kernel⟩
abbrev s__law_spoil : Stmt := topS 30
abbrev N__law_spoil : List Str := ["rows", "cell", "row", "spoilt", "alike", "other", "strange", "at", "one", "j"]
theorem sc__law_spoil : FnScope N__law_spoil ["rows", "cell"] (defScope s__law_spoil) := ⟨rfl, rfl, rfl, by decide +kernel, rfl, by decide +kernel, by decide +kernel⟩
abbrev s__law_spoil_sorts : Stmt := topS 31
abbrev N__law_spoil_sorts : List Str := ["script", "rows", "turns", "k"]
theorem sc__law_spoil_sorts : FnScope N__law_spoil_sorts ["script", "rows", "turns"] (defScope s__law_spoil_sorts) := ⟨rfl, rfl, rfl, by decide +kernel, rfl, by decide +kernel, by decide +kernel⟩
abbrev s__law_spoil_behind : Stmt := topS 32
abbrev N__law_spoil_behind : List Str := ["rows", "cell", "row", "predicates", "further", "at", "behind", "one"]
theorem sc__law_spoil_behind : FnScope N__law_spoil_behind ["rows", "cell"] (defScope s__law_spoil_behind) := ⟨rfl, rfl, rfl, by decide +kernel, rfl, by decide +kernel, by decide +kernel⟩
abbrev s__law_due : Stmt := topS 33
abbrev N__law_due : List Str := ["sort_names", "function_rows", "predicate_rows", "earlier", "title", "item"]
theorem sc__law_due : FnScope N__law_due ["sort_names", "function_rows", "predicate_rows"] (defScope s__law_due) := ⟨rfl, rfl, rfl, by decide +kernel, rfl, by decide +kernel, by decide +kernel⟩
abbrev s__law_raised : Stmt := topS 34
abbrev N__law_raised : List Str := ["sort_names", "function_rows", "predicate_rows", "e", "kinds"]
theorem sc__law_raised : FnScope N__law_raised ["sort_names", "function_rows", "predicate_rows"] (defScope s__law_raised) := ⟨rfl, rfl, rfl, by decide +kernel, rfl, by decide +kernel, by decide +kernel⟩
abbrev s__law_raised_extended : Stmt := topS 35
abbrev N__law_raised_extended : List Str := ["vocabulary", "function_rows", "e", "kinds"]
theorem sc__law_raised_extended : FnScope N__law_raised_extended ["vocabulary", "function_rows"] (defScope s__law_raised_extended) := ⟨rfl, rfl, rfl, by decide +kernel, rfl, by decide +kernel, by decide +kernel⟩
abbrev s__law_fits : Stmt := topS 36
abbrev N__law_fits : List Str := ["vocabulary", "sort_names", "function_rows", "predicate_rows", "probes", "title", "places", "told", "value", "item"]
theorem sc__law_fits : FnScope N__law_fits ["vocabulary", "sort_names", "function_rows", "predicate_rows", "probes"] (defScope s__law_fits) := ⟨rfl, rfl, rfl, by decide +kernel, rfl, by decide +kernel, by decide +kernel⟩
abbrev s_law : Stmt := topS 37
abbrev N_law : List Str := ["script", "head", "body", "letters", "alike", "many", "counts", "rows", "k", "sort_names", "function_rows", "predicate_rows", "further", "near", "probes", "passed", "due", "vocabulary", "wider", "there", "half", "twice", "row", "j"]
theorem sc_law : FnScope N_law ["script"] (defScope s_law) := ⟨rfl, rfl, rfl, by decide +kernel, rfl, by decide +kernel, by decide +kernel⟩
abbrev s_BadName___init__ : Stmt := inClass (topS 3) 0
abbrev s_NameTaken___init__ : Stmt := inClass (topS 4) 0
abbrev s_NoSort___init__ : Stmt := inClass (topS 5) 0
abbrev s_ReservedName___init__ : Stmt := inClass (topS 6) 0
abbrev s_NotSentence___init__ : Stmt := inClass (topS 7) 0
abbrev s_NoAxiom___init__ : Stmt := inClass (topS 8) 0
abbrev s_BadTable___init__ : Stmt := inClass (topS 9) 0
abbrev s_BadWeight___init__ : Stmt := inClass (topS 10) 0
/-- which class is which: L the classes without subclasses, in their order -/
def kitB (K : PySem.W.Frag) (L : List Addr) (cl te : Addr) : Bool :=
  L.zipIdx.all fun p => (L.zipIdx.all fun q => decide (PySem.W.kitOne K (.ref p.1) (.ref q.1) = some (p.2 == q.2))) && (decide (PySem.W.kitOne K (.ref p.1) (.ref cl) = some true) && (decide (PySem.W.kitOne K (.ref p.1) (.type "ValueError") = some true) && decide (PySem.W.kitOne K (.ref p.1) (.ref te) = some (decide (9 ≤ p.2) && decide (p.2 < 14)))))
theorem zip_get {L : List Addr} {i : Nat} {c : Addr} (h : L[i]? = some c) : (c, i) ∈ L.zipIdx := by
  have h2 : L.zipIdx[i]? = some (c, i) := by rw [List.getElem?_zipIdx, h]; simp
  exact List.mem_of_getElem? h2
theorem kit_at {K : PySem.W.Frag} {L : List Addr} {cl te : Addr} (h : kitB K L cl te = true) {i : Nat} {c : Addr} (hc : L[i]? = some c) :
    (∀ j d, L[j]? = some d → PySem.W.kitOne K (.ref c) (.ref d) = some (i == j)) ∧ PySem.W.kitOne K (.ref c) (.ref cl) = some true ∧ PySem.W.kitOne K (.ref c) (.type "ValueError") = some true ∧ PySem.W.kitOne K (.ref c) (.ref te) = some (decide (9 ≤ i) && decide (i < 14)) := by
  have h1 := List.all_eq_true.mp h _ (zip_get hc)
  rw [Bool.and_eq_true, Bool.and_eq_true, Bool.and_eq_true] at h1
  obtain ⟨a, b, d, e⟩ := h1
  exact ⟨fun j y hy => of_decide_eq_true (List.all_eq_true.mp a _ (zip_get hy)), of_decide_eq_true b, of_decide_eq_true d, of_decide_eq_true e⟩
def kitN (K : PySem.W.Frag) (L : List Str) : Bool := kitB K (L.map (addrOf K)) (addrOf K "ClaimError") (addrOf K "TextError")
def exmN (K : PySem.W.Frag) (L : List Str) : Bool := L.all fun n => decide (PySem.W.exmOne K (.ref (addrOf K n)) (.ref (addrOf K "ClaimError")) = some true)
def insB (K : PySem.W.Frag) (C : Addr) : Bool := (match PySem.W.findIn K (.ref C) "__class__" with
  | some (some (.builtin s)) => decide (s = "object.__class__")
  | _ => false) && ((match PySem.W.specialIn K (.builtin "object.__class__") "__get__" with
  | some (some (.builtin s)) => decide (s = "getset_descriptor.__get__")
  | _ => false) && (decide (PySem.W.takesIn K (.builtin "object.__class__") = some true) && (decide (PySem.W.mroIn K C (.type "object") = some true) && decide (PySem.W.kitOne K (.ref C) (.ref C) = some true))))
set_option hygiene false
structure Top0 (P : Program) (K : PySem.W.Frag) (mg : Str → Option Value) where
  C_Vocabulary : Addr
  cl_Vocabulary : Cls K C_Vocabulary
  g_Vocabulary : mg "Vocabulary" = some (.ref C_Vocabulary)
  na_Vocabulary_sorts : NoAttr K C_Vocabulary "sorts"
  na_Vocabulary_functions : NoAttr K C_Vocabulary "functions"
  na_Vocabulary_predicates : NoAttr K C_Vocabulary "predicates"
  na_Vocabulary__names : NoAttr K C_Vocabulary "_names"
  na_Vocabulary__argument_sorts : NoAttr K C_Vocabulary "_argument_sorts"
  na_Vocabulary__value_sorts : NoAttr K C_Vocabulary "_value_sorts"
  f_is_name : Addr
  fd_is_name : FuncData
  F_is_name : Fun K "is_name" "is_name" s_is_name f_is_name fd_is_name
  b_is_name : Binds K fd_is_name ["value"] []
  g_is_name : mg "is_name" = some (.ref f_is_name)
  f__has_form : Addr
  fd__has_form : FuncData
  F__has_form : Fun K "_has_form" "_has_form" s__has_form f__has_form fd__has_form
  b__has_form : Binds K fd__has_form ["value"] []
  g__has_form : mg "_has_form" = some (.ref f__has_form)
  f_Vocabulary___init__ : Addr
  fd_Vocabulary___init__ : FuncData
  F_Vocabulary___init__ : Fun K "__init__" "Vocabulary.__init__" s_Vocabulary___init__ f_Vocabulary___init__ fd_Vocabulary___init__
  b_Vocabulary___init__ : Binds K fd_Vocabulary___init__ ["self", "sorts", "functions", "predicates"] []
  f_Vocabulary___contains__ : Addr
  fd_Vocabulary___contains__ : FuncData
  F_Vocabulary___contains__ : Fun K "__contains__" "Vocabulary.__contains__" s_Vocabulary___contains__ f_Vocabulary___contains__ fd_Vocabulary___contains__
  b_Vocabulary___contains__ : Binds K fd_Vocabulary___contains__ ["self", "name"] []
  m_Vocabulary___contains__ : Meth K C_Vocabulary "__contains__" f_Vocabulary___contains__
  f_Vocabulary_arguments : Addr
  fd_Vocabulary_arguments : FuncData
  F_Vocabulary_arguments : Fun K "arguments" "Vocabulary.arguments" s_Vocabulary_arguments f_Vocabulary_arguments fd_Vocabulary_arguments
  b_Vocabulary_arguments : Binds K fd_Vocabulary_arguments ["self", "name"] []
  m_Vocabulary_arguments : Meth K C_Vocabulary "arguments" f_Vocabulary_arguments
  f_Vocabulary_value_sort : Addr
  fd_Vocabulary_value_sort : FuncData
  F_Vocabulary_value_sort : Fun K "value_sort" "Vocabulary.value_sort" s_Vocabulary_value_sort f_Vocabulary_value_sort fd_Vocabulary_value_sort
  b_Vocabulary_value_sort : Binds K fd_Vocabulary_value_sort ["self", "name"] []
  m_Vocabulary_value_sort : Meth K C_Vocabulary "value_sort" f_Vocabulary_value_sort
  f_Vocabulary_extended : Addr
  fd_Vocabulary_extended : FuncData
  F_Vocabulary_extended : Fun K "extended" "Vocabulary.extended" s_Vocabulary_extended f_Vocabulary_extended fd_Vocabulary_extended
  b_Vocabulary_extended : Binds K fd_Vocabulary_extended ["self", "functions"] []
  m_Vocabulary_extended : Meth K C_Vocabulary "extended" f_Vocabulary_extended
  f__check_rows : Addr
  fd__check_rows : FuncData
  F__check_rows : Fun K "_check_rows" "_check_rows" s__check_rows f__check_rows fd__check_rows
  b__check_rows : Binds K fd__check_rows ["rows", "sorts"] []
  g__check_rows : mg "_check_rows" = some (.ref f__check_rows)
  f__law_cell : Addr
  fd__law_cell : FuncData
  F__law_cell : Fun K "_law_cell" "_law_cell" s__law_cell f__law_cell fd__law_cell
  b__law_cell : Binds K fd__law_cell ["script", "k"] []
  g__law_cell : mg "_law_cell" = some (.ref f__law_cell)
  f__law_digits : Addr
  fd__law_digits : FuncData
  F__law_digits : Fun K "_law_digits" "_law_digits" s__law_digits f__law_digits fd__law_digits
  b__law_digits : Binds K fd__law_digits ["cell", "sizes"] []
  g__law_digits : mg "_law_digits" = some (.ref f__law_digits)
  f__law_is_name : Addr
  fd__law_is_name : FuncData
  F__law_is_name : Fun K "_law_is_name" "_law_is_name" s__law_is_name f__law_is_name fd__law_is_name
  b__law_is_name : Binds K fd__law_is_name ["text"] []
  g__law_is_name : mg "_law_is_name" = some (.ref f__law_is_name)
  f__law_name : Addr
  fd__law_name : FuncData
  F__law_name : Fun K "_law_name" "_law_name" s__law_name f__law_name fd__law_name
  b__law_name : Binds K fd__law_name ["alike", "k", "row"] []
  g__law_name : mg "_law_name" = some (.ref f__law_name)
  f__law_bad : Addr
  fd__law_bad : FuncData
  F__law_bad : Fun K "_law_bad" "_law_bad" s__law_bad f__law_bad fd__law_bad
  b__law_bad : Binds K fd__law_bad ["text", "k"] []
  g__law_bad : mg "_law_bad" = some (.ref f__law_bad)
  f__law_near : Addr
  fd__law_near : FuncData
  F__law_near : Fun K "_law_near" "_law_near" s__law_near f__law_near fd__law_near
  b__law_near : Binds K fd__law_near ["k"] []
  g__law_near : mg "_law_near" = some (.ref f__law_near)
  f__law_rows : Addr
  fd__law_rows : FuncData
  F__law_rows : Fun K "_law_rows" "_law_rows" s__law_rows f__law_rows fd__law_rows
  b__law_rows : Binds K fd__law_rows ["script", "counts", "alike"] []
  g__law_rows : mg "_law_rows" = some (.ref f__law_rows)
  f__law_spoil : Addr
  fd__law_spoil : FuncData
  F__law_spoil : Fun K "_law_spoil" "_law_spoil" s__law_spoil f__law_spoil fd__law_spoil
  b__law_spoil : Binds K fd__law_spoil ["rows", "cell"] []
  g__law_spoil : mg "_law_spoil" = some (.ref f__law_spoil)
  f__law_spoil_sorts : Addr
  fd__law_spoil_sorts : FuncData
  F__law_spoil_sorts : Fun K "_law_spoil_sorts" "_law_spoil_sorts" s__law_spoil_sorts f__law_spoil_sorts fd__law_spoil_sorts
  b__law_spoil_sorts : Binds K fd__law_spoil_sorts ["script", "rows", "turns"] []
  g__law_spoil_sorts : mg "_law_spoil_sorts" = some (.ref f__law_spoil_sorts)
  f__law_spoil_behind : Addr
  fd__law_spoil_behind : FuncData
  F__law_spoil_behind : Fun K "_law_spoil_behind" "_law_spoil_behind" s__law_spoil_behind f__law_spoil_behind fd__law_spoil_behind
  b__law_spoil_behind : Binds K fd__law_spoil_behind ["rows", "cell"] []
  g__law_spoil_behind : mg "_law_spoil_behind" = some (.ref f__law_spoil_behind)
  f__law_due : Addr
  fd__law_due : FuncData
  F__law_due : Fun K "_law_due" "_law_due" s__law_due f__law_due fd__law_due
  b__law_due : Binds K fd__law_due ["sort_names", "function_rows", "predicate_rows"] []
  g__law_due : mg "_law_due" = some (.ref f__law_due)
  f__law_raised : Addr
  fd__law_raised : FuncData
  F__law_raised : Fun K "_law_raised" "_law_raised" s__law_raised f__law_raised fd__law_raised
  b__law_raised : Binds K fd__law_raised ["sort_names", "function_rows", "predicate_rows"] []
  g__law_raised : mg "_law_raised" = some (.ref f__law_raised)
  f__law_raised_extended : Addr
  fd__law_raised_extended : FuncData
  F__law_raised_extended : Fun K "_law_raised_extended" "_law_raised_extended" s__law_raised_extended f__law_raised_extended fd__law_raised_extended
  b__law_raised_extended : Binds K fd__law_raised_extended ["vocabulary", "function_rows"] []
  g__law_raised_extended : mg "_law_raised_extended" = some (.ref f__law_raised_extended)
  f__law_fits : Addr
  fd__law_fits : FuncData
  F__law_fits : Fun K "_law_fits" "_law_fits" s__law_fits f__law_fits fd__law_fits
  b__law_fits : Binds K fd__law_fits ["vocabulary", "sort_names", "function_rows", "predicate_rows", "probes"] []
  g__law_fits : mg "_law_fits" = some (.ref f__law_fits)
  f_law : Addr
  fd_law : FuncData
  F_law : Fun K "law" "law" s_law f_law fd_law
  b_law : Binds K fd_law ["script"] []
  g_law : mg "law" = some (.ref f_law)
  mk_Vocabulary : Mk K C_Vocabulary f_Vocabulary___init__
  n_ValueError : mg "ValueError" = none
  n_all : mg "all" = none
  n_int : mg "int" = none
  n_isinstance : mg "isinstance" = none
  n_len : mg "len" = none
  n_list : mg "list" = none
  n_range : mg "range" = none
  n_str : mg "str" = none
  n_tuple : mg "tuple" = none
  a_WORDS : Addr
  c_WORDS : mg "WORDS" = some (.ref a_WORDS)
  q_WORDS : ∀ H : Hp, SqT K H a_WORDS [.str "all", .str "some", .str "not", .str "and", .str "or", .str "implies", .str "iff", .str "true", .str "false", .str "truth", .str "sort", .str "function", .str "axiom"]
  t_SMALL_SIGNS : Tok
  c_SMALL_SIGNS : mg "SMALL_SIGNS" = some (.str "abcdefghijklmnopqrstuvwxyz0123456789" t_SMALL_SIGNS)
  t_DIGITS : Tok
  c_DIGITS : mg "DIGITS" = some (.str "0123456789" t_DIGITS)
  t_LONGEST : Tok
  c_LONGEST : mg "LONGEST" = some (.int 8 t_LONGEST)
  t_TRUTH_SORT : Tok
  c_TRUTH_SORT : mg "TRUTH_SORT" = some (.str "truth" t_TRUTH_SORT)
  C_ClaimError : Addr
  a_ClaimError : PySem.W.nsIn K mainGlobals "ClaimError" = some (some (.ref C_ClaimError))
  g_ClaimError : mg "ClaimError" = some (.ref C_ClaimError)
  E_BadName : ErrT P K mg "BadName" s_BadName___init__ "BadName.__init__" "name" "name"
  E_NameTaken : ErrT P K mg "NameTaken" s_NameTaken___init__ "NameTaken.__init__" "name" "name"
  E_NoSort : ErrT P K mg "NoSort" s_NoSort___init__ "NoSort.__init__" "name" "name"
  E_ReservedName : ErrT P K mg "ReservedName" s_ReservedName___init__ "ReservedName.__init__" "name" "name"
  E_NotSentence : ErrT P K mg "NotSentence" s_NotSentence___init__ "NotSentence.__init__" "name" "name"
  E_NoAxiom : ErrT P K mg "NoAxiom" s_NoAxiom___init__ "NoAxiom.__init__" "name" "name"
  E_BadTable : ErrT P K mg "BadTable" s_BadTable___init__ "BadTable.__init__" "name" "name"
  E_BadWeight : ErrT P K mg "BadWeight" s_BadWeight___init__ "BadWeight.__init__" "name" "name"
  E_TextError : LeafT K mg "TextError" VEb "ValueError.__new__"
  n_super : mg "super" = none
  kr_Vocabulary___init__ : KBn K fd_Vocabulary___init__ ["self", "sorts", "functions", "predicates"] 1 ["predicates", "functions", "sorts"] (fun us ws => us ++ ws.reverse) (fun us ws => us ++ ws.reverse)
  kb_Vocabulary_arguments : KBn K fd_Vocabulary_arguments ["self", "name"] 1 ["name"] (fun us ws => us ++ ws) (fun us ws => us ++ ws)
  kb_Vocabulary_extended : KBn K fd_Vocabulary_extended ["self", "functions"] 1 ["functions"] (fun us ws => us ++ ws) (fun us ws => us ++ ws)
  kb_Vocabulary_value_sort : KBn K fd_Vocabulary_value_sort ["self", "name"] 1 ["name"] (fun us ws => us ++ ws) (fun us ws => us ++ ws)
  kit : kitN K ["BadName", "NameTaken", "NoSort", "ReservedName", "NotSentence", "NoAxiom", "BadTable", "BadWeight"] = true
  exm : exmN K ["BadName", "NameTaken", "NoSort"] = true
  insv : insB K (addrOf K "Vocabulary") = true
  insa : PySem.W.nsIn K mainGlobals "Vocabulary" = some (some (.ref C_Vocabulary))
section
variable {P : Program} {K : PySem.W.Frag} {mg : Str → Option Value} (T : Top0 P K mg)
abbrev Top0.C_BadName : Addr := T.E_BadName.C
abbrev Top0.fI_BadName : Addr := T.E_BadName.fI
abbrev Top0.cc_BadName : Addr := T.E_BadName.cc
abbrev Top0.cd_BadName : Addr := T.E_BadName.cd
theorem Top0.g_BadName : mg "BadName" = some (.ref T.C_BadName) := T.E_BadName.g
theorem Top0.ox_BadName : OexC K T.C_BadName := T.E_BadName.ox
theorem Top0.no_BadName : PySem.W.findIn K (.ref T.C_BadName) "name" = some none := T.E_BadName.no
theorem Top0.iI_BadName : PySem.W.findIn K (.ref T.C_BadName) "__init__" = some (some (.ref T.fI_BadName)) := T.E_BadName.iI
theorem Top0.tI_BadName : PySem.W.typeIn K (.ref T.fI_BadName) = some (.type "function") := T.E_BadName.tI
theorem Top0.bI_BadName : Binds K (fnI s_BadName___init__ "BadName.__init__" T.cc_BadName T.cd_BadName T.E_BadName.kI T.E_BadName.doI T.E_BadName.pI T.E_BadName.anI T.E_BadName.ctI) ["self", "name"] [] := T.E_BadName.bI
theorem Top0.xc_BadName : ExcC K T.C_BadName := T.E_BadName.xc
theorem Top0.xf_BadName : XfC K T.C_BadName := T.E_BadName.xf
abbrev Top0.C_NameTaken : Addr := T.E_NameTaken.C
abbrev Top0.fI_NameTaken : Addr := T.E_NameTaken.fI
abbrev Top0.cc_NameTaken : Addr := T.E_NameTaken.cc
abbrev Top0.cd_NameTaken : Addr := T.E_NameTaken.cd
theorem Top0.g_NameTaken : mg "NameTaken" = some (.ref T.C_NameTaken) := T.E_NameTaken.g
theorem Top0.ox_NameTaken : OexC K T.C_NameTaken := T.E_NameTaken.ox
theorem Top0.no_NameTaken : PySem.W.findIn K (.ref T.C_NameTaken) "name" = some none := T.E_NameTaken.no
theorem Top0.iI_NameTaken : PySem.W.findIn K (.ref T.C_NameTaken) "__init__" = some (some (.ref T.fI_NameTaken)) := T.E_NameTaken.iI
theorem Top0.tI_NameTaken : PySem.W.typeIn K (.ref T.fI_NameTaken) = some (.type "function") := T.E_NameTaken.tI
theorem Top0.bI_NameTaken : Binds K (fnI s_NameTaken___init__ "NameTaken.__init__" T.cc_NameTaken T.cd_NameTaken T.E_NameTaken.kI T.E_NameTaken.doI T.E_NameTaken.pI T.E_NameTaken.anI T.E_NameTaken.ctI) ["self", "name"] [] := T.E_NameTaken.bI
theorem Top0.xc_NameTaken : ExcC K T.C_NameTaken := T.E_NameTaken.xc
theorem Top0.xf_NameTaken : XfC K T.C_NameTaken := T.E_NameTaken.xf
abbrev Top0.C_NoSort : Addr := T.E_NoSort.C
abbrev Top0.fI_NoSort : Addr := T.E_NoSort.fI
abbrev Top0.cc_NoSort : Addr := T.E_NoSort.cc
abbrev Top0.cd_NoSort : Addr := T.E_NoSort.cd
theorem Top0.g_NoSort : mg "NoSort" = some (.ref T.C_NoSort) := T.E_NoSort.g
theorem Top0.ox_NoSort : OexC K T.C_NoSort := T.E_NoSort.ox
theorem Top0.no_NoSort : PySem.W.findIn K (.ref T.C_NoSort) "name" = some none := T.E_NoSort.no
theorem Top0.iI_NoSort : PySem.W.findIn K (.ref T.C_NoSort) "__init__" = some (some (.ref T.fI_NoSort)) := T.E_NoSort.iI
theorem Top0.tI_NoSort : PySem.W.typeIn K (.ref T.fI_NoSort) = some (.type "function") := T.E_NoSort.tI
theorem Top0.bI_NoSort : Binds K (fnI s_NoSort___init__ "NoSort.__init__" T.cc_NoSort T.cd_NoSort T.E_NoSort.kI T.E_NoSort.doI T.E_NoSort.pI T.E_NoSort.anI T.E_NoSort.ctI) ["self", "name"] [] := T.E_NoSort.bI
theorem Top0.xc_NoSort : ExcC K T.C_NoSort := T.E_NoSort.xc
theorem Top0.xf_NoSort : XfC K T.C_NoSort := T.E_NoSort.xf
abbrev Top0.C_ReservedName : Addr := T.E_ReservedName.C
abbrev Top0.fI_ReservedName : Addr := T.E_ReservedName.fI
abbrev Top0.cc_ReservedName : Addr := T.E_ReservedName.cc
abbrev Top0.cd_ReservedName : Addr := T.E_ReservedName.cd
theorem Top0.g_ReservedName : mg "ReservedName" = some (.ref T.C_ReservedName) := T.E_ReservedName.g
theorem Top0.ox_ReservedName : OexC K T.C_ReservedName := T.E_ReservedName.ox
theorem Top0.no_ReservedName : PySem.W.findIn K (.ref T.C_ReservedName) "name" = some none := T.E_ReservedName.no
theorem Top0.iI_ReservedName : PySem.W.findIn K (.ref T.C_ReservedName) "__init__" = some (some (.ref T.fI_ReservedName)) := T.E_ReservedName.iI
theorem Top0.tI_ReservedName : PySem.W.typeIn K (.ref T.fI_ReservedName) = some (.type "function") := T.E_ReservedName.tI
theorem Top0.bI_ReservedName : Binds K (fnI s_ReservedName___init__ "ReservedName.__init__" T.cc_ReservedName T.cd_ReservedName T.E_ReservedName.kI T.E_ReservedName.doI T.E_ReservedName.pI T.E_ReservedName.anI T.E_ReservedName.ctI) ["self", "name"] [] := T.E_ReservedName.bI
theorem Top0.xc_ReservedName : ExcC K T.C_ReservedName := T.E_ReservedName.xc
theorem Top0.xf_ReservedName : XfC K T.C_ReservedName := T.E_ReservedName.xf
abbrev Top0.C_NotSentence : Addr := T.E_NotSentence.C
abbrev Top0.fI_NotSentence : Addr := T.E_NotSentence.fI
abbrev Top0.cc_NotSentence : Addr := T.E_NotSentence.cc
abbrev Top0.cd_NotSentence : Addr := T.E_NotSentence.cd
theorem Top0.g_NotSentence : mg "NotSentence" = some (.ref T.C_NotSentence) := T.E_NotSentence.g
theorem Top0.ox_NotSentence : OexC K T.C_NotSentence := T.E_NotSentence.ox
theorem Top0.no_NotSentence : PySem.W.findIn K (.ref T.C_NotSentence) "name" = some none := T.E_NotSentence.no
theorem Top0.iI_NotSentence : PySem.W.findIn K (.ref T.C_NotSentence) "__init__" = some (some (.ref T.fI_NotSentence)) := T.E_NotSentence.iI
theorem Top0.tI_NotSentence : PySem.W.typeIn K (.ref T.fI_NotSentence) = some (.type "function") := T.E_NotSentence.tI
theorem Top0.bI_NotSentence : Binds K (fnI s_NotSentence___init__ "NotSentence.__init__" T.cc_NotSentence T.cd_NotSentence T.E_NotSentence.kI T.E_NotSentence.doI T.E_NotSentence.pI T.E_NotSentence.anI T.E_NotSentence.ctI) ["self", "name"] [] := T.E_NotSentence.bI
theorem Top0.xc_NotSentence : ExcC K T.C_NotSentence := T.E_NotSentence.xc
theorem Top0.xf_NotSentence : XfC K T.C_NotSentence := T.E_NotSentence.xf
abbrev Top0.C_NoAxiom : Addr := T.E_NoAxiom.C
abbrev Top0.fI_NoAxiom : Addr := T.E_NoAxiom.fI
abbrev Top0.cc_NoAxiom : Addr := T.E_NoAxiom.cc
abbrev Top0.cd_NoAxiom : Addr := T.E_NoAxiom.cd
theorem Top0.g_NoAxiom : mg "NoAxiom" = some (.ref T.C_NoAxiom) := T.E_NoAxiom.g
theorem Top0.ox_NoAxiom : OexC K T.C_NoAxiom := T.E_NoAxiom.ox
theorem Top0.no_NoAxiom : PySem.W.findIn K (.ref T.C_NoAxiom) "name" = some none := T.E_NoAxiom.no
theorem Top0.iI_NoAxiom : PySem.W.findIn K (.ref T.C_NoAxiom) "__init__" = some (some (.ref T.fI_NoAxiom)) := T.E_NoAxiom.iI
theorem Top0.tI_NoAxiom : PySem.W.typeIn K (.ref T.fI_NoAxiom) = some (.type "function") := T.E_NoAxiom.tI
theorem Top0.bI_NoAxiom : Binds K (fnI s_NoAxiom___init__ "NoAxiom.__init__" T.cc_NoAxiom T.cd_NoAxiom T.E_NoAxiom.kI T.E_NoAxiom.doI T.E_NoAxiom.pI T.E_NoAxiom.anI T.E_NoAxiom.ctI) ["self", "name"] [] := T.E_NoAxiom.bI
theorem Top0.xc_NoAxiom : ExcC K T.C_NoAxiom := T.E_NoAxiom.xc
theorem Top0.xf_NoAxiom : XfC K T.C_NoAxiom := T.E_NoAxiom.xf
abbrev Top0.C_BadTable : Addr := T.E_BadTable.C
abbrev Top0.fI_BadTable : Addr := T.E_BadTable.fI
abbrev Top0.cc_BadTable : Addr := T.E_BadTable.cc
abbrev Top0.cd_BadTable : Addr := T.E_BadTable.cd
theorem Top0.g_BadTable : mg "BadTable" = some (.ref T.C_BadTable) := T.E_BadTable.g
theorem Top0.ox_BadTable : OexC K T.C_BadTable := T.E_BadTable.ox
theorem Top0.no_BadTable : PySem.W.findIn K (.ref T.C_BadTable) "name" = some none := T.E_BadTable.no
theorem Top0.iI_BadTable : PySem.W.findIn K (.ref T.C_BadTable) "__init__" = some (some (.ref T.fI_BadTable)) := T.E_BadTable.iI
theorem Top0.tI_BadTable : PySem.W.typeIn K (.ref T.fI_BadTable) = some (.type "function") := T.E_BadTable.tI
theorem Top0.bI_BadTable : Binds K (fnI s_BadTable___init__ "BadTable.__init__" T.cc_BadTable T.cd_BadTable T.E_BadTable.kI T.E_BadTable.doI T.E_BadTable.pI T.E_BadTable.anI T.E_BadTable.ctI) ["self", "name"] [] := T.E_BadTable.bI
theorem Top0.xc_BadTable : ExcC K T.C_BadTable := T.E_BadTable.xc
theorem Top0.xf_BadTable : XfC K T.C_BadTable := T.E_BadTable.xf
abbrev Top0.C_BadWeight : Addr := T.E_BadWeight.C
abbrev Top0.fI_BadWeight : Addr := T.E_BadWeight.fI
abbrev Top0.cc_BadWeight : Addr := T.E_BadWeight.cc
abbrev Top0.cd_BadWeight : Addr := T.E_BadWeight.cd
theorem Top0.g_BadWeight : mg "BadWeight" = some (.ref T.C_BadWeight) := T.E_BadWeight.g
theorem Top0.ox_BadWeight : OexC K T.C_BadWeight := T.E_BadWeight.ox
theorem Top0.no_BadWeight : PySem.W.findIn K (.ref T.C_BadWeight) "name" = some none := T.E_BadWeight.no
theorem Top0.iI_BadWeight : PySem.W.findIn K (.ref T.C_BadWeight) "__init__" = some (some (.ref T.fI_BadWeight)) := T.E_BadWeight.iI
theorem Top0.tI_BadWeight : PySem.W.typeIn K (.ref T.fI_BadWeight) = some (.type "function") := T.E_BadWeight.tI
theorem Top0.bI_BadWeight : Binds K (fnI s_BadWeight___init__ "BadWeight.__init__" T.cc_BadWeight T.cd_BadWeight T.E_BadWeight.kI T.E_BadWeight.doI T.E_BadWeight.pI T.E_BadWeight.anI T.E_BadWeight.ctI) ["self", "name"] [] := T.E_BadWeight.bI
theorem Top0.xc_BadWeight : ExcC K T.C_BadWeight := T.E_BadWeight.xc
theorem Top0.xf_BadWeight : XfC K T.C_BadWeight := T.E_BadWeight.xf
abbrev Top0.C_TextError : Addr := T.E_TextError.C
theorem Top0.g_TextError : mg "TextError" = some (.ref T.C_TextError) := T.E_TextError.g
theorem Top0.qx_TextError : PySem.W.excIn K T.C_TextError VEb "ValueError.__new__" = true := T.E_TextError.qx
theorem Top0.kx_TextError : PySem.W.keepIn K (.ref T.C_TextError) = true := T.E_TextError.kx
theorem Top0.xc_TextError : ExcC K T.C_TextError := T.E_TextError.xc
end
section
variable {P : Program} {w : World} {K : PySem.W.Frag} {mg : Str → Option Value} {base : Heap}
theorem ok_BadName___init__ (T : Top0 P K mg) : FnOk P w K mg base CX0 1 T.fI_BadName (fnI s_BadName___init__ "BadName.__init__" T.cc_BadName T.cd_BadName T.E_BadName.kI T.E_BadName.doI T.E_BadName.pI T.E_BadName.anI T.E_BadName.ctI) ["self", "name"] (spErrQ K T.C_BadName "name") := by
  refine err_fn (N := ["self", "name", "__class__"]) (k := 0) (ta := taErrQ K "name ") (ts := tOst K "name" (tVar 0) (tVar 1)) T.E_BadName.S T.E_BadName.ox T.n_super (nscope_by (by decide +kernel)) rfl T.E_BadName.hc rfl (fun A outer s H E hr => ?_) (fun A outer s H E hr => ?_) (fun env => rfl) (fun L => rfl) (fun L => rfl) (fun env => rfl) (fun vs H Q E h => ?_) (fun vs H Q E h => err_readQ T.E_BadName.ox T.E_BadName.no (by decide) h)
  · exact pa_cons (pe_joined (.cons pe_str (.cons (pe_fmtQ hr (pv 1)) .nil))) pa_nil
  · exact pss_one (ps_ost (pv 0) (pv 1))
  · obtain ⟨a, y, rfl, _⟩ := h
    rfl
theorem ok_NameTaken___init__ (T : Top0 P K mg) : FnOk P w K mg base CX0 1 T.fI_NameTaken (fnI s_NameTaken___init__ "NameTaken.__init__" T.cc_NameTaken T.cd_NameTaken T.E_NameTaken.kI T.E_NameTaken.doI T.E_NameTaken.pI T.E_NameTaken.anI T.E_NameTaken.ctI) ["self", "name"] (spErrQ K T.C_NameTaken "name") := by
  refine err_fn (N := ["self", "name", "__class__"]) (k := 0) (ta := taErrQ K "name ") (ts := tOst K "name" (tVar 0) (tVar 1)) T.E_NameTaken.S T.E_NameTaken.ox T.n_super (nscope_by (by decide +kernel)) rfl T.E_NameTaken.hc rfl (fun A outer s H E hr => ?_) (fun A outer s H E hr => ?_) (fun env => rfl) (fun L => rfl) (fun L => rfl) (fun env => rfl) (fun vs H Q E h => ?_) (fun vs H Q E h => err_readQ T.E_NameTaken.ox T.E_NameTaken.no (by decide) h)
  · exact pa_cons (pe_joined (.cons pe_str (.cons (pe_fmtQ hr (pv 1)) .nil))) pa_nil
  · exact pss_one (ps_ost (pv 0) (pv 1))
  · obtain ⟨a, y, rfl, _⟩ := h
    rfl
theorem ok_NoSort___init__ (T : Top0 P K mg) : FnOk P w K mg base CX0 1 T.fI_NoSort (fnI s_NoSort___init__ "NoSort.__init__" T.cc_NoSort T.cd_NoSort T.E_NoSort.kI T.E_NoSort.doI T.E_NoSort.pI T.E_NoSort.anI T.E_NoSort.ctI) ["self", "name"] (spErrQ K T.C_NoSort "name") := by
  refine err_fn (N := ["self", "name", "__class__"]) (k := 0) (ta := taErrQ K "name ") (ts := tOst K "name" (tVar 0) (tVar 1)) T.E_NoSort.S T.E_NoSort.ox T.n_super (nscope_by (by decide +kernel)) rfl T.E_NoSort.hc rfl (fun A outer s H E hr => ?_) (fun A outer s H E hr => ?_) (fun env => rfl) (fun L => rfl) (fun L => rfl) (fun env => rfl) (fun vs H Q E h => ?_) (fun vs H Q E h => err_readQ T.E_NoSort.ox T.E_NoSort.no (by decide) h)
  · exact pa_cons (pe_joined (.cons pe_str (.cons (pe_fmtQ hr (pv 1)) .nil))) pa_nil
  · exact pss_one (ps_ost (pv 0) (pv 1))
  · obtain ⟨a, y, rfl, _⟩ := h
    rfl
theorem ok_ReservedName___init__ (T : Top0 P K mg) : FnOk P w K mg base CX0 1 T.fI_ReservedName (fnI s_ReservedName___init__ "ReservedName.__init__" T.cc_ReservedName T.cd_ReservedName T.E_ReservedName.kI T.E_ReservedName.doI T.E_ReservedName.pI T.E_ReservedName.anI T.E_ReservedName.ctI) ["self", "name"] (spErrQ K T.C_ReservedName "name") := by
  refine err_fn (N := ["self", "name", "__class__"]) (k := 0) (ta := taErrQ K "name ") (ts := tOst K "name" (tVar 0) (tVar 1)) T.E_ReservedName.S T.E_ReservedName.ox T.n_super (nscope_by (by decide +kernel)) rfl T.E_ReservedName.hc rfl (fun A outer s H E hr => ?_) (fun A outer s H E hr => ?_) (fun env => rfl) (fun L => rfl) (fun L => rfl) (fun env => rfl) (fun vs H Q E h => ?_) (fun vs H Q E h => err_readQ T.E_ReservedName.ox T.E_ReservedName.no (by decide) h)
  · exact pa_cons (pe_joined (.cons pe_str (.cons (pe_fmtQ hr (pv 1)) .nil))) pa_nil
  · exact pss_one (ps_ost (pv 0) (pv 1))
  · obtain ⟨a, y, rfl, _⟩ := h
    rfl
theorem ok_NotSentence___init__ (T : Top0 P K mg) : FnOk P w K mg base CX0 1 T.fI_NotSentence (fnI s_NotSentence___init__ "NotSentence.__init__" T.cc_NotSentence T.cd_NotSentence T.E_NotSentence.kI T.E_NotSentence.doI T.E_NotSentence.pI T.E_NotSentence.anI T.E_NotSentence.ctI) ["self", "name"] (spErrQ K T.C_NotSentence "name") := by
  refine err_fn (N := ["self", "name", "__class__"]) (k := 0) (ta := taErrQ K "name ") (ts := tOst K "name" (tVar 0) (tVar 1)) T.E_NotSentence.S T.E_NotSentence.ox T.n_super (nscope_by (by decide +kernel)) rfl T.E_NotSentence.hc rfl (fun A outer s H E hr => ?_) (fun A outer s H E hr => ?_) (fun env => rfl) (fun L => rfl) (fun L => rfl) (fun env => rfl) (fun vs H Q E h => ?_) (fun vs H Q E h => err_readQ T.E_NotSentence.ox T.E_NotSentence.no (by decide) h)
  · exact pa_cons (pe_joined (.cons pe_str (.cons (pe_fmtQ hr (pv 1)) .nil))) pa_nil
  · exact pss_one (ps_ost (pv 0) (pv 1))
  · obtain ⟨a, y, rfl, _⟩ := h
    rfl
theorem ok_NoAxiom___init__ (T : Top0 P K mg) : FnOk P w K mg base CX0 1 T.fI_NoAxiom (fnI s_NoAxiom___init__ "NoAxiom.__init__" T.cc_NoAxiom T.cd_NoAxiom T.E_NoAxiom.kI T.E_NoAxiom.doI T.E_NoAxiom.pI T.E_NoAxiom.anI T.E_NoAxiom.ctI) ["self", "name"] (spErrQ K T.C_NoAxiom "name") := by
  refine err_fn (N := ["self", "name", "__class__"]) (k := 0) (ta := taErrQ K "name ") (ts := tOst K "name" (tVar 0) (tVar 1)) T.E_NoAxiom.S T.E_NoAxiom.ox T.n_super (nscope_by (by decide +kernel)) rfl T.E_NoAxiom.hc rfl (fun A outer s H E hr => ?_) (fun A outer s H E hr => ?_) (fun env => rfl) (fun L => rfl) (fun L => rfl) (fun env => rfl) (fun vs H Q E h => ?_) (fun vs H Q E h => err_readQ T.E_NoAxiom.ox T.E_NoAxiom.no (by decide) h)
  · exact pa_cons (pe_joined (.cons pe_str (.cons (pe_fmtQ hr (pv 1)) .nil))) pa_nil
  · exact pss_one (ps_ost (pv 0) (pv 1))
  · obtain ⟨a, y, rfl, _⟩ := h
    rfl
theorem ok_BadTable___init__ (T : Top0 P K mg) : FnOk P w K mg base CX0 1 T.fI_BadTable (fnI s_BadTable___init__ "BadTable.__init__" T.cc_BadTable T.cd_BadTable T.E_BadTable.kI T.E_BadTable.doI T.E_BadTable.pI T.E_BadTable.anI T.E_BadTable.ctI) ["self", "name"] (spErrQ K T.C_BadTable "name") := by
  refine err_fn (N := ["self", "name", "__class__"]) (k := 0) (ta := taErrQ K "name ") (ts := tOst K "name" (tVar 0) (tVar 1)) T.E_BadTable.S T.E_BadTable.ox T.n_super (nscope_by (by decide +kernel)) rfl T.E_BadTable.hc rfl (fun A outer s H E hr => ?_) (fun A outer s H E hr => ?_) (fun env => rfl) (fun L => rfl) (fun L => rfl) (fun env => rfl) (fun vs H Q E h => ?_) (fun vs H Q E h => err_readQ T.E_BadTable.ox T.E_BadTable.no (by decide) h)
  · exact pa_cons (pe_joined (.cons pe_str (.cons (pe_fmtQ hr (pv 1)) .nil))) pa_nil
  · exact pss_one (ps_ost (pv 0) (pv 1))
  · obtain ⟨a, y, rfl, _⟩ := h
    rfl
theorem ok_BadWeight___init__ (T : Top0 P K mg) : FnOk P w K mg base CX0 1 T.fI_BadWeight (fnI s_BadWeight___init__ "BadWeight.__init__" T.cc_BadWeight T.cd_BadWeight T.E_BadWeight.kI T.E_BadWeight.doI T.E_BadWeight.pI T.E_BadWeight.anI T.E_BadWeight.ctI) ["self", "name"] (spErrQ K T.C_BadWeight "name") := by
  refine err_fn (N := ["self", "name", "__class__"]) (k := 0) (ta := taErrQ K "name ") (ts := tOst K "name" (tVar 0) (tVar 1)) T.E_BadWeight.S T.E_BadWeight.ox T.n_super (nscope_by (by decide +kernel)) rfl T.E_BadWeight.hc rfl (fun A outer s H E hr => ?_) (fun A outer s H E hr => ?_) (fun env => rfl) (fun L => rfl) (fun L => rfl) (fun env => rfl) (fun vs H Q E h => ?_) (fun vs H Q E h => err_readQ T.E_BadWeight.ox T.E_BadWeight.no (by decide) h)
  · exact pa_cons (pe_joined (.cons pe_str (.cons (pe_fmtQ hr (pv 1)) .nil))) pa_nil
  · exact pss_one (ps_ost (pv 0) (pv 1))
  · obtain ⟨a, y, rfl, _⟩ := h
    rfl
end
end K00

set_option Elab.async false
set_option linter.all false
set_option maxRecDepth 100000
set_option maxHeartbeats 2000000
namespace K00
open PySem PySem.Spec PyProof.Rows L2 NdefX CW RZ
open PySem.W (fnX)
/-! the mathematics -/
def smallS : Str := Str.ofString "abcdefghijklmnopqrstuvwxyz0123456789"
def smallL : List Nat := smallS.cps.toList
def letL : List Nat := (Str.ofString "abcdefghijklmnopqrstuvwxyz").cps.toList
def capL : List Nat := (Str.ofString "ABCDEFGHIJKLMNOPQRSTUVWXYZ").cps.toList
def digL : List Nat := (Str.ofString "0123456789").cps.toList
def W13 : List V := [.str "all", .str "some", .str "not", .str "and", .str "or", .str "implies", .str "iff", .str "true", .str "false", .str "truth", .str "sort", .str "function", .str "axiom"]
def W12 : List V := [.str "predicate", .str "z", .str "zz0", .str "atom", .str "same", .str "given", .str "either", .str "fill", .str "predicat", .str "none", .str "taken", .str "is"]
def plainF (z : Str) : Bool := decide (1 ≤ z.length ∧ z.length ≤ 8) && (z.cps.toList.drop 1).all fun c => decide (c ∈ smallL)
def headIn (z : Str) (l : List Nat) : Bool := match z.cps.toList with
  | [] => false
  | c :: _ => decide (c ∈ l)
def nameF (z : Str) : Bool := plainF z && (headIn z letL && !inV (.str z) W13)
def varF (z : Str) : Bool := plainF z && headIn z capL
theorem signs_len : ((Str.ofString " !\"#$&'()*+,-./0123456789:;<=>?@ABCDEFGHIJKLMNOPQRSTUVWXYZ[\\]^_`") ++ (Str.ofString "abcdefghijklmnopqrstuvwxyz{|}~\n")).cps.toList.length = 95 := by decide +kernel
theorem smallS_len : smallS.cps.toList.length = 36 := by decide +kernel
theorem words_ok : ∀ v ∈ W13 ++ W12, ∃ z : Str, v = .str z ∧ 1 ≤ z.length ∧ z.length ≤ 9 := by
  have h : (W13 ++ W12).all (fun v => match v with | .str z => decide (1 ≤ z.length) && decide (z.length ≤ 9) | _ => false) = true := by decide +kernel
  intro v hv
  have h2 := List.all_eq_true.mp h v hv
  cases v with
  | str z =>
    rw [Bool.and_eq_true] at h2
    exact ⟨z, rfl, of_decide_eq_true h2.1, of_decide_eq_true h2.2⟩
  | _ => cases h2
theorem head_of {z : Str} (h : 1 ≤ z.length) : ∃ c r, z.cps.toList = c :: r ∧ atI z.cps.toList 0 = some c := by
  have hl : z.cps.toList.length = z.length := by rw [Array.length_toList]; rfl
  cases e : z.cps.toList with
  | nil => rw [e] at hl; simp at hl; omega
  | cons c r => exact ⟨c, r, rfl, atI_nat (j := 0) rfl⟩
theorem letters (c : Nat) : (decide (c ∈ smallL) && !decide (c ∈ digL)) = decide (c ∈ letL) := by
  by_cases h : c < 128
  · revert h
    have : ∀ c : Fin 128, (decide (c.val ∈ smallL) && !decide (c.val ∈ digL)) = decide (c.val ∈ letL) := by decide +kernel
    exact fun h => this ⟨c, h⟩
  · have a1 : ∀ x ∈ smallL, x < 128 := by decide +kernel
    have a2 : ∀ x ∈ letL, x < 128 := by decide +kernel
    rw [decide_eq_false (fun z => h (a1 c z)), decide_eq_false (fun z => h (a2 c z))]
    rfl
theorem plainF_no {z : Str} (h : ¬ (1 ≤ z.length ∧ z.length ≤ 8)) : plainF z = false := by
  unfold plainF
  rw [decide_eq_false h]
  rfl
theorem plainF_yes {z : Str} (h1 : 1 ≤ z.length) (h2 : z.length ≤ 8) : plainF z = (z.cps.toList.drop 1).all fun c => decide (c ∈ smallL) := by
  unfold plainF
  rw [decide_eq_true ⟨h1, h2⟩]
  rfl
theorem plain_len {z : Str} (h : plainF z = true) : 1 ≤ z.length ∧ z.length ≤ 8 := by
  unfold plainF at h
  rw [Bool.and_eq_true] at h
  exact of_decide_eq_true h.1
theorem all_filter (l : List Nat) (f : Nat → Bool) : l.all f = decide ((l.filter fun c => !f c).length = 0) := by
  induction l with
  | nil => rfl
  | cons c r ih =>
    rw [List.all_cons, ih, List.filter_cons]
    cases f c with
    | true => rfl
    | false => simp
theorem len_cap {z : Str} {n : Int} (h : 0 ≤ n) : (cutS z none (some n)).length ≤ n.toNat := by
  show (((z.cps.toList.drop (HT.sIx z.length 0 none)).take (HT.sIx z.length z.length (some n) - HT.sIx z.length 0 none)).toArray).size ≤ n.toNat
  rw [List.size_toArray, List.length_take, HT.sIx_none]
  have e : HT.sIx z.length z.length (some n) = min n.toNat z.length := by
    show (if n < 0 then _ else _) = _
    rw [if_neg (by omega)]
  rw [e]; omega
/-! vocabularies -/
structure Lex where
  S : List Str
  F : List (Str × List Str × Str)
  P : List (Str × List Str)
def pD (r : Str × List Str) : PyData := .tuple [.str r.1, .tuple (r.2.map PyData.str)]
def fD (r : Str × List Str × Str) : PyData := .tuple [.str r.1, .tuple (r.2.1.map PyData.str), .str r.2.2]
theorem imStrs : ∀ l : List Str, ImAll (l.map PyData.str) = true
  | [] => rfl
  | z :: r => by show (Im (.str z) && ImAll (r.map PyData.str)) = true; rw [imStrs r]; rfl
theorem im_pD (r : Str × List Str) : Im (pD r) = true := by
  show (true && (ImAll (r.2.map PyData.str) && true)) = true
  rw [imStrs]; rfl
theorem im_fD (r : Str × List Str × Str) : Im (fD r) = true := by
  show (true && (ImAll (r.2.1.map PyData.str) && (true && true))) = true
  rw [imStrs]; rfl
def Lex.rows (x : Lex) : List (Str × List Str) := x.S.map (fun s => (s, [])) ++ x.F.map (fun r => (r.1, r.2.1 ++ [r.2.2])) ++ x.P
structure RowsOk (S : List Str) (rows : List (Str × List Str)) : Prop where
  len : rows.length ≤ 100000
  slen : S.length ≤ 100000
  nd : (rows.map (·.1)).Nodup
  nm : ∀ r ∈ rows, nameF r.1 = true
  ws : ∀ r ∈ rows, ∀ s ∈ r.2, s ∈ S
  wl : ∀ r ∈ rows, r.2.length ≤ 1000
def argsTab (x : Lex) : List (Str × PyData) := x.F.map (fun r => (r.1, PyData.tuple (r.2.1.map PyData.str))) ++ x.P.map (fun r => (r.1, PyData.tuple (r.2.map PyData.str)))
def sortTab (x : Lex) : List (Str × PyData) := x.P.map (fun r => (r.1, PyData.str "truth")) ++ x.F.map (fun r => (r.1, PyData.str r.2.2))
theorem name_plain {z : Str} (h : nameF z = true) : plainF z = true := by
  unfold nameF at h
  rw [Bool.and_eq_true] at h
  exact h.1
theorem nd_take {rows : List (Str × List Str)} {i : Nat} {r : Str × List Str} (nd : (rows.map (·.1)).Nodup) (hr : rows[i]? = some r) (hm : r.1 ∈ (rows.take i).map (fun r => r.1)) : False := by
  obtain ⟨j, hj⟩ := List.getElem?_of_mem hm
  have hi : i < rows.length := (List.getElem?_eq_some_iff.mp hr).1
  have hj2 : j < i := by
    have := (List.getElem?_eq_some_iff.mp hj).1
    rw [List.length_map, List.length_take] at this; omega
  rw [List.getElem?_map, List.getElem?_take_of_lt hj2] at hj
  have e1 : (rows.map (·.1))[i]? = some r.1 := by rw [List.getElem?_map, hr]; rfl
  have e2 : (rows.map (·.1))[j]? = some r.1 := by rw [List.getElem?_map]; exact hj
  have := (List.getElem?_inj (by rw [List.length_map]; omega) nd).mp (e2.trans e1.symm)
  omega
/-! the promises -/
def ascL (z : Str) : Bool := ascS z
structure Tx (n : Nat) (z : Str) : Prop where
  len : z.length ≤ n
  asc : ascS z = true
theorem asc_app {a b : Str} (h1 : ascS a = true) (h2 : ascS b = true) : ascS (a ++ b) = true := by
  unfold ascS at *
  rw [app_l, List.all_append, h1, h2]; rfl
theorem asc_cut {a : Str} {lo hi : Option Int} (h1 : ascS a = true) : ascS (cutS a lo hi) = true := by
  unfold ascS at *
  rw [cut_l]
  exact List.all_eq_true.mpr fun c hc => List.all_eq_true.mp h1 c (List.mem_of_mem_drop (List.mem_of_mem_take hc))
theorem asc_one {c : Nat} (h : c < 128) : ascS ⟨#[c]⟩ = true := by
  unfold ascS
  rw [one_l, List.all_cons, decide_eq_true h]; rfl
theorem Tx.cut {n : Nat} {z : Str} {lo hi : Option Int} (h : Tx n z) : Tx n (cutS z lo hi) := ⟨Nat.le_trans (len_cut _ _ _) h.1, asc_cut h.2⟩
theorem Tx.app {a b n : Nat} {x y : Str} (h1 : Tx a x) (h2 : Tx b y) (h : a + b ≤ n) : Tx n (x ++ y) := ⟨by have := h1.1; have := h2.1; rw [len_app]; omega, asc_app h1.2 h2.2⟩
theorem Tx.up {n : Nat} {x : Str} (h1 : Tx n x) : Tx n (Txt.upper x) := ⟨by rw [(upper_asc h1.2).2]; exact h1.1, (upper_asc h1.2).1⟩
theorem Tx.le {a n : Nat} {x : Str} (h1 : Tx a x) (h : a ≤ n) : Tx n x := ⟨Nat.le_trans h1.1 h, h1.2⟩
def okS (n : Nat) (v : V) : Bool := match v with
  | .str z => decide (z.length ≤ n) && ascS z
  | _ => false
theorem okS_tx {n : Nat} {v : V} (h : okS n v = true) : ∃ z, v = .str z ∧ Tx n z := by
  cases v with
  | str z => exact ⟨z, rfl, of_decide_eq_true (Bool.and_eq_true_iff.mp h).1, (Bool.and_eq_true_iff.mp h).2⟩
  | _ => cases h
theorem okS_of {n : Nat} {z : Str} (h : Tx n z) : okS n (.str z) = true := Bool.and_eq_true_iff.mpr ⟨decide_eq_true h.1, h.2⟩
theorem Tx.lit {z : Str} (h : okS 20 (.str z) = true) : Tx 20 z := ⟨of_decide_eq_true (Bool.and_eq_true_iff.mp h).1, (Bool.and_eq_true_iff.mp h).2⟩
theorem okS_le {a n : Nat} {v : V} (h : okS a v = true) (hn : a ≤ n) : okS n v = true := by
  obtain ⟨z, rfl, t⟩ := okS_tx h
  exact okS_of (t.le hn)
theorem at_okS {n : Nat} {l : List V} {k : Int} (h : l.all (okS n) = true) (h0 : 0 ≤ k) (h1 : k < (l.length : Int)) : ∃ z, atI l k = some (.str z) ∧ Tx n z := by
  obtain ⟨v, e1, e2⟩ := atI_ok h0 h1
  obtain ⟨z, rfl, t⟩ := okS_tx (List.all_eq_true.mp h v (List.mem_of_getElem? e2))
  exact ⟨z, e1, t⟩
theorem vT_plus {K : PySem.W.Frag} {H : Hp} {Q : VK} {a b : Nat} {x y : Str} (h1 : Tx a x) (h2 : Tx b y) (h3 : a + b ≤ 3000) (q : Tx (a + b) (x ++ y) → Q (.str (x ++ y)) H) : rPlus K (.str x) (.str y) H Q := v_plus_str (szL (by have := h1.1; have := h2.1; omega)) (q (h1.app h2 (Nat.le_refl _)))
theorem vT_cut {K : PySem.W.Frag} {H : Hp} {Q : VK} {a : Nat} {x : Str} {lo hi : Option Int} (h1 : Tx a x) (h3 : a ≤ 3000) (q : Tx a (cutS x lo hi) → Q (.str (cutS x lo hi)) H) : rSlU K (.str x) lo hi H Q := v_sl_s (szL (by have := h1.1; omega)) (q h1.cut)
theorem vT_up {H : Hp} {Q : VK} {a : Nat} {x : Str} (h1 : Tx a x) (h3 : a ≤ 3000) (q : Tx a (Txt.upper x) → Q (.str (Txt.upper x)) H) : rUpper (.str x) [] H Q := v_upper (by have := h1.1; omega) (q h1.up)
theorem alls_nil {n : Nat} : ([] : List V).all (okS n) = true := rfl
theorem alls_cons {n : Nat} {z : Str} {l : List V} (h : Tx n z) (hl : l.all (okS n) = true) : (V.str z :: l).all (okS n) = true := by rw [List.all_cons, okS_of h, hl]; rfl
theorem alls_app {n : Nat} {l m : List V} (h : l.all (okS n) = true) (h2 : m.all (okS n) = true) : (l ++ m).all (okS n) = true := by rw [List.all_append, h, h2]; rfl
theorem ix_okS {K : PySem.W.Frag} {H : Hp} {Q : VK} {n : Nat} {m k : Int} {l : List V} {p : Addr} (e : H p = some (.lst l)) (h : l.all (okS n) = true) (hl : (l.length : Int) = m) (h0 : 0 ≤ k) (h1 : k < m) (q : ∀ z, Tx n z → Q (.str z) H) : rIx K (.ref p) (.int k) H Q := by
  obtain ⟨z, ea, t⟩ := at_okS h h0 (by omega)
  exact v_ix_l (sql e) ea (q z t)
theorem for_str {z : Str} {g : TG} {tb : TS} {D : Ends} {σ : L2.St} {H : Hp} (Pv : Nat → L2.St → Hp → Prop) (h0 : Pv 0 σ H)
    (hs : ∀ i c σ H, z.cps.toList[i]? = some c → Pv i σ H → g (.str ⟨#[c]⟩) σ H fun σ2 H2 => tb { D with nx := Pv (i + 1), ct := Pv (i + 1), bk := D.nx } σ2 H2) (hd : ∀ σ H, Pv z.cps.toList.length σ H → D.nx σ H) :
    ∃ W : Nat → Nat → L2.St → Hp → Prop, (∃ m, W 0 m σ H) ∧ ∀ i m σ H, W i m σ H →
      ((Its z).stop i H ∧ D.nx σ H) ∨ ((Its z).go i H ∧ ∃ N : L2.St → Hp → Prop, (∀ σ' H', N σ' H' → ∃ m', m' < m ∧ W (i + 1) m' σ' H') ∧ ∀ x H', (Its z).yld i H x H' → g x σ H' fun σ2 H2 => tb { D with nx := N, ct := N, bk := D.nx } σ2 H2) := by
  have hz : z.cps.toList.length = z.cps.size := Array.length_toList
  refine ⟨fun i m σ H => m = z.cps.size - i ∧ i ≤ z.cps.size ∧ Pv i σ H, ⟨z.cps.size, by simp, Nat.zero_le _, h0⟩, ?_⟩
  rintro i m σ H ⟨rfl, hi, p⟩
  by_cases hlt : i < z.cps.size
  · refine .inr ⟨hlt, Pv (i + 1), fun σ' H' p' => ⟨z.cps.size - (i + 1), by omega, rfl, hlt, p'⟩, fun x H' y => ?_⟩
    obtain ⟨rfl, c, hc, rfl⟩ := y
    exact hs i c σ _ (by rw [Array.getElem?_toList]; exact hc) p
  · have e : i = z.cps.size := by omega
    subst e
    exact .inl ⟨Nat.le_refl _, hd σ H (hz ▸ p)⟩
theorem small_split : smallL = letL ++ digL := by decide +kernel
theorem plain_of {z : Str} (h1 : 1 ≤ z.length) (h2 : z.length ≤ 8) (h : ∀ c ∈ z.cps.toList, c ∈ smallL) : plainF z = true := by
  rw [plainF_yes h1 h2]
  exact List.all_eq_true.mpr fun c hc => decide_eq_true (h c (List.mem_of_mem_drop hc))
theorem plain_not {z : Str} {i c : Nat} (hi : 0 < i) (hc : z.cps.toList[i]? = some c) (h : ¬ c ∈ smallL) : plainF z = false := by
  cases e : plainF z with
  | false => rfl
  | true =>
    have hl := plain_len e
    rw [plainF_yes hl.1 hl.2] at e
    refine absurd (of_decide_eq_true (List.all_eq_true.mp e c ?_)) h
    refine List.mem_of_getElem? (i := i - 1) ?_
    rw [List.getElem?_drop, show 1 + (i - 1) = i by omega]
    exact hc
theorem mkO_end {K : PySem.W.Frag} {C : Addr} {z : Str} {H : Hp} {E : XK} (hz : Tx 3000 z) (q : ∀ d H', Xt H H' → H' d = some (.xd [("name", .str z)]) → E (.ref C) (some d) H') :
    ∀ a, H a = none → spErrQ K C "name" (.ref a :: ([V.str z] ++ [])) (upd H a (exo a C none)) (fun v H2 => v = .non ∧ ∃ (d : Addr) (fs : List (Str × V)), H2 a = some (exo a C (some d)) ∧ H2 d = some (exd d fs) ∧ H d = none ∧ E (.ref C) (some d) (upd (del H2 a) d (.xd fs))) (fun _ _ _ => False) := by
  intro a ha
  refine ⟨a, .str z, rfl, upd_same, .inl (.inl ⟨z, rfl, hz.asc, Nat.le_trans hz.len (by decide)⟩), fun dx hdx hne => ⟨rfl, dx, [("name", .str z)], upd_same, ?_, ?_, ?_⟩⟩
  · rw [upd_ne hne, upd_same]
  · rw [upd_ne hne] at hdx; exact hdx
  · rw [upd_ne hne] at hdx
    refine q _ _ (fun b o hb => ?_) upd_same
    have h1 : b ≠ dx := fun e => by rw [e, hdx] at hb; cases hb
    have h2 : b ≠ a := fun e => by rw [e, ha] at hb; cases hb
    rw [upd_ne h1, del_ne h2, upd_ne h2, upd_ne h1, upd_ne h2]
    exact hb
theorem find_first {α : Type} {p : α → Bool} : ∀ {l : List α} {j : Nat} {x : α}, l[j]? = some x → p x = true → (∀ i y, i < j → l[i]? = some y → p y = false) → l.find? p = some x
  | [], j, x, h, _, _ => by cases h
  | y :: l, 0, x, h, hp, _ => by cases h; rw [List.find?_cons, hp]
  | y :: l, j + 1, x, h, hp, hf => by
    rw [List.find?_cons, hf 0 y (Nat.succ_pos _) rfl]
    exact find_first (l := l) (j := j) h hp fun i z hi hz => hf (i + 1) z (Nat.succ_lt_succ hi) hz
def rowS : PyData → PyData
  | .str z => .tuple [.str z, .tuple []]
  | d => d
def rowF : PyData → PyData
  | .tuple [.str z, .tuple as, s] => .tuple [.str z, .tuple (as ++ [s])]
  | d => d
def headS : PyData → Str
  | .tuple (.str z :: _) => z
  | _ => ""
def sndD : PyData → PyData
  | .tuple (_ :: d :: _) => d
  | d => d
def trdD : PyData → PyData
  | .tuple (_ :: _ :: d :: _) => d
  | d => d
theorem rows_map (x : Lex) : (x.S.map PyData.str).map rowS ++ (x.F.map fD).map rowF ++ x.P.map pD = x.rows.map pD := by
  unfold Lex.rows
  rw [List.map_append, List.map_append, List.map_map, List.map_map, List.map_map, List.map_map]
  congr 1
  congr 1
  apply List.map_congr_left
  intro r _
  show PyData.tuple [.str r.1, .tuple (r.2.1.map PyData.str ++ [.str r.2.2])] = PyData.tuple [.str r.1, .tuple ((r.2.1 ++ [r.2.2]).map PyData.str)]
  rw [List.map_append]; rfl
theorem args_map (x : Lex) : ((x.F.map fD ++ x.P.map pD).map fun d => (headS d, sndD d)) = argsTab x := by
  unfold argsTab
  rw [List.map_append, List.map_map, List.map_map]
  rfl
theorem sort_map (x : Lex) : ((x.P.map pD).map fun d => (headS d, PyData.str "truth")) ++ ((x.F.map fD).map fun d => (headS d, trdD d)) = sortTab x := by
  unfold sortTab
  rw [List.map_map, List.map_map]
  rfl
theorem putF_len (f : Str) (v : V) : ∀ fs : List (Str × V), (putF f v fs).length ≤ fs.length + 1
  | [] => by show 1 ≤ 1; omega
  | (g, x) :: r => by
    show (if g = f then (g, v) :: r else (g, x) :: putF f v r).length ≤ _
    have := putF_len f v r
    split <;> simp only [List.length_cons] <;> omega
def RowTx (r : Str × List Str) : Prop := Tx 3000 r.1 ∧ ∀ s ∈ r.2, Tx 3000 s
/-- a list or a tuple of these -/
def DS (K : PySem.W.Frag) (H : Hp) (v : V) (ds : List PyData) : Prop := Dp K H v (.list ds) ∨ Dp K H v (.tuple ds)
theorem DS.to {K : PySem.W.Frag} {H H' : Hp} {v : V} {ds : List PyData} (f : ∀ d, Dp K H v d → Dp K H' v d) (h : DS K H v ds) : DS K H' v ds := h.imp (f _) (f _)
theorem DS.mono {K : PySem.W.Frag} {H H' : Hp} {v : V} {ds : List PyData} (x : Xt H H') (h : DS K H v ds) : DS K H' v ds := h.to fun _ => Dp.mono x
theorem ds_tup {K : PySem.W.Frag} {H : Hp} {v : V} {ds : List PyData} {Q : VK} (h : DS K H v ds) (q : ∀ v H', Xt H H' → Dp K H' v (.tuple ds) → Q v H') : rTup K [v] H Q := by
  rcases h with h | h
  · exact d_tupl h q
  · exact d_tupt h (q _ _ (xrefl _) h)
theorem ds_seq {K : PySem.W.Frag} {H : Hp} {v : V} {ds : List PyData} {R : It → Hp → Prop} (h : DS K H v ds) (q : ∀ (xs : List V) (J : It) (G : Hp → Prop), Walk J xs.length G (YAt xs) → (∀ H', Xt H H' → G H') → DpAll K H xs ds → R J H) :
    ∃ a, v = .ref a ∧ (((∃ xs, SqL K H a xs) ∧ R (Itl K a) H) ∨ ((∃ xs, SqT K H a xs) ∧ R (Itt K a) H)) := by
  rcases h with h | h
  · obtain ⟨a, xs, rfl, hS, hd⟩ := Dp.lst_inv h
    exact ⟨a, rfl, .inl ⟨⟨_, hS⟩, q xs _ _ walk_list (fun H' x => xl x hS) hd⟩⟩
  · obtain ⟨a, xs, rfl, hS, hd⟩ := Dp.tup_inv h
    exact ⟨a, rfl, .inr ⟨⟨_, hS⟩, q xs _ _ walk_tup (fun H' x => xt x hS) hd⟩⟩
def namesTab (x : Lex) : List (Str × PyData) := x.rows.map fun r => (r.1, PyData.bool true)
theorem names_map (x : Lex) : ((x.rows.map pD).map fun d => (headS d, PyData.bool true)) = namesTab x := by
  unfold namesTab
  rw [List.map_map]; rfl
/-- a vocabulary stands at a, with all its fields -/
def VocX (K : PySem.W.Frag) (C : Addr) (H : Hp) (a : Addr) (x : Lex) : Prop := (∃ (dx : Addr) (fs : List (Str × V)) (s f p : V) (dN dA dS : Addr) (kN kA kS : List (Key × V)),
  H a = some (.ins C dx fs) ∧ (fs.lookup ("sorts" : Str) = some s ∧ Dp K H s (.tuple (x.S.map PyData.str))) ∧ (fs.lookup ("functions" : Str) = some f ∧ Dp K H f (.tuple (x.F.map fD))) ∧ (fs.lookup ("predicates" : Str) = some p ∧ Dp K H p (.tuple (x.P.map pD))) ∧
  (fs.lookup ("_names" : Str) = some (.ref dN) ∧ H dN = some (.dK kN) ∧ HasD K H kN (tabF (namesTab x))) ∧ (fs.lookup ("_argument_sorts" : Str) = some (.ref dA) ∧ H dA = some (.dK kA) ∧ HasD K H kA (tabF (argsTab x))) ∧
  (fs.lookup ("_value_sorts" : Str) = some (.ref dS) ∧ H dS = some (.dK kS) ∧ HasD K H kS (tabF (sortTab x))) ∧ ∀ m : Str, m ∈ (["arguments", "value_sort", "extended", "__contains__"] : List Str) → fs.lookup m = none)
structure RowsB (S : List Str) (rows : List (Str × List Str)) : Prop where
  le : rows.length ≤ 1000
  slen : S.length ≤ 1000
  wl : ∀ r ∈ rows, r.2.length ≤ 1000
  tx : ∀ r ∈ rows, RowTx r
theorem flat_strs {l : List Str} : (l.map V.str).all flatV = true := by
  rw [List.all_map]
  exact List.all_eq_true.mpr fun _ _ => rfl
theorem in_strs {K : PySem.W.Frag} {H : Hp} {Q : VK} {p : Addr} {z : Str} {l : List Str} (e : H p = some (.lst (l.map V.str))) (q : Q (.bl (decide (z ∈ l))) H) : rInV K (.str z) (.ref p) H Q := w_in_q (.inl (sql e)) rfl flat_strs (by rw [inV_str]; exact q)
theorem notin_strs {K : PySem.W.Frag} {H : Hp} {Q : VK} {p : Addr} {z : Str} {l : List Str} (e : SqL K H p (l.map V.str)) (q : Q (.bl (!decide (z ∈ l))) H) : rNotInV K (.str z) (.ref p) H Q := w_notin_q (.inl e) rfl flat_strs (by rw [inV_str]; exact q)
/-- a list that is known by itself -/
def LsAt (K : PySem.W.Frag) (H : Hp) (v : V) (ds : List PyData) : Prop := ∃ (a : Addr) (xs : List V), v = .ref a ∧ H a = some (.lst xs) ∧ DpAll K H xs ds
section
variable {P : Program} {K : PySem.W.Frag} {mg : Str → Option Value}
def sp__law_cell (_ : Top0 P K mg) : Sp := fun vs H Q _ => ∃ (l : Addr) (ns : List Int) (k : Int), vs = [.ref l, .int k] ∧ SqL K H l (ns.map V.int) ∧ ns.length ≤ 63 ∧ (0 ≤ k ∧ k ≤ 1000) ∧ ∀ v, Q (.int v) H
def sp__law_digits (_ : Top0 P K mg) : Sp := fun vs H Q _ => ∃ (c : Int) (a : Addr) (ss : List Int), vs = [.int c, .ref a] ∧ SqL K H a (ss.map V.int) ∧ ss.length ≤ 1000 ∧ (∀ x ∈ ss, 0 < x ∧ x < 1073741824) ∧ ∀ p H' ds, Xt H H' → H' p = some (.lst (ds.map V.int)) → DigOk ds ss → Q (.ref p) H'
def sp__has_form (_ : Top0 P K mg) : Sp := fun vs H Q _ => ∃ z : Str, vs = [.str z] ∧ z.length ≤ 3000 ∧ ∀ H', Xt H H' → Q (.bl (plainF z)) H'
def sp_is_name (_ : Top0 P K mg) : Sp := fun vs H Q _ => ∃ z : Str, vs = [.str z] ∧ z.length ≤ 3000 ∧ ∀ H', Xt H H' → Q (.bl (nameF z)) H'
def sp__law_is_name (_ : Top0 P K mg) : Sp := fun vs H Q _ => ∃ z : Str, vs = [.str z] ∧ z.length ≤ 3000 ∧ ∀ H', Xt H H' → Q (.bl (nameF z)) H'
def sp__law_near (_ : Top0 P K mg) : Sp := fun vs H Q _ => ∃ k : Int, vs = [.int k] ∧ (0 ≤ k ∧ k < 12) ∧ ∀ z H', Xt H H' → Tx 10 z → Q (.str z) H'
def sp__law_bad (_ : Top0 P K mg) : Sp := fun vs H Q _ => ∃ (t : Str) (n : Nat) (k : Int), vs = [.str t, .int k] ∧ Tx n t ∧ n ≤ 1400 ∧ (0 ≤ k ∧ k < 25) ∧ ∀ z H', Xt H H' → Tx (2 * n + 60) z → Q (.str z) H'
/-- the first fault: 1 a name, 2 a name that is taken, 3 a sort that is none -/
def chkF (S : List Str) : List (Str × List Str) → List Str → Option (Nat × Str)
  | [], _ => none
  | r :: rs, tk => if nameF r.1 = true then (if r.1 ∈ tk then some (2, r.1) else match r.2.find? (fun s => decide (s ∉ S)) with
      | some s => some (3, s)
      | none => chkF S rs (tk ++ [r.1])) else some (1, r.1)
theorem chkF_cons {S : List Str} {r : Str × List Str} {rs : List (Str × List Str)} {tk : List Str} : chkF S (r :: rs) tk = if nameF r.1 = true then (if r.1 ∈ tk then some (2, r.1) else match r.2.find? (fun s => decide (s ∉ S)) with
      | some s => some (3, s)
      | none => chkF S rs (tk ++ [r.1])) else some (1, r.1) := rfl
theorem chk_step {S : List Str} {R : List (Str × List Str)} {i : Nat} {r : Str × List Str} {t : List Str} (h : R[i]? = some r) : chkF S (R.drop i) t = if nameF r.1 = true then (if r.1 ∈ t then some (2, r.1) else match r.2.find? (fun s => decide (s ∉ S)) with
      | some s => some (3, s)
      | none => chkF S (R.drop (i + 1)) (t ++ [r.1])) else some (1, r.1) := by
  have hi := (List.getElem?_eq_some_iff.mp h).1
  rw [List.drop_eq_getElem_cons hi, chkF_cons, (List.getElem?_eq_some_iff.mp h).2]
theorem take_step {R : List (Str × List Str)} {i : Nat} {r : Str × List Str} (h : R[i]? = some r) : (R.take (i + 1)).map (·.1) = (R.take i).map (·.1) ++ [r.1] := by
  rw [List.take_add_one, h, List.map_append]; rfl
def dueV (x : Lex) : List V := match chkF x.S x.rows [] with
  | none => [.int 0, .str ""]
  | some (k, z) => [.int k, .str z]
/-- an item of the law: the name, the argument sorts, what stands behind them -/
def iD (t : Str × List Str × List Str) : PyData := .tuple (.str t.1 :: .tuple (t.2.1.map PyData.str) :: t.2.2.map PyData.str)
theorem iD_cut {a b : PyData} {l : List PyData} : cutP (a :: b :: l) (some 2) none = l := by
  have e1 : HT.sIx (a :: b :: l).length 0 (some 2) = 2 := by
    have h : HT.sIx (a :: b :: l).length 0 (some 2) = min 2 (a :: b :: l).length := HT.sIx_nat _ 0 2
    rw [h, List.length_cons, List.length_cons]; omega
  unfold cutP
  rw [e1, HT.sIx_none]
  show l.take (l.length + 2 - 2) = l
  rw [Nat.add_sub_cancel, List.take_length]
def itemsOf (x : Lex) : List (Str × List Str × List Str) := x.F.map (fun r => (r.1, r.2.1, [r.2.2])) ++ x.P.map (fun r => (r.1, r.2, []))
theorem items_map (x : Lex) : (itemsOf x).map iD = x.F.map fD ++ x.P.map pD := by
  unfold itemsOf
  rw [List.map_append, List.map_map, List.map_map]; rfl
theorem rows_items (x : Lex) : x.rows = x.S.map (fun s => (s, [])) ++ (itemsOf x).map (fun t => (t.1, t.2.1 ++ t.2.2)) := by
  unfold itemsOf Lex.rows
  rw [List.map_append, List.map_map, List.map_map, List.append_assoc]
  congr 2
  · refine (List.map_id' x.P).symm.trans (List.map_congr_left fun r _ => ?_)
    show r = (r.1, r.2 ++ [])
    rw [List.append_nil]
def errC (T : Top0 P K mg) (k : Nat) : Addr := if k = 1 then T.C_BadName else if k = 2 then T.C_NameTaken else T.C_NoSort
def sp__check_rows (T : Top0 P K mg) : Sp := fun vs H Q E => ∃ (v s : V) (S : List Str) (rows : List (Str × List Str)), vs = [v, s] ∧ Dp K H v (.list (rows.map pD)) ∧ Dp K H s (.tuple (S.map PyData.str)) ∧ (∀ r ∈ rows, RowTx r) ∧ rows.length ≤ 1000 ∧
  (chkF S rows [] = none → ∀ H', Xt H H' → Q .non H') ∧ (∀ k z, chkF S rows [] = some (k, z) → ∀ d H', Xt H H' → H' d = some (.xd [("name", .str z)]) → E (.ref (errC T k)) (some d) H')
def sp_Vocabulary___init__ (T : Top0 P K mg) : Sp := fun vs H Q E => ∃ (a dx : Addr) (v1 v2 v3 : V) (x : Lex), vs = [.ref a, v1, v2, v3] ∧ H a = some (.ins T.C_Vocabulary dx []) ∧ DS K H v1 (x.S.map PyData.str) ∧ DS K H v2 (x.F.map fD) ∧ DS K H v3 (x.P.map pD) ∧ RowsB x.S x.rows ∧
  (chkF x.S x.rows [] = none → ∀ H', Xa a H H' → VocX K T.C_Vocabulary H' a x → Q .non H') ∧ (∀ k z, chkF x.S x.rows [] = some (k, z) → ∀ d H', Xa a H H' → H' d = some (.xd [("name", .str z)]) → E (.ref (errC T k)) (some d) H')
def sp_Vocabulary___contains__ (T : Top0 P K mg) : Sp := fun vs H Q _ => ∃ (a : Addr) (z : Str) (x : Lex), vs = [.ref a, .str z] ∧ VocX K T.C_Vocabulary H a x ∧ Q (.bl (decide (z ∈ x.rows.map (·.1)))) H
def sp_Vocabulary_arguments (T : Top0 P K mg) : Sp := fun vs H Q _ => ∃ (a : Addr) (z : Str) (x : Lex), vs = [.ref a, .str z] ∧ VocX K T.C_Vocabulary H a x ∧ ∀ v, Dp K H v ((tabF (argsTab x) z).getD .none) → Q v H
def sp_Vocabulary_value_sort (T : Top0 P K mg) : Sp := fun vs H Q _ => ∃ (a : Addr) (z : Str) (x : Lex), vs = [.ref a, .str z] ∧ VocX K T.C_Vocabulary H a x ∧ ∀ v, Dp K H v ((tabF (sortTab x) z).getD .none) → Q v H
def sp_Vocabulary_extended (T : Top0 P K mg) : Sp := fun vs H Q E => ∃ (a : Addr) (v : V) (x : Lex) (G : List (Str × List Str × Str)), vs = [.ref a, v] ∧ VocX K T.C_Vocabulary H a x ∧ DS K H v (G.map fD) ∧ RowsB x.S (Lex.rows ⟨x.S, x.F ++ G, x.P⟩) ∧
  (chkF x.S (Lex.rows ⟨x.S, x.F ++ G, x.P⟩) [] = none → ∀ b H', Xt H H' → VocX K T.C_Vocabulary H' b ⟨x.S, x.F ++ G, x.P⟩ → Q (.ref b) H') ∧ (∀ k z, chkF x.S (Lex.rows ⟨x.S, x.F ++ G, x.P⟩) [] = some (k, z) → ∀ d H', Xt H H' → H' d = some (.xd [("name", .str z)]) → E (.ref (errC T k)) (some d) H')
def sp__law_due (T : Top0 P K mg) : Sp := fun vs H Q _ => ∃ (v1 v2 v3 : V) (x : Lex), vs = [v1, v2, v3] ∧ Dp K H v1 (.list (x.S.map PyData.str)) ∧ LsAt K H v2 (x.F.map fD) ∧ LsAt K H v3 (x.P.map pD) ∧ RowsB x.S x.rows ∧
  ∀ p H', Xt H H' → H' p = some (.lst (dueV x)) → Q (.ref p) H'
def sp__law_raised (T : Top0 P K mg) : Sp := fun vs H Q _ => ∃ (v1 v2 v3 : V) (x : Lex), vs = [v1, v2, v3] ∧ DS K H v1 (x.S.map PyData.str) ∧ DS K H v2 (x.F.map fD) ∧ DS K H v3 (x.P.map pD) ∧ RowsB x.S x.rows ∧
  ∀ p H', Xt H H' → H' p = some (.lst (dueV x)) → Q (.ref p) H'
def sp__law_raised_extended (T : Top0 P K mg) : Sp := fun vs H Q _ => ∃ (a : Addr) (v : V) (x : Lex) (G : List (Str × List Str × Str)), vs = [.ref a, v] ∧ VocX K T.C_Vocabulary H a x ∧ DS K H v (G.map fD) ∧ RowsB x.S (Lex.rows ⟨x.S, x.F ++ G, x.P⟩) ∧
  ∀ p H', Xt H H' → H' p = some (.lst (dueV ⟨x.S, x.F ++ G, x.P⟩)) → Q (.ref p) H'
theorem chk_range {S : List Str} : ∀ {R : List (Str × List Str)} {t : List Str} {k : Nat} {z : Str}, chkF S R t = some (k, z) → k = 1 ∨ k = 2 ∨ k = 3
  | [], _, _, _, h => by cases h
  | r :: R, t, k, z, h => by
    rw [chkF_cons] at h
    split at h
    · split at h
      · cases h; exact .inr (.inl rfl)
      · split at h
        · cases h; exact .inr (.inr rfl)
        · exact chk_range h
    · cases h; exact .inl rfl
def KL (T : Top0 P K mg) : List Addr := [T.C_BadName, T.C_NameTaken, T.C_NoSort, T.C_ReservedName, T.C_NotSentence, T.C_NoAxiom, T.C_BadTable, T.C_BadWeight]
theorem kit_of (T : Top0 P K mg) : kitB K (KL T) T.C_ClaimError T.C_TextError = true := by
  have h := T.kit
  unfold kitN at h
  rw [addrOf_eq T.a_ClaimError, addrOf_eq T.E_TextError.a] at h
  have e : (["BadName", "NameTaken", "NoSort", "ReservedName", "NotSentence", "NoAxiom", "BadTable", "BadWeight"] : List Str).map (addrOf K) = KL T := by
    simp only [List.map_cons, List.map_nil]
    rw [addrOf_eq T.E_BadName.a, addrOf_eq T.E_NameTaken.a, addrOf_eq T.E_NoSort.a, addrOf_eq T.E_ReservedName.a, addrOf_eq T.E_NotSentence.a, addrOf_eq T.E_NoAxiom.a, addrOf_eq T.E_BadTable.a, addrOf_eq T.E_BadWeight.a]
    rfl
  rw [e] at h
  exact h
theorem err_at (T : Top0 P K mg) {k : Nat} (hk : k = 1 ∨ k = 2 ∨ k = 3) : (KL T)[k - 1]? = some (errC T k) ∧ ExcC K (errC T k) ∧ PySem.W.exmOne K (.ref (errC T k)) (.ref T.C_ClaimError) = some true := by
  have h := T.exm
  unfold exmN at h
  simp only [List.all_cons, List.all_nil, Bool.and_true, Bool.and_eq_true, decide_eq_true_eq] at h
  rw [addrOf_eq T.a_ClaimError, addrOf_eq T.E_BadName.a, addrOf_eq T.E_NameTaken.a, addrOf_eq T.E_NoSort.a] at h
  rcases hk with rfl | rfl | rfl
  · exact ⟨rfl, T.xc_BadName, h.1⟩
  · exact ⟨rfl, T.E_NameTaken.xc, h.2.1⟩
  · exact ⟨rfl, T.xc_NoSort, h.2.2⟩
theorem is_at (T : Top0 P K mg) {k : Nat} (hk : k = 1 ∨ k = 2 ∨ k = 3) {i : Nat} {Ci a d : Addr} {fs : List (Str × V)} {H : Hp} {Q : VK} (hi : (KL T)[i]? = some Ci) (e : H d = some (.xd fs)) (q : Q (.bl (k - 1 == i)) H) : rIsS K a (.ref (errC T k)) (some d) [.ref a, .ref Ci] H Q :=
  ⟨errC T k, .ref Ci, .ref Ci, _, rfl, rfl, .inr ⟨d, fs, rfl, e⟩, (err_at T hk).2.1, fun u r => by cases r; rfl, (kit_at (kit_of T) (err_at T hk).1).1 i _ hi, q⟩
theorem is_te (T : Top0 P K mg) {k : Nat} (hk : k = 1 ∨ k = 2 ∨ k = 3) {a d : Addr} {fs : List (Str × V)} {H : Hp} {Q : VK} (e : H d = some (.xd fs)) (q : Q (.bl false) H) : rIsS K a (.ref (errC T k)) (some d) [.ref a, .ref T.C_TextError] H Q := by
  refine ⟨errC T k, .ref T.C_TextError, .ref T.C_TextError, _, rfl, rfl, .inr ⟨d, fs, rfl, e⟩, (err_at T hk).2.1, fun u r => by cases r; rfl, (kit_at (kit_of T) (err_at T hk).1).2.2.2, ?_⟩
  rcases hk with rfl | rfl | rfl <;> exact q
theorem is_ve (T : Top0 P K mg) {k : Nat} (hk : k = 1 ∨ k = 2 ∨ k = 3) {a d : Addr} {fs : List (Str × V)} {H : Hp} {Q : VK} (e : H d = some (.xd fs)) (q : Q (.bl true) H) : rIsS K a (.ref (errC T k)) (some d) [.ref a, .ty "ValueError"] H Q :=
  ⟨errC T k, .ty "ValueError", .type "ValueError", _, rfl, rfl, .inr ⟨d, fs, rfl, e⟩, (err_at T hk).2.1, fun u r => by cases r; rfl, (kit_at (kit_of T) (err_at T hk).1).2.2.1, q⟩
def kindsV (k : Nat) : List V := [.bl (k - 1 == 0), .bl (k - 1 == 1), .bl (k - 1 == 2), .bl (k - 1 == 3)] ++ [.bl (k - 1 == 4), .bl (k - 1 == 5), .bl (k - 1 == 6)] ++ [.bl (k - 1 == 7), .bl false, .bl !true]
theorem kinds_cnt {k : Nat} (hk : k = 1 ∨ k = 2 ∨ k = 3) : ((kindsV k).countP fun z => eqV z (.bl true)) = 1 := by rcases hk with rfl | rfl | rfl <;> decide +kernel
theorem kinds_flat {k : Nat} : (kindsV k).all flatV = true := rfl
theorem v_cnt {H : Hp} {Q : VK} {k : Nat} {p : Addr} (hk : k = 1 ∨ k = 2 ∨ k = 3) (e : H p = some (.lst (kindsV k))) (q : Q (.int 1) H) : rCntF K (.ref p) [.bl true] H Q := by
  refine ⟨p, kindsV k, .bl true, rfl, rfl, sql e, rfl, kinds_flat, ?_⟩
  rw [kinds_cnt hk]; exact q
theorem v_kidx {H : Hp} {Q : VK} {k : Nat} {p : Addr} (hk : k = 1 ∨ k = 2 ∨ k = 3) (e : H p = some (.lst (kindsV k))) (q : Q (.int ((k - 1 : Nat) : Int)) H) : rIndex K (.ref p) [.bl true] H Q := by
  refine ⟨p, kindsV k, .bl true, k - 1, .bl true, rfl, rfl, sql e, rfl, kinds_flat, ?_, rfl, ?_, q⟩
  · rcases hk with rfl | rfl | rfl <;> rfl
  · intro m z' hm hz
    rcases hk with rfl | rfl | rfl
    · omega
    · obtain rfl : m = 0 := by omega
      cases hz; rfl
    · obtain rfl | rfl : m = 0 ∨ m = 1 := by omega
      · cases hz; rfl
      · cases hz; rfl
theorem err_nm (T : Top0 P K mg) {k : Nat} (hk : k = 1 ∨ k = 2 ∨ k = 3) : XfC K (errC T k) ∧ PySem.W.findIn K (.ref (errC T k)) "name" = some none := by
  rcases hk with rfl | rfl | rfl
  · exact ⟨T.E_BadName.xf, T.E_BadName.no⟩
  · exact ⟨T.E_NameTaken.xf, T.E_NameTaken.no⟩
  · exact ⟨T.E_NoSort.xf, T.E_NoSort.no⟩
theorem letter_at {d : Int} (h0 : 0 ≤ d) (h1 : d < 36) : ∃ c, atI smallS.cps.toList d = some c ∧ c < 128 := by
  obtain ⟨c, e1, e2⟩ := atI_ok (l := smallS.cps.toList) h0 (by rw [smallS_len]; omega)
  exact ⟨c, e1, (by decide +kernel : ∀ c ∈ smallS.cps.toList, c < 128) c (List.mem_of_getElem? e2)⟩
theorem ss36 : ∀ i : Nat, i < 7 → ([8, 26, 36, 36, 36, 36, 36, 36, 36] : List Int)[2 + i]? = some 36 := by decide
/-- what the names are alike to: nothing, or a text and a place in it -/
def AlikeAt (K : PySem.W.Frag) (H : Hp) (v : V) : Prop := v = .non ∨ ∃ (ap : Addr) (t : Str) (pos : Int), v = .ref ap ∧ SqL K H ap [.str t, .int pos] ∧ Tx 8 t ∧ 3 ≤ t.length ∧ 0 ≤ pos ∧ pos < t.length
def sp__law_name (T : Top0 P K mg) : Sp := fun vs H Q _ => ∃ (v : V) (k : Int) (rp : Addr) (ds : List Int), vs = [v, .int k, .ref rp] ∧ SqL K H rp (ds.map V.int) ∧ DigOk ds [8, 26, 36, 36, 36, 36, 36, 36, 36] ∧ (0 ≤ k ∧ k ≤ 100) ∧ AlikeAt K H v ∧ ∀ z H', Xt H H' → Tx 20 z → Q (.str z) H'
end
end K00

set_option Elab.async false
set_option linter.all false
set_option maxRecDepth 100000
set_option maxHeartbeats 2000000
namespace K00
open PySem PySem.Spec PyProof.Rows L2 NdefX CW RZ
open PySem.W (fnX)
/-! rows in the making -/
def RwOk (n : Nat) (H : Hp) (a : Addr) : Prop := ∃ (k : Int) (t : Str) (pa : Addr) (pl : List Str) (v : Str), H a = some (.lst [.int k, .str t, .ref pa, .str v]) ∧ H pa = some (.lst (pl.map V.str)) ∧ pl.length ≤ 3 ∧ Tx n t ∧ (∀ s ∈ pl, Tx n s) ∧ Tx n v
def RwsOk (n : Nat) (H : Hp) (as : List Addr) : Prop := ∀ a ∈ as, RwOk n H a
def Xs (as : List Addr) (H H' : Hp) : Prop := ∀ b o, b ∉ as → H b = some o → H' b = some o
theorem Xs.refl {as : List Addr} {H : Hp} : Xs as H H := fun _ _ _ h => h
theorem Xs.tr {as : List Addr} {H H1 H2 : Hp} (a : Xs as H H1) (b : Xs as H1 H2) : Xs as H H2 := fun x o n h => b x o n (a x o n h)
theorem Xs.of {as : List Addr} {H H1 : Hp} (a : Xt H H1) : Xs as H H1 := fun x o _ h => a x o h
theorem Xs.sub {as bs : List Addr} {H H1 : Hp} (h : ∀ a ∈ as, a ∈ bs) (a : Xs as H H1) : Xs bs H H1 := fun x o n e => a x o (fun m => n (h x m)) e
theorem RwOk.mono {n : Nat} {H H' : Hp} {a : Addr} (x : Xt H H') (h : RwOk n H a) : RwOk n H' a := by
  obtain ⟨k, t, pa, pl, v, e1, e2, r⟩ := h
  exact ⟨k, t, pa, pl, v, x _ _ e1, x _ _ e2, r⟩
theorem RwOk.le {n m : Nat} {H : Hp} {a : Addr} (hm : n ≤ m) (h : RwOk n H a) : RwOk m H a := by
  obtain ⟨k, t, pa, pl, v, e1, e2, l, h1, h2, h3⟩ := h
  exact ⟨k, t, pa, pl, v, e1, e2, l, h1.le hm, fun s hs => (h2 s hs).le hm, h3.le hm⟩
theorem RwsOk.mono {n : Nat} {H H' : Hp} {as : List Addr} (x : Xt H H') (h : RwsOk n H as) : RwsOk n H' as := fun a ha => (h a ha).mono x
theorem RwsOk.le {n m : Nat} {H : Hp} {as : List Addr} (hm : n ≤ m) (h : RwsOk n H as) : RwsOk m H as := fun a ha => (h a ha).le hm
theorem pl_ne {H : Hp} {a pa : Addr} {pl : List Str} {k : Int} {r : List V} (h : H pa = some (.lst (pl.map V.str))) (e : H a = some (.lst (.int k :: r))) : pa ≠ a := fun h2 => by
  subst h2
  rw [h] at e
  cases pl with
  | nil => simp at e
  | cons z l => simp at e
theorem rf_ne {H : Hp} {a pa : Addr} {pl : List Addr} {k : Int} {r : List V} (h : H pa = some (.lst (pl.map V.ref))) (e : H a = some (.lst (.int k :: r))) : pa ≠ a := fun h2 => by
  subst h2
  rw [h] at e
  cases pl with
  | nil => simp at e
  | cons z l => simp at e
/-- a row is written -/
theorem row_upd {n : Nat} {H : Hp} {as : List Addr} {a pa : Addr} {k k2 : Int} {r : List V} {t v : Str} {pl : List Str} (hr : RwsOk n H as) (ha : a ∈ as) (e : H a = some (.lst (.int k :: r))) (epa : H pa = some (.lst (pl.map V.str))) (hl : pl.length ≤ 3) (h1 : Tx n t) (h2 : ∀ s ∈ pl, Tx n s) (h3 : Tx n v) :
    RwsOk n (upd H a (.lst [.int k2, .str t, .ref pa, .str v])) as ∧ Xs as H (upd H a (.lst [.int k2, .str t, .ref pa, .str v])) := by
  refine ⟨fun b hb => ?_, fun b o nb hb => by rw [upd_ne (fun q : b = a => nb (by rw [q]; exact ha))]; exact hb⟩
  by_cases hba : b = a
  · subst hba
    exact ⟨k2, t, pa, pl, v, upd_same, by rw [upd_ne (pl_ne epa e)]; exact epa, hl, h1, h2, h3⟩
  · obtain ⟨kb, tb, pb, plb, vb, e1, e2, r2⟩ := hr b hb
    exact ⟨kb, tb, pb, plb, vb, by rw [upd_ne hba]; exact e1, by rw [upd_ne (pl_ne e2 e)]; exact e2, r2⟩
theorem xs_ints {K : PySem.W.Frag} {n : Nat} {H H' : Hp} {as : List Addr} {l : Addr} {ns : List Int} (hr : RwsOk n H as) (e : Xs as H H') (h : SqL K H l (ns.map V.int)) : SqL K H' l (ns.map V.int) := by
  rcases h with (h | ⟨o, h⟩) | h
  · refine .inl (.inl (e _ _ (fun m => ?_) h))
    obtain ⟨k, t, pa, pl, v, e1, _⟩ := hr _ m
    rw [e1] at h
    have h := Option.some.inj h
    injection h with h
    cases ns with
    | nil => cases h
    | cons z l => cases l <;> simp at h
  · refine .inl (.inr ⟨o, e _ _ (fun m => ?_) h⟩)
    obtain ⟨k, t, pa, pl, v, e1, _⟩ := hr _ m
    rw [e1] at h; cases h
  · exact .inr h
theorem xs_refs {n : Nat} {H H' : Hp} {as bs : List Addr} {l : Addr} (hr : RwsOk n H as) (e : Xs as H H') (h : H l = some (.lst (bs.map V.ref))) : H' l = some (.lst (bs.map V.ref)) := by
  refine e _ _ (fun m => ?_) h
  obtain ⟨k, t, pa, pl, v, e1, _⟩ := hr _ m
  exact rf_ne h e1 rfl
theorem xs_strs {n : Nat} {H H' : Hp} {as : List Addr} {l : Addr} {bs : List Str} (hr : RwsOk n H as) (e : Xs as H H') (h : H l = some (.lst (bs.map V.str))) : H' l = some (.lst (bs.map V.str)) := by
  refine e _ _ (fun m => ?_) h
  obtain ⟨k, t, pa, pl, v, e1, _⟩ := hr _ m
  exact pl_ne h e1 rfl
def kindH (H : Hp) : V → V
  | .ref b => match H b with
    | some (.lst (k :: _)) => k
    | _ => .non
  | _ => .non
theorem kindH_eq {H : Hp} {b : Addr} {k : V} {r : List V} (h : H b = some (.lst (k :: r))) : kindH H (.ref b) = k := by
  unfold kindH
  simp only [h]
section
variable {K : PySem.W.Frag} {σ : L2.St} {H : Hp} {Q : VK} {te : TE} {vs : List Nat} {j : Nat} {tt : TT} {D : Ends}
/-- a comprehension with a test over a list -/
theorem b_lstF {a : Addr} {xs : List V} (f : V → Bool) (Pr : V → Prop) (hs : SqL K H a xs) (hn : xs.length < 100000) (hw : ∀ x, wipe ((wipe σ vs).set j (some x)) vs = wipe σ vs)
    (test : ∀ x H', x ∈ xs → Xt H H' → ∀ R : Bool → Hp → Prop, R (f x) H' → tt ((wipe σ vs).set j (some x)) H' R)
    (body : ∀ x H', x ∈ xs → Xt H H' → ∀ R : VK, (∀ y H2, Xt H' H2 → Pr y → R y H2) → te ((wipe σ vs).set j (some x)) H' R)
    (k : ∀ Dl ys H2, H Dl = none → ys.length = (xs.filter f).length → (∀ y ∈ ys, Pr y) → Xt H H2 → H2 Dl = some (.lst ys) → Q (.ref Dl) H2) : LcB (Itl K a) (gName j) tt te vs σ Q H := fun Dl hD => by
  refine lc_it walk_list (g := gName j) (tt := tt) (te := te) (σ := σ) (vs := vs) (fun i H' => Xt H H' ∧ ∃ ys : List V, H' Dl = some (.lst ys) ∧ ys.length = ((xs.take i).filter f).length ∧ ∀ y ∈ ys, Pr y) ⟨xnew hD, [], upd_same, by rw [List.take_zero]; rfl, fun y hy => by cases hy⟩ (fun i H' _ w => xl w.1 hs) (fun i x H' H2 hi w hy => ?_) (fun H' w => ?_)
  · obtain ⟨rfl, hxi⟩ := hy
    obtain ⟨hx, ys, e, hl, hp⟩ := w
    have hmem : x ∈ xs := List.mem_of_getElem? hxi
    have et : xs.take (i + 1) = xs.take i ++ [x] := by rw [List.take_add_one, hxi]; rfl
    have hfl : ((xs.take i).filter f).length ≤ xs.length := Nat.le_trans (List.length_filter_le _ _) (by rw [List.length_take]; omega)
    refine ⟨hw _, test x H2 hmem hx _ ?_⟩
    cases hf : f x with
    | true =>
      refine iteT (body x H2 hmem hx _ fun y H4 x4 hy => ⟨ys, x4 _ _ e, szlt (by omega), xmut (xtr hx x4) hD, ys ++ [y], upd_same, ?_, ?_⟩)
      · rw [et, List.filter_append, List.length_append, List.length_append, hl]
        have : [x].filter f = [x] := by rw [List.filter_cons, if_pos hf]; rfl
        rw [this]; rfl
      · intro z hz
        rcases List.mem_append.mp hz with hz | hz
        · exact hp z hz
        · obtain rfl := List.mem_singleton.mp hz; exact hy
    | false =>
      refine iteF ⟨hx, ys, e, ?_, hp⟩
      rw [et, List.filter_append, List.length_append, hl]
      have : [x].filter f = [] := by rw [List.filter_cons, if_neg (by rw [hf]; decide)]; rfl
      rw [this]; rfl
  · obtain ⟨hx, ys, e, hl, hp⟩ := w
    rw [List.take_of_length_le (Nat.le_refl _)] at hl
    exact k Dl ys H' hD hl hp hx e
theorem k_gsub {to ti : TE} {t : TSet} {v : V} {R : L2.St → Hp → Prop} (h : to σ H fun o H1 => ti σ H1 fun i H2 => t o i v H2 fun H3 => R σ H3) : gSub to ti t v σ H R := h
theorem v_setl {p : Addr} {xs : List V} {m : Int} {i : Nat} {v : V} {R : Hp → Prop} (e : H p = some (.lst xs)) (hi : ixN xs.length m = some i) (q : R (upd H p (.lst (xs.set i v)))) : rSetL (.ref p) (.int m) v H R := ⟨p, xs, m, i, rfl, rfl, e, hi, q⟩
end
def W36 : List Int := [8, 12, 12, 12, 12, 8, 26, 36, 36, 36, 36, 36, 36, 36]
section
variable {P : Program} {K : PySem.W.Frag} {mg : Str → Option Value}
def sp__law_rows (_ : Top0 P K mg) : Sp := fun vs H Q _ => ∃ (l cp : Addr) (ns : List Int) (cs : List Int) (v : V), vs = [.ref l, .ref cp, v] ∧ SqL K H l (ns.map V.int) ∧ ns.length ≤ 63 ∧ SqL K H cp (cs.map V.int) ∧ (cs.length = 4 ∧ ∀ c ∈ cs, 0 ≤ c ∧ c ≤ 10) ∧ AlikeAt K H v ∧
  ∀ p as H', Xt H H' → H' p = some (.lst (as.map V.ref)) → (as.length : Int) = cs.sum → RwsOk 20 H' as → Q (.ref p) H'
def sp__law_spoil (_ : Top0 P K mg) : Sp := fun vs H Q _ => ∃ (rl : Addr) (as : List Addr) (c : Int) (n : Nat), vs = [.ref rl, .int c] ∧ H rl = some (.lst (as.map V.ref)) ∧ as ≠ [] ∧ as.length ≤ 1000 ∧ RwsOk n H as ∧ n ≤ 1400 ∧
  ∀ H', Xs as H H' → RwsOk (2 * n + 60) H' as → Q .non H'
def sp__law_spoil_sorts (_ : Top0 P K mg) : Sp := fun vs H Q _ => ∃ (l rl : Addr) (ns : List Int) (as : List Addr) (t : Int), vs = [.ref l, .ref rl, .int t] ∧ SqL K H l (ns.map V.int) ∧ ns.length ≤ 63 ∧ H rl = some (.lst (as.map V.ref)) ∧ as ≠ [] ∧ as.length ≤ 1000 ∧ RwsOk 20 H as ∧ (-10 ≤ t ∧ t ≤ 5) ∧
  ∀ H', Xs as H H' → RwsOk 2500 H' as → Q .non H'
def sp__law_spoil_behind (_ : Top0 P K mg) : Sp := fun vs H Q _ => ∃ (rl : Addr) (as : List Addr) (c : Int), vs = [.ref rl, .int c] ∧ H rl = some (.lst (as.map V.ref)) ∧ as.length ≤ 1000 ∧ RwsOk 20 H as ∧
  ∀ H', Xs as H H' → RwsOk 2500 H' as → Q .non H'
def sp__law_fits (T : Top0 P K mg) : Sp := fun vs H Q _ => ∃ (a : Addr) (v1 v2 v3 : V) (pp : Addr) (x : Lex) (zs : List Str), vs = [.ref a, v1, v2, v3, .ref pp] ∧ VocX K T.C_Vocabulary H a x ∧ LsAt K H v1 (x.S.map PyData.str) ∧ LsAt K H v2 (x.F.map fD) ∧ LsAt K H v3 (x.P.map pD) ∧ H pp = some (.lst (zs.map V.str)) ∧ zs.length ≤ 1000 ∧ RowsB x.S x.rows ∧ chkF x.S x.rows [] = none ∧
  ∀ H', Xt H H' → Q (.bl true) H'
def sp_law (_ : Top0 P K mg) : Sp := fun vs H Q _ => ∃ (l : Addr) (ns : List Int), vs = [.ref l] ∧ SqL K H l (ns.map V.int) ∧ ns.length ≤ 63 ∧ ∀ H', Q (.bl true) H'
end
theorem at_refs {as : List Addr} {i : Int} (h0 : 0 ≤ i) (h1 : i < ((as.map V.ref).length : Int)) : ∃ a ∈ as, atI (as.map V.ref) i = some (.ref a) := by
  obtain ⟨v, e1, e2⟩ := atI_ok h0 h1
  rw [List.getElem?_map] at e2
  cases h : as[i.toNat]? with
  | none => rw [h] at e2; cases e2
  | some a =>
    rw [h] at e2
    cases e2
    exact ⟨a, List.mem_of_getElem? h, e1⟩
theorem at_pr {ys : List V} {Pr : V → Prop} {i : Int} (h : ∀ y ∈ ys, Pr y) (h0 : 0 ≤ i) (h1 : i < (ys.length : Int)) : ∃ y, Pr y ∧ atI ys i = some y := by
  obtain ⟨v, e1, e2⟩ := atI_ok h0 h1
  exact ⟨v, h v (List.mem_of_getElem? e2), e1⟩
/-- the state in the spoiling of a row -/
def SpMid (K : PySem.W.Frag) (as : List Addr) (H : Hp) (rl a q b p : Addr) (c : Int) (z : Str) (ds : List Int) (m : Nat) : L2.St → Hp → Prop := fun σ' H' => ∃ y7, σ' = [some (.ref rl), some (.int c), some (.ref p), some (.ref a), some (.ref q), some (.ref b), some (.str z), y7, none, none] ∧ Xs as H H' ∧ RwsOk m H' as ∧ SqL K H' p (ds.map V.int)
theorem spmid_upd {K : PySem.W.Frag} {as : List Addr} {H H' : Hp} {rl a q b p : Addr} {c : Int} {z : Str} {ds : List Int} {m : Nat} {y7 : Option V} {pa : Addr} {k k2 : Int} {r : List V} {t v : Str} {pl : List Str}
    (hx : Xs as H H') (hr : RwsOk m H' as) (hp : SqL K H' p (ds.map V.int)) (ha : a ∈ as) (e : H' a = some (.lst (.int k :: r))) (epa : H' pa = some (.lst (pl.map V.str))) (hl : pl.length ≤ 3) (h1 : Tx m t) (h2 : ∀ s ∈ pl, Tx m s) (h3 : Tx m v) :
    SpMid K as H rl a q b p c z ds m [some (.ref rl), some (.int c), some (.ref p), some (.ref a), some (.ref q), some (.ref b), some (.str z), y7, none, none] (upd H' a (.lst [.int k2, .str t, .ref pa, .str v])) := by
  obtain ⟨u1, u2⟩ := row_upd (k2 := k2) hr ha e epa hl h1 h2 h3
  exact ⟨y7, rfl, hx.tr u2, u1, xs_ints hr u2 hp⟩
theorem cut_strs (pl : List Str) (lo hi : Option Int) : ∃ ql : List Str, cutV (pl.map V.str) lo hi = ql.map V.str ∧ ql.length ≤ pl.length ∧ ∀ s ∈ ql, s ∈ pl := by
  refine ⟨(pl.drop (HT.sIx (pl.map V.str).length 0 lo)).take (HT.sIx (pl.map V.str).length (pl.map V.str).length hi - HT.sIx (pl.map V.str).length 0 lo), ?_, ?_, fun s hs => List.mem_of_mem_drop (List.mem_of_mem_take hs)⟩
  · show (List.drop _ _).take _ = _
    rw [List.map_take, List.map_drop]
  · rw [List.length_take, List.length_drop]; omega
theorem cut_to (pl : List Str) {i : Int} (h0 : 0 ≤ i) (h1 : i ≤ pl.length) : ∃ ql : List Str, cutV (pl.map V.str) none (some i) = ql.map V.str ∧ ql.length = i.toNat ∧ ∀ s ∈ ql, s ∈ pl := by
  obtain ⟨j, rfl⟩ : ∃ j : Nat, i = (j : Int) := ⟨i.toNat, by omega⟩
  refine ⟨pl.take j, ?_, by rw [List.length_take]; omega, fun s hs => List.mem_of_mem_take hs⟩
  show (List.drop (HT.sIx _ 0 none) _).take (HT.sIx _ _ (some (j : Int)) - _) = _
  rw [HT.sIx_none, HT.sIx_nat, List.drop_zero, List.length_map, List.map_take]
  congr 1; omega
theorem cut_fr (pl : List Str) {i : Int} (h0 : 0 ≤ i) (h1 : i ≤ pl.length) : ∃ ql : List Str, cutV (pl.map V.str) (some i) none = ql.map V.str ∧ ql.length = pl.length - i.toNat ∧ ∀ s ∈ ql, s ∈ pl := by
  obtain ⟨j, rfl⟩ : ∃ j : Nat, i = (j : Int) := ⟨i.toNat, by omega⟩
  refine ⟨pl.drop j, ?_, by rw [List.length_drop]; omega, fun s hs => List.mem_of_mem_drop hs⟩
  show (List.drop (HT.sIx _ 0 (some (j : Int))) _).take (HT.sIx _ _ none - _) = _
  rw [HT.sIx_none, HT.sIx_nat, List.length_map, List.map_drop, List.take_of_length_le (by rw [List.length_drop, List.length_map]; omega)]
  congr 1; omega
@[irreducible] def Hid (A : Prop) : Prop := A
theorem Hid.mk {A : Prop} (h : A) : Hid A := by unfold Hid; exact h
theorem Hid.out {A : Prop} (h : Hid A) : A := by unfold Hid at h; exact h
theorem share {A B : Prop} (g2 : Hid A → B) (g1 : A) : B := g2 (Hid.mk g1)
theorem str_small : ∀ i : Nat, i < 3 → Tx 20 (Str.ofString (toString ((0 : Int) + (i : Int)))) := fun i hi => Tx.lit (by
  obtain rfl | rfl | rfl : i = 0 ∨ i = 1 ∨ i = 2 := by omega
  · decide +kernel
  · decide +kernel
  · decide +kernel)
theorem strs_of {P : Str → Prop} : ∀ {ys : List V}, (∀ y ∈ ys, ∃ s : Str, y = .str s ∧ P s) → ∃ ql : List Str, ys = ql.map V.str ∧ ∀ s ∈ ql, P s
  | [], _ => ⟨[], rfl, fun s hs => by cases hs⟩
  | y :: ys, h => by
    obtain ⟨s, rfl, hs⟩ := h y (List.mem_cons_self ..)
    obtain ⟨ql, rfl, hq⟩ := strs_of (ys := ys) fun z hz => h z (List.mem_cons_of_mem _ hz)
    exact ⟨s :: ql, rfl, fun z hz => by
      rcases List.mem_cons.mp hz with rfl | hz
      · exact hs
      · exact hq z hz⟩
def bnd : Nat → Nat
  | 0 => 20
  | k + 1 => 2 * bnd k + 60
theorem bnd_le : ∀ k : Nat, k < 5 → bnd k ≤ 1400 := by decide
theorem bnd_le5 : ∀ k : Nat, k ≤ 5 → bnd k ≤ 2500 := fun k hk => (by decide : ∀ k : Fin 6, bnd k.val ≤ 2500) ⟨k, by omega⟩
theorem DigOk.drop {ds ss : List Int} (h : DigOk ds ss) (n : Nat) : DigOk (ds.drop n) (ss.drop n) := by
  refine ⟨by rw [List.length_drop, List.length_drop, h.1], fun j d s hd hs => ?_⟩
  rw [List.getElem?_drop] at hd hs
  exact h.2 _ d s hd hs
theorem cut_drop {xs : List V} {n : Nat} (h : n ≤ xs.length) : cutV xs (some (n : Int)) none = xs.drop n := by
  show (List.drop (HT.sIx xs.length 0 (some (n : Int))) xs).take (HT.sIx xs.length xs.length none - HT.sIx xs.length 0 (some (n : Int))) = _
  rw [HT.sIx_nat, HT.sIx_none, Nat.min_eq_left h, List.take_of_length_le (by rw [List.length_drop]; exact Nat.le_refl _)]
theorem AlikeAt.mono {K : PySem.W.Frag} {H H' : Hp} {v : V} (x : Xt H H') (h : AlikeAt K H v) : AlikeAt K H' v := by
  rcases h with h | ⟨ap, t, pos, e, hs, r⟩
  · exact .inl h
  · exact .inr ⟨ap, t, pos, e, xl x hs, r⟩
theorem rows_app {n : Nat} {H : Hp} {as : List Addr} {rl a pa : Addr} {k : Int} {t v : Str} {pl : List Str} (hr : RwsOk n H as) (hl : H rl = some (.lst (as.map V.ref))) (e : H a = some (.lst [.int k, .str t, .ref pa, .str v])) (epa : H pa = some (.lst (pl.map V.str))) (hne : pa ≠ rl) (h0 : pl.length ≤ 3) (h1 : Tx n t) (h2 : ∀ s ∈ pl, Tx n s) (h3 : Tx n v) :
    RwsOk n (upd H rl (.lst (as.map V.ref ++ [.ref a]))) (as ++ [a]) := fun b hb => by
  rcases List.mem_append.mp hb with hb | hb
  · obtain ⟨kb, tb, pb, plb, vb, e1, e2, r2⟩ := hr b hb
    refine ⟨kb, tb, pb, plb, vb, by rw [upd_ne (fun q => rf_ne hl e1 q.symm)]; exact e1, ?_, r2⟩
    rw [upd_ne (fun q => ?_)]
    · exact e2
    · rw [q, hl] at e2
      cases as with
      | nil => cases hb
      | cons c r => cases plb <;> simp at e2
  · obtain rfl := List.mem_singleton.mp hb
    exact ⟨k, t, pa, pl, v, by rw [upd_ne (fun q => rf_ne hl e q.symm)]; exact e, by rw [upd_ne hne]; exact epa, h0, h1, h2, h3⟩
theorem w36 : ∀ i : Nat, i < 3 → W36[1 + i]? = some 12 := by decide
theorem kinds_at {i : Nat} (hi : i < 4) : ∃ b : Int, atI [V.int 2, .int 6, .int 16, .int 26] (0 + (i : Int)) = some (.int b) ∧ 2 ≤ b ∧ b ≤ 26 := by
  obtain rfl | rfl | rfl | rfl : i = 0 ∨ i = 1 ∨ i = 2 ∨ i = 3 := by omega
  · exact ⟨2, rfl, by decide, by decide⟩
  · exact ⟨6, rfl, by decide, by decide⟩
  · exact ⟨16, rfl, by decide, by decide⟩
  · exact ⟨26, rfl, by decide, by decide⟩
theorem pick_at {d : Int} (h0 : 0 ≤ d) (h1 : d < 8) : ∃ b : Int, atI [V.int 0, .int 1, .int 2, .int 3, .int 0, .int 3, .int 2, .int 1] d = some (.int b) ∧ 0 ≤ b ∧ b ≤ 3 := by
  have : ∀ k : Fin 8, ∃ b : Int, atI [V.int 0, .int 1, .int 2, .int 3, .int 0, .int 3, .int 2, .int 1] ((k.val : Nat) : Int) = some (.int b) ∧ 0 ≤ b ∧ b ≤ 3 := by
    intro k
    match k with
    | ⟨0, _⟩ => exact ⟨0, rfl, by decide, by decide⟩
    | ⟨1, _⟩ => exact ⟨1, rfl, by decide, by decide⟩
    | ⟨2, _⟩ => exact ⟨2, rfl, by decide, by decide⟩
    | ⟨3, _⟩ => exact ⟨3, rfl, by decide, by decide⟩
    | ⟨4, _⟩ => exact ⟨0, rfl, by decide, by decide⟩
    | ⟨5, _⟩ => exact ⟨3, rfl, by decide, by decide⟩
    | ⟨6, _⟩ => exact ⟨2, rfl, by decide, by decide⟩
    | ⟨7, _⟩ => exact ⟨1, rfl, by decide, by decide⟩
  have h := this ⟨d.toNat, by omega⟩
  rwa [show (((⟨d.toNat, by omega⟩ : Fin 8).val : Nat) : Int) = d from Int.toNat_of_nonneg h0] at h
theorem sum_le : ∀ {l : List Int} {n : Nat}, (∀ c ∈ l, c ≤ 10) → l.length ≤ n → l.sum ≤ 10 * n
  | [], n, _, _ => by rw [List.sum_nil]; omega
  | c :: l, n, h, hn => by
    rw [List.length_cons] at hn
    have h1 := sum_le (l := l) (n := n - 1) (fun d hd => h d (List.mem_cons_of_mem _ hd)) (by omega)
    have h2 := h c (List.mem_cons_self ..)
    rw [List.sum_cons]; omega
/-! what fits -/
def ShD (n : Nat) (d : PyData) : Prop := d.canLay0 = true ∧ d.depth ≤ n
theorem ShD.shaped {n : Nat} {d : PyData} (h : ShD n d) (hn : n ≤ 64) : SeqAt.shaped d = true := by
  unfold SeqAt.shaped
  rw [h.1, decide_eq_true (Nat.le_trans h.2 hn)]; rfl
theorem ShD.le {n m : Nat} {d : PyData} (h : ShD n d) (hm : n ≤ m) : ShD m d := ⟨h.1, Nat.le_trans h.2 hm⟩
theorem ShD.str {n m : Nat} {z : Str} (h : Tx m z) : ShD n (.str z) := ⟨by rw [PyData.canLay0]; exact strOk_asc h.asc, by rw [PyData.depth]; omega⟩
theorem ShD.non {n : Nat} : ShD n .none := ⟨by rw [PyData.canLay0], by rw [PyData.depth]; omega⟩
theorem ShD.int {n : Nat} {i : Int} : ShD n (.int i) := ⟨by rw [PyData.canLay0], by rw [PyData.depth]; omega⟩
theorem lay_all : ∀ {ds : List PyData}, (∀ d ∈ ds, d.canLay0 = true) → PyData.canLayAll0 ds = true
  | [], _ => by rw [PyData.canLayAll0]
  | d :: ds, h => by rw [PyData.canLayAll0, h d (List.mem_cons_self ..), lay_all fun e he => h e (List.mem_cons_of_mem _ he)]; rfl
theorem dep_all {n : Nat} : ∀ {ds : List PyData}, (∀ d ∈ ds, d.depth ≤ n) → PyData.depthAll ds ≤ n
  | [], _ => by rw [PyData.depthAll]; omega
  | d :: ds, h => by
    rw [PyData.depthAll]
    exact Nat.max_le.mpr ⟨h d (List.mem_cons_self ..), dep_all fun e he => h e (List.mem_cons_of_mem _ he)⟩
theorem ShD.tup {n : Nat} {ds : List PyData} (h : ∀ d ∈ ds, ShD n d) : ShD (n + 1) (.tuple ds) := ⟨by rw [PyData.canLay0]; exact lay_all fun d hd => (h d hd).1, by rw [PyData.depth]; have := dep_all fun d hd => (h d hd).2; omega⟩
theorem ShD.lst {n : Nat} {ds : List PyData} (h : ∀ d ∈ ds, ShD n d) : ShD (n + 1) (.list ds) := ⟨by rw [PyData.canLay0]; exact lay_all fun d hd => (h d hd).1, by rw [PyData.depth]; have := dep_all fun d hd => (h d hd).2; omega⟩
theorem ShD.strs {n m : Nat} {l : List Str} (h : ∀ s ∈ l, Tx m s) : ∀ d ∈ l.map PyData.str, ShD n d := fun d hd => by
  obtain ⟨s, hs, rfl⟩ := List.mem_map.mp hd
  exact .str (h s hs)
theorem mem_S {x : Lex} {s : Str} (h : s ∈ x.S) : (s, []) ∈ x.rows := by
  unfold Lex.rows
  exact List.mem_append.mpr (.inl (List.mem_append.mpr (.inl (List.mem_map.mpr ⟨s, h, rfl⟩))))
theorem mem_F {x : Lex} {r : Str × List Str × Str} (h : r ∈ x.F) : (r.1, r.2.1 ++ [r.2.2]) ∈ x.rows := by
  unfold Lex.rows
  exact List.mem_append.mpr (.inl (List.mem_append.mpr (.inr (List.mem_map.mpr ⟨r, h, rfl⟩))))
theorem mem_P {x : Lex} {r : Str × List Str} (h : r ∈ x.P) : r ∈ x.rows := by
  unfold Lex.rows
  exact List.mem_append.mpr (.inr h)
theorem sh_S {x : Lex} (ok : RowsB x.S x.rows) : ∀ d ∈ x.S.map PyData.str, ShD 3 d := ShD.strs fun s hs => (ok.tx _ (mem_S hs)).1
theorem sh_F {x : Lex} (ok : RowsB x.S x.rows) : ∀ d ∈ x.F.map fD, ShD 3 d := fun d hd => by
  obtain ⟨r, hr, rfl⟩ := List.mem_map.mp hd
  have h := ok.tx _ (mem_F hr)
  refine (ShD.tup (n := 1) fun e he => ?_).le (by decide)
  rcases List.mem_cons.mp he with rfl | he
  · exact .str h.1
  rcases List.mem_cons.mp he with rfl | he
  · exact ShD.tup (n := 0) (ShD.strs fun s hs => h.2 s (List.mem_append.mpr (.inl hs)))
  rcases List.mem_cons.mp he with rfl | he
  · exact .str (h.2 _ (List.mem_append.mpr (.inr (List.mem_singleton.mpr rfl))))
  · cases he
theorem sh_P {x : Lex} (ok : RowsB x.S x.rows) : ∀ d ∈ x.P.map pD, ShD 3 d := fun d hd => by
  obtain ⟨r, hr, rfl⟩ := List.mem_map.mp hd
  have h := ok.tx _ (mem_P hr)
  refine (ShD.tup (n := 1) fun e he => ?_).le (by decide)
  rcases List.mem_cons.mp he with rfl | he
  · exact .str h.1
  rcases List.mem_cons.mp he with rfl | he
  · exact ShD.tup (n := 0) (ShD.strs fun s hs => h.2 s hs)
  · cases he
theorem chk_none {S : List Str} : ∀ {R : List (Str × List Str)} {t : List Str}, chkF S R t = none → (R.map (·.1)).Nodup ∧ ∀ r ∈ R, r.1 ∉ t
  | [], _, _ => ⟨List.nodup_nil, fun r h => by cases h⟩
  | r :: R, t, h => by
    rw [chkF_cons] at h
    split at h
    · split at h
      · cases h
      · split at h
        · cases h
        · obtain ⟨h1, h2⟩ := chk_none h
          refine ⟨?_, fun q hq => ?_⟩
          · rw [List.map_cons, List.nodup_cons]
            refine ⟨fun m => ?_, h1⟩
            obtain ⟨q, hq, e⟩ := List.mem_map.mp m
            exact h2 q hq (List.mem_append.mpr (.inr (List.mem_singleton.mpr e)))
          · rcases List.mem_cons.mp hq with rfl | hq
            · assumption
            · exact fun m => h2 q hq (List.mem_append.mpr (.inl m))
    · cases h
theorem fnames (x : Lex) : x.rows.map (·.1) = x.S ++ (x.F.map (·.1) ++ x.P.map (·.1)) := by
  unfold Lex.rows
  rw [List.map_append, List.map_append, List.map_map, List.map_map, List.append_assoc]
  congr 1
  exact List.map_id _
def hasHead (z : Str) (d : PyData) : Bool := decide (headS d = z)
def places (x : Lex) (z : Str) : List PyData := (x.F.map fD ++ x.P.map pD).filter (hasHead z)
theorem places_iff (x : Lex) (z : Str) : (∃ d, d ∈ places x z) ↔ z ∈ x.F.map (·.1) ++ x.P.map (·.1) := by
  constructor
  · rintro ⟨d, hd⟩
    obtain ⟨h1, h2⟩ := List.mem_filter.mp hd
    have h2 := of_decide_eq_true h2
    rcases List.mem_append.mp h1 with h1 | h1
    · obtain ⟨r, hr, rfl⟩ := List.mem_map.mp h1
      exact List.mem_append.mpr (.inl (List.mem_map.mpr ⟨r, hr, h2⟩))
    · obtain ⟨r, hr, rfl⟩ := List.mem_map.mp h1
      exact List.mem_append.mpr (.inr (List.mem_map.mpr ⟨r, hr, h2⟩))
  · intro h
    rcases List.mem_append.mp h with h | h
    · obtain ⟨r, hr, rfl⟩ := List.mem_map.mp h
      exact ⟨fD r, List.mem_filter.mpr ⟨List.mem_append.mpr (.inl (List.mem_map.mpr ⟨r, hr, rfl⟩)), decide_eq_true rfl⟩⟩
    · obtain ⟨r, hr, rfl⟩ := List.mem_map.mp h
      exact ⟨pD r, List.mem_filter.mpr ⟨List.mem_append.mpr (.inr (List.mem_map.mpr ⟨r, hr, rfl⟩)), decide_eq_true rfl⟩⟩
theorem places_in (x : Lex) (z : Str) : decide (z ∈ x.rows.map (·.1)) = (decide (z ∈ x.S) || decide (0 < (places x z).length)) := by
  have h : 0 < (places x z).length ↔ z ∈ x.F.map (·.1) ++ x.P.map (·.1) := by
    rw [← places_iff, List.length_pos_iff_exists_mem]
  rw [fnames, ← Bool.decide_or]
  congr 1
  rw [List.mem_append, h]
theorem args_keys (x : Lex) : (argsTab x).map (·.1) = x.F.map (·.1) ++ x.P.map (·.1) := by
  unfold argsTab
  rw [List.map_append, List.map_map, List.map_map]; rfl
theorem sort_keys (x : Lex) : (sortTab x).map (·.1) = x.P.map (·.1) ++ x.F.map (·.1) := by
  unfold sortTab
  rw [List.map_append, List.map_map, List.map_map]; rfl
theorem places_nil {x : Lex} {z : Str} (h : (places x z).length = 0) : tabF (argsTab x) z = none ∧ tabF (sortTab x) z = none := by
  have hn : z ∉ x.F.map (·.1) ++ x.P.map (·.1) := fun m => by
    obtain ⟨d, hd⟩ := (places_iff x z).mpr m
    rw [List.length_eq_zero_iff.mp h] at hd; cases hd
  refine ⟨tabF_none ?_, tabF_none ?_⟩
  · rw [args_keys]; exact hn
  · rw [sort_keys]; exact fun m => hn (List.mem_append.mpr ((List.mem_append.mp m).symm))
theorem tabF_of {l : List (Str × PyData)} {z : Str} {d : PyData} (nd : (l.map (·.1)).Nodup) (h : (z, d) ∈ l) : tabF l z = some d := by
  obtain ⟨e, he⟩ := tabF_isSome (List.mem_map.mpr ⟨_, h, rfl⟩ : z ∈ l.map (·.1))
  rw [he]
  have hm := tabF_mem he
  obtain ⟨i, hi⟩ := List.getElem?_of_mem h
  obtain ⟨j, hj⟩ := List.getElem?_of_mem hm
  have hi2 : (l.map (·.1))[i]? = some z := by rw [List.getElem?_map, hi]; rfl
  have hj2 : (l.map (·.1))[j]? = some z := by rw [List.getElem?_map, hj]; rfl
  have := (List.getElem?_inj (List.getElem?_eq_some_iff.mp hi2).1 nd).mp (hi2.trans hj2.symm)
  subst this
  rw [hi] at hj
  cases hj; rfl
/-- the first place: a function or a predicate -/
theorem places_fst {x : Lex} {z : Str} {d : PyData} (hc : chkF x.S x.rows [] = none) (h : (places x z)[0]? = some d) :
    (∃ r ∈ x.F, d = fD r ∧ tabF (argsTab x) z = some (.tuple (r.2.1.map PyData.str)) ∧ tabF (sortTab x) z = some (.str r.2.2)) ∨ (∃ r ∈ x.P, d = pD r ∧ tabF (argsTab x) z = some (.tuple (r.2.map PyData.str)) ∧ tabF (sortTab x) z = some (.str "truth")) := by
  have nd := (chk_none hc).1
  rw [fnames, List.nodup_append] at nd
  have nd2 := nd.2.1
  have na : ((argsTab x).map (·.1)).Nodup := by rw [args_keys]; exact nd2
  have ns : ((sortTab x).map (·.1)).Nodup := by
    rw [sort_keys]
    rw [List.nodup_append] at nd2 ⊢
    exact ⟨nd2.2.1, nd2.1, fun a ha b hb e => nd2.2.2 b hb a ha e.symm⟩
  obtain ⟨h1, h2⟩ := List.mem_filter.mp (List.mem_of_getElem? h)
  have h2 := of_decide_eq_true h2
  rcases List.mem_append.mp h1 with h1 | h1
  · obtain ⟨r, hr, rfl⟩ := List.mem_map.mp h1
    have hz : r.1 = z := h2
    subst hz
    refine .inl ⟨r, hr, rfl, tabF_of na ?_, tabF_of ns ?_⟩
    · unfold argsTab; exact List.mem_append.mpr (.inl (List.mem_map.mpr ⟨r, hr, rfl⟩))
    · unfold sortTab; exact List.mem_append.mpr (.inr (List.mem_map.mpr ⟨r, hr, rfl⟩))
  · obtain ⟨r, hr, rfl⟩ := List.mem_map.mp h1
    have hz : r.1 = z := h2
    subst hz
    refine .inr ⟨r, hr, rfl, tabF_of na ?_, tabF_of ns ?_⟩
    · unfold argsTab; exact List.mem_append.mpr (.inr (List.mem_map.mpr ⟨r, hr, rfl⟩))
    · unfold sortTab; exact List.mem_append.mpr (.inl (List.mem_map.mpr ⟨r, hr, rfl⟩))
theorem sh_args {x : Lex} (ok : RowsB x.S x.rows) (z : Str) : ShD 3 ((tabF (argsTab x) z).getD .none) := by
  cases e : tabF (argsTab x) z with
  | none => exact .non
  | some d =>
    have h := tabF_mem e
    unfold argsTab at h
    rcases List.mem_append.mp h with h | h
    · obtain ⟨r, hr, e2⟩ := List.mem_map.mp h
      cases e2
      exact (ShD.tup (n := 0) (ShD.strs fun s hs => (ok.tx _ (mem_F hr)).2 s (List.mem_append.mpr (.inl hs)))).le (by decide)
    · obtain ⟨r, hr, e2⟩ := List.mem_map.mp h
      cases e2
      exact (ShD.tup (n := 0) (ShD.strs fun s hs => (ok.tx _ (mem_P hr)).2 s hs)).le (by decide)
theorem sh_sort {x : Lex} (ok : RowsB x.S x.rows) (z : Str) : ShD 3 ((tabF (sortTab x) z).getD .none) := by
  cases e : tabF (sortTab x) z with
  | none => exact .non
  | some d =>
    have h := tabF_mem e
    unfold sortTab at h
    rcases List.mem_append.mp h with h | h
    · obtain ⟨r, hr, e2⟩ := List.mem_map.mp h
      cases e2
      exact .str (Tx.lit (z := "truth") (by decide +kernel))
    · obtain ⟨r, hr, e2⟩ := List.mem_map.mp h
      cases e2
      exact .str ((ok.tx _ (mem_F hr)).2 _ (List.mem_append.mpr (.inr (List.mem_singleton.mpr rfl))))
theorem d_neq {K : PySem.W.Frag} {H : Hp} {Q : VK} {x y : V} {d : PyData} {n : Nat} (h1 : Dp K H x d) (h2 : Dp K H y d) (s : ShD n d) (hn : n ≤ 64) (q : Q (.bl false) H) : rNeU K x y H Q :=
  d_ne h1 h2 (s.shaped hn) (s.shaped hn) (by rw [SeqAt.eqv_refl d s.1]; exact q)
theorem LsAt.mono {K : PySem.W.Frag} {H H' : Hp} {v : V} {ds : List PyData} (x : Xt H H') (h : LsAt K H v ds) : LsAt K H' v ds := by
  obtain ⟨a, xs, e, e2, hd⟩ := h
  exact ⟨a, xs, e, x _ _ e2, DpAll.mono x hd⟩
theorem LsAt.dp {K : PySem.W.Frag} {H : Hp} {v : V} {ds : List PyData} (h : LsAt K H v ds) : Dp K H v (.list ds) := by
  obtain ⟨a, xs, rfl, e2, hd⟩ := h
  exact .of_lst e2 hd
theorem ins_of {K : PySem.W.Frag} {C : Addr} (cl : Cls K C) (h : insB K C = true) : C8.InsC K C := by
  unfold insB at h
  simp only [Bool.and_eq_true, decide_eq_true_eq] at h
  obtain ⟨h1, h2, h3, h4, h5⟩ := h
  refine ⟨cl, ?_, ?_, h3, h4, h5⟩
  · split at h1
    · rename_i s e; rw [e, of_decide_eq_true h1]
    · cases h1
  · split at h2
    · rename_i s e; rw [e, of_decide_eq_true h2]
    · cases h2
theorem T_ins {P : Program} {K : PySem.W.Frag} {mg : Str → Option Value} (T : Top0 P K mg) : C8.InsC K T.C_Vocabulary := by
  have h := T.insv
  rw [addrOf_eq T.insa] at h
  exact ins_of T.cl_Vocabulary h
theorem VocX.mono {K : PySem.W.Frag} {C : Addr} {H H' : Hp} {a : Addr} {x : Lex} (e : Xt H H') (h : VocX K C H a x) : VocX K C H' a x := by
  obtain ⟨dx, fs, s, f, p, dN, dA, dS, kN, kA, kS, h1, hs, hf, hp, ⟨n1, n2, n3⟩, ⟨a1, a2, a3⟩, ⟨v1, v2, v3⟩, hm⟩ := h
  exact ⟨dx, fs, s, f, p, dN, dA, dS, kN, kA, kS, e _ _ h1, ⟨hs.1, Dp.mono e hs.2⟩, ⟨hf.1, Dp.mono e hf.2⟩, ⟨hp.1, Dp.mono e hp.2⟩, ⟨n1, e _ _ n2, n3.mono e⟩, ⟨a1, e _ _ a2, a3.mono e⟩, ⟨v1, e _ _ v2, v3.mono e⟩, hm⟩
theorem v_neB {K : PySem.W.Frag} {H : Hp} {Q : VK} {b c : Bool} (h : b = c) (q : Q (.bl false) H) : rNeU K (.bl b) (.bl c) H Q := by
  subst h
  refine v_neU rfl ?_
  rw [decide_eq_true rfl]; exact q
theorem k_methN {C : Addr} {m : Str} {nk : Nat} {sp : Sp} {gV : List V → List V → List V} {E : XK} {ta : TE} {tk : TA} {σ : L2.St} {H : Hp} {Q : VK} (h : ta σ H fun x H1 => ∃ a dx fs, x = .ref a ∧ H1 a = some (.ins C dx fs) ∧ fs.lookup m = none ∧ tk σ H1 fun zs H2 => zs.length = nk ∧ sp (gV [x] zs) H2 Q E) : tMethN C m nk sp gV E ta tk σ H Q := h
end K00

set_option Elab.async false
set_option linter.all false
set_option maxRecDepth 100000
set_option maxHeartbeats 2000000
namespace K00
open PySem PySem.Spec PyProof.Rows L2 NdefX CW RZ
open PySem.W (fnX)
/-! the law -/
theorem VocX.lists {K : PySem.W.Frag} {C : Addr} {H H' : Hp} {a : Addr} {x : Lex} (f : ∀ b o, H b = some o → (∀ xs, o ≠ .lst xs) → H' b = some o) (h : VocX K C H a x) : VocX K C H' a x := by
  obtain ⟨dx, fs, s, f1, p, dN, dA, dS, kN, kA, kS, h1, hs, hf, hp, ⟨n1, n2, n3⟩, ⟨a1, a2, a3⟩, ⟨v1, v2, v3⟩, hm⟩ := h
  have g : ∀ a xs, SqT K H a xs → SqT K H' a xs := fun a xs h => by
    rcases h with (h | ⟨u, h⟩) | h
    · exact .inl (.inl (f _ _ h (fun _ e => by cases e)))
    · exact .inl (.inr ⟨u, f _ _ h (fun _ e => by cases e)⟩)
    · exact .inr h
  refine ⟨dx, fs, s, f1, p, dN, dA, dS, kN, kA, kS, f _ _ h1 (fun _ e => by cases e), ⟨hs.1, Dp.im g (by show ImAll _ = true; exact imStrs _) hs.2⟩, ⟨hf.1, Dp.im g ?_ hf.2⟩, ⟨hp.1, Dp.im g ?_ hp.2⟩, ⟨n1, f _ _ n2 (fun _ e => by cases e), n3.im g⟩, ⟨a1, f _ _ a2 (fun _ e => by cases e), a3.im g⟩, ⟨v1, f _ _ v2 (fun _ e => by cases e), v3.im g⟩, hm⟩
  · show ImAll _ = true
    refine imAll_iff.mpr fun d hd => ?_
    obtain ⟨r, _, rfl⟩ := List.mem_map.mp hd; exact im_fD r
  · show ImAll _ = true
    refine imAll_iff.mpr fun d hd => ?_
    obtain ⟨r, _, rfl⟩ := List.mem_map.mp hd; exact im_pD r
/-- only lists at these places change -/
def Xm (ps : List Addr) (H H' : Hp) : Prop := ∀ b o, H b = some o → b ∉ ps → H' b = some o
theorem Xm.upd {ps : List Addr} {H : Hp} {a : Addr} {o : HO} (h : a ∈ ps) : Xm ps H (upd H a o) := fun b u e n => by
  rw [upd_ne (fun q : b = a => n (by rw [q]; exact h))]; exact e
theorem Xm.tr {ps : List Addr} {H H1 H2 : Hp} (a : Xm ps H H1) (b : Xm ps H1 H2) : Xm ps H H2 := fun x o e n => b x o (a x o e n) n
theorem Xm.voc {K : PySem.W.Frag} {C : Addr} {ps : List Addr} {H H' : Hp} {a : Addr} {x : Lex} (e : Xm ps H H') (hp : ∀ b ∈ ps, ∃ xs, H b = some (.lst xs)) (h : VocX K C H a x) : VocX K C H' a x :=
  h.lists fun b o hb ho => e b o hb fun m => by
    obtain ⟨xs, hx⟩ := hp b m
    rw [hb] at hx
    cases hx
    exact ho _ rfl
theorem Xm.ls {K : PySem.W.Frag} {ps : List Addr} {H H' : Hp} {b : Addr} {xs : List V} {ds : List PyData} (e : Xm ps H H') (hp : ∀ b ∈ ps, ∃ xs, H b = some (.lst xs)) (hb : H b = some (.lst xs)) (hd : DpAll K H xs ds) (im : ImAll ds = true) (n : b ∉ ps) : LsAt K H' (.ref b) ds :=
  ⟨b, xs, rfl, e _ _ hb n, DpAll.im (fun a xs h => by
    rcases h with (h | ⟨u, h⟩) | h
    · exact .inl (.inl (e _ _ h fun m => by obtain ⟨xs, hx⟩ := hp _ m; rw [h] at hx; cases hx))
    · exact .inl (.inr ⟨u, e _ _ h fun m => by obtain ⟨xs, hx⟩ := hp _ m; rw [h] at hx; cases hx⟩)
    · exact .inr h) im hd⟩
theorem im_S {l : List Str} : ImAll (l.map PyData.str) = true := imStrs l
theorem im_F {l : List (Str × List Str × Str)} : ImAll (l.map fD) = true := imAll_iff.mpr fun d hd => by
  obtain ⟨r, _, rfl⟩ := List.mem_map.mp hd; exact im_fD r
theorem im_P {l : List (Str × List Str)} : ImAll (l.map pD) = true := imAll_iff.mpr fun d hd => by
  obtain ⟨r, _, rfl⟩ := List.mem_map.mp hd; exact im_pD r
/-! rows as data -/
structure Row where
  k : Int
  t : Str
  pl : List Str
  v : Str
def rowD (r : Row) : PyData := .list [.int r.k, .str r.t, .list (r.pl.map PyData.str), .str r.v]
structure RowB (r : Row) : Prop where
  l : r.pl.length ≤ 3
  t : Tx 2500 r.t
  pl : ∀ s ∈ r.pl, Tx 2500 s
  v : Tx 2500 r.v
theorem rows_data {K : PySem.W.Frag} {H : Hp} : ∀ {as : List Addr}, RwsOk 2500 H as → ∃ rs : List Row, DpAll K H (as.map V.ref) (rs.map rowD) ∧ rs.length = as.length ∧ ∀ r ∈ rs, RowB r
  | [], _ => ⟨[], .nil, rfl, fun r h => by cases h⟩
  | a :: as, h => by
    obtain ⟨k, t, pa, pl, v, e1, e2, l, h1, h2, h3⟩ := h a (List.mem_cons_self ..)
    obtain ⟨rs, hd, hl, hb⟩ := rows_data (as := as) fun b hb => h b (List.mem_cons_of_mem _ hb)
    refine ⟨⟨k, t, pl, v⟩ :: rs, .cons (.of_lst e1 (.cons (.int _) (.cons (.str _) (.cons (.of_lst e2 (DpAll.strs pl)) (.cons (.str _) .nil))))) hd, by rw [List.length_cons, List.length_cons, hl], fun r hr => ?_⟩
    rcases List.mem_cons.mp hr with rfl | hr
    · exact ⟨l, h1, h2, h3⟩
    · exact hb r hr
def kindD (i : Int) : PyData → Bool
  | .list (.int k :: _) => decide (k = i)
  | _ => false
def titD : PyData → PyData
  | .list (_ :: t :: _) => t
  | d => d
def funD : PyData → PyData
  | .list [_, t, .list pl, v] => .tuple [t, .tuple pl, v]
  | d => .none
def preD : PyData → PyData
  | .list [_, t, .list pl, _] => .tuple [t, .tuple pl]
  | d => .none
def kR (rs : List Row) (i : Int) : List Row := rs.filter fun r => decide (r.k = i)
def lexOf (rs : List Row) : Lex := ⟨(kR rs 0).map (·.t), (kR rs 1).map fun r => (r.t, r.pl, r.v), (kR rs 2).map fun r => (r.t, r.pl)⟩
def furOf (rs : List Row) : List (Str × List Str × Str) := (kR rs 3).map fun r => (r.t, r.pl, r.v)
theorem filt_row (rs : List Row) (i : Int) : (rs.map rowD).filter (kindD i) = (kR rs i).map rowD := by
  unfold kR
  rw [List.filter_map]
  rfl
theorem map_tit (rs : List Row) (i : Int) : ((rs.map rowD).filter (kindD i)).map titD = ((kR rs i).map (·.t)).map PyData.str := by
  rw [filt_row, List.map_map, List.map_map]; rfl
theorem map_fun (rs : List Row) (i : Int) : ((rs.map rowD).filter (kindD i)).map funD = ((kR rs i).map fun r => (r.t, r.pl, r.v)).map fD := by
  rw [filt_row, List.map_map, List.map_map]; rfl
theorem map_pre (rs : List Row) (i : Int) : ((rs.map rowD).filter (kindD i)).map preD = ((kR rs i).map fun r => (r.t, r.pl)).map pD := by
  rw [filt_row, List.map_map, List.map_map]; rfl
theorem kR_mem {rs : List Row} {i : Int} {r : Row} (h : r ∈ kR rs i) : r ∈ rs := (List.mem_filter.mp h).1
theorem kR_len (rs : List Row) (i : Int) : (kR rs i).length ≤ rs.length := List.length_filter_le _ _
theorem rowsB_of {rs : List Row} (hl : rs.length ≤ 40) (hb : ∀ r ∈ rs, RowB r) {S : List Str} {F : List (Str × List Str × Str)} {P : List (Str × List Str)} (hS : ∀ s ∈ S, Tx 2500 s) (hF : ∀ r ∈ F, Tx 2500 r.1 ∧ (∀ s ∈ r.2.1, Tx 2500 s) ∧ Tx 2500 r.2.2 ∧ r.2.1.length ≤ 3) (hP : ∀ r ∈ P, Tx 2500 r.1 ∧ (∀ s ∈ r.2, Tx 2500 s) ∧ r.2.length ≤ 3) (l1 : S.length ≤ 40) (l2 : F.length ≤ 80) (l3 : P.length ≤ 40) : RowsB S (Lex.rows ⟨S, F, P⟩) := by
  refine ⟨?_, by omega, fun r hr => ?_, fun r hr => ?_⟩
  · unfold Lex.rows
    simp only [List.length_append, List.length_map]
    omega
  · unfold Lex.rows at hr
    rcases List.mem_append.mp hr with hr | hr
    · rcases List.mem_append.mp hr with hr | hr
      · obtain ⟨s, _, rfl⟩ := List.mem_map.mp hr; exact Nat.zero_le _
      · obtain ⟨q, hq, rfl⟩ := List.mem_map.mp hr
        have := (hF q hq).2.2.2
        show (q.2.1 ++ [q.2.2]).length ≤ 1000
        rw [List.length_append, List.length_singleton]; omega
    · have := (hP r hr).2.2; omega
  · unfold Lex.rows at hr
    have up : ∀ {s : Str}, Tx 2500 s → Tx 3000 s := fun h => h.le (by decide)
    rcases List.mem_append.mp hr with hr | hr
    · rcases List.mem_append.mp hr with hr | hr
      · obtain ⟨s, hs, rfl⟩ := List.mem_map.mp hr
        exact ⟨up (hS s hs), fun _ h => by cases h⟩
      · obtain ⟨q, hq, rfl⟩ := List.mem_map.mp hr
        refine ⟨up (hF q hq).1, fun s hs => ?_⟩
        rcases List.mem_append.mp hs with hs | hs
        · exact up ((hF q hq).2.1 s hs)
        · cases List.mem_singleton.mp hs; exact up (hF q hq).2.2.1
    · exact ⟨up (hP r hr).1, fun s hs => up ((hP r hr).2.1 s hs)⟩
theorem bnds {rs : List Row} (hb : ∀ r ∈ rs, RowB r) : (∀ s ∈ (lexOf rs).S, Tx 2500 s) ∧ (∀ i, ∀ r ∈ ((kR rs i).map fun r => ((r.t, r.pl, r.v) : Str × List Str × Str)), Tx 2500 r.1 ∧ (∀ s ∈ r.2.1, Tx 2500 s) ∧ Tx 2500 r.2.2 ∧ r.2.1.length ≤ 3) ∧ (∀ r ∈ (lexOf rs).P, Tx 2500 r.1 ∧ (∀ s ∈ r.2, Tx 2500 s) ∧ r.2.length ≤ 3) := by
  refine ⟨fun s hs => ?_, fun i r hr => ?_, fun r hr => ?_⟩
  · obtain ⟨r, hr, rfl⟩ := List.mem_map.mp hs; exact (hb r (kR_mem hr)).t
  · obtain ⟨q, hq, rfl⟩ := List.mem_map.mp hr
    have h := hb q (kR_mem hq)
    exact ⟨h.t, h.pl, h.v, h.l⟩
  · obtain ⟨q, hq, rfl⟩ := List.mem_map.mp hr
    have h := hb q (kR_mem hq)
    exact ⟨h.t, h.pl, h.l⟩
theorem rowsB_lex {rs : List Row} (hl : rs.length ≤ 40) (hb : ∀ r ∈ rs, RowB r) {G : List (Str × List Str × Str)} (hG : ∀ r ∈ G, r ∈ furOf rs) (lG : G.length ≤ 40) : RowsB (lexOf rs).S (Lex.rows ⟨(lexOf rs).S, (lexOf rs).F ++ G, (lexOf rs).P⟩) := by
  obtain ⟨b1, b2, b3⟩ := bnds hb
  have k0 := kR_len rs 0
  have k1 := kR_len rs 1
  have k2 := kR_len rs 2
  refine rowsB_of hl hb b1 (fun r hr => ?_) b3 (by show ((kR rs 0).map _).length ≤ _; rw [List.length_map]; omega) ?_ (by show ((kR rs 2).map _).length ≤ _; rw [List.length_map]; omega)
  · rcases List.mem_append.mp hr with hr | hr
    · exact b2 1 r hr
    · exact b2 3 r (hG r hr)
  · rw [List.length_append]
    have : ((lexOf rs).F).length = (kR rs 1).length := List.length_map _
    omega
theorem lex_nil (x : Lex) : (⟨x.S, x.F ++ [], x.P⟩ : Lex) = x := by rw [List.append_nil]
/-- no fault: every name is one, none stands twice, every sort is one -/
theorem chk_iff {S : List Str} : ∀ {R : List (Str × List Str)} {t : List Str}, chkF S R t = none ↔ (∀ r ∈ R, nameF r.1 = true) ∧ (R.map (·.1)).Nodup ∧ (∀ r ∈ R, r.1 ∉ t) ∧ ∀ r ∈ R, ∀ s ∈ r.2, s ∈ S
  | [], _ => ⟨fun _ => ⟨(fun _ h => by cases h), List.nodup_nil, (fun _ h => by cases h), (fun _ h => by cases h)⟩, fun _ => rfl⟩
  | r :: R, t => by
    rw [chkF_cons]
    constructor
    · intro h
      split at h
      · rename_i h1
        split at h
        · cases h
        · rename_i h2
          split at h
          · cases h
          · rename_i h3
            obtain ⟨i1, i2, i3, i4⟩ := chk_iff.mp h
            refine ⟨fun q hq => ?_, ?_, fun q hq => ?_, fun q hq => ?_⟩
            · rcases List.mem_cons.mp hq with rfl | hq
              · exact h1
              · exact i1 q hq
            · rw [List.map_cons, List.nodup_cons]
              refine ⟨fun m => ?_, i2⟩
              obtain ⟨q, hq, e⟩ := List.mem_map.mp m
              exact i3 q hq (List.mem_append.mpr (.inr (List.mem_singleton.mpr e)))
            · rcases List.mem_cons.mp hq with rfl | hq
              · exact h2
              · exact fun m => i3 q hq (List.mem_append.mpr (.inl m))
            · rcases List.mem_cons.mp hq with rfl | hq
              · intro s hs
                have := List.find?_eq_none.mp h3 s hs
                simpa using this
              · exact i4 q hq
      · cases h
    · rintro ⟨h1, h2, h3, h4⟩
      rw [if_pos (h1 r (List.mem_cons_self ..)), if_neg (h3 r (List.mem_cons_self ..))]
      have hf : r.2.find? (fun s => decide (s ∉ S)) = none := List.find?_eq_none.mpr fun s hs => by
        have := h4 r (List.mem_cons_self ..) s hs
        simpa using this
      rw [hf]
      rw [List.map_cons, List.nodup_cons] at h2
      refine chk_iff.mpr ⟨fun q hq => h1 q (List.mem_cons_of_mem _ hq), h2.2, fun q hq m => ?_, fun q hq => h4 q (List.mem_cons_of_mem _ hq)⟩
      rcases List.mem_append.mp m with m | m
      · exact h3 q (List.mem_cons_of_mem _ hq) m
      · exact h2.1 (List.mem_map.mpr ⟨q, hq, List.mem_singleton.mp m⟩)
theorem chk_sub {S : List Str} {R R' : List (Str × List Str)} (h : chkF S R [] = none) (hs : R'.Sublist R) : chkF S R' [] = none := by
  obtain ⟨h1, h2, h3, h4⟩ := chk_iff.mp h
  exact chk_iff.mpr ⟨fun r hr => h1 r (hs.subset hr), (hs.map _).nodup h2, fun r hr => h3 r (hs.subset hr), fun r hr => h4 r (hs.subset hr)⟩
theorem chk_half {x : Lex} {G G' : List (Str × List Str × Str)} (h : chkF x.S (Lex.rows ⟨x.S, x.F ++ G, x.P⟩) [] = none) (hs : G'.Sublist G) : chkF x.S (Lex.rows ⟨x.S, x.F ++ G', x.P⟩) [] = none := by
  refine chk_sub h ?_
  unfold Lex.rows
  exact List.Sublist.append (List.Sublist.append (List.Sublist.refl _) ((List.Sublist.append (List.Sublist.refl _) hs).map _)) (List.Sublist.refl _)
theorem chk_tx {S : List Str} : ∀ {R : List (Str × List Str)} {t : List Str} {k : Nat} {z : Str}, chkF S R t = some (k, z) → (∀ r ∈ R, RowTx r) → Tx 3000 z
  | [], _, _, _, h, _ => by cases h
  | r :: R, t, k, z, h, hr => by
    have hr0 := hr r (List.mem_cons_self ..)
    rw [chkF_cons] at h
    split at h
    · split at h
      · cases h; exact hr0.1
      · split at h
        · rename_i s hs
          cases h
          exact hr0.2 _ (List.mem_of_find?_eq_some hs)
        · exact chk_tx h fun q hq => hr q (List.mem_cons_of_mem _ hq)
    · cases h; exact hr0.1
def dueD (x : Lex) : List PyData := match chkF x.S x.rows [] with
  | none => [.int 0, .str ""]
  | some (k, z) => [.int k, .str z]
theorem due_dp {K : PySem.W.Frag} {H : Hp} {p : Addr} {x : Lex} (e : H p = some (.lst (dueV x))) : Dp K H (.ref p) (.list (dueD x)) := by
  refine .of_lst e ?_
  unfold dueV dueD
  cases chkF x.S x.rows [] with
  | none => exact .cons (.int _) (.cons (.str _) .nil)
  | some q => exact .cons (.int _) (.cons (.str _) .nil)
theorem due_sh {x : Lex} (ok : RowsB x.S x.rows) : ShD 3 (.list (dueD x)) := by
  refine (ShD.lst (n := 0) ?_).le (by decide)
  unfold dueD
  cases e : chkF x.S x.rows [] with
  | none =>
    intro d hd
    rcases List.mem_cons.mp hd with rfl | hd
    · exact .int
    · cases List.mem_singleton.mp hd; exact .str (Tx.lit (z := "") (by decide +kernel))
  | some q =>
    obtain ⟨k, z⟩ := q
    intro d hd
    rcases List.mem_cons.mp hd with rfl | hd
    · exact .int
    · cases List.mem_singleton.mp hd; exact .str (chk_tx e ok.tx)
theorem rws_sub {n m : Nat} {H H' : Hp} {as bs : List Addr} (hn : n ≤ m) (hr : RwsOk n H as) (hb : ∀ b ∈ bs, b ∈ as) (x : Xs bs H H') (h : RwsOk m H' bs) : RwsOk m H' as := fun a ha => by
  by_cases hm : a ∈ bs
  · exact h a hm
  · obtain ⟨k, t, pa, pl, v, e1, e2, l, h1, h2, h3⟩ := hr a ha
    refine ⟨k, t, pa, pl, v, x _ _ hm e1, x _ _ (fun hp => ?_) e2, l, h1.le hn, fun s hs => (h2 s hs).le hn, h3.le hn⟩
    obtain ⟨k', t', pa', pl', v', e1', _⟩ := hr pa (hb _ hp)
    exact pl_ne e2 e1' rfl
def okI (v : V) : Bool := match v with
  | .int i => decide (0 ≤ i) && decide (i ≤ 10)
  | _ => false
theorem at_okI {l : List V} {k : Int} (h : l.all okI = true) (h0 : 0 ≤ k) (h1 : k < (l.length : Int)) : ∃ i, atI l k = some (.int i) ∧ 0 ≤ i ∧ i ≤ 10 := by
  obtain ⟨v, e1, e2⟩ := atI_ok h0 h1
  have h2 := List.all_eq_true.mp h v (List.mem_of_getElem? e2)
  cases v with
  | int i =>
    have h3 := Bool.and_eq_true_iff.mp h2
    exact ⟨i, e1, of_decide_eq_true h3.1, of_decide_eq_true h3.2⟩
  | _ => cases h2
def B11 : List Int := [6, 60, 26, 36, 36, 36, 36, 36, 36, 36, 26]
theorem b11 : ∀ i : Nat, i < 7 → B11[3 + i]? = some 36 := by decide
theorem refs_take (as : List Addr) {i : Int} (h0 : 0 ≤ i) (h1 : i ≤ as.length) : cutV (as.map V.ref) none (some i) = (as.take i.toNat).map V.ref := by
  obtain ⟨j, rfl⟩ : ∃ j : Nat, i = (j : Int) := ⟨i.toNat, by omega⟩
  show (List.drop (HT.sIx _ 0 none) _).take (HT.sIx _ _ (some (j : Int)) - _) = _
  rw [HT.sIx_none, HT.sIx_nat, List.drop_zero, List.length_map, Int.toNat_natCast, List.map_take]
  congr 1; omega
theorem refs_cut (as : List Addr) (lo hi : Option Int) : ∃ bs : List Addr, cutV (as.map V.ref) lo hi = bs.map V.ref ∧ bs.length ≤ as.length ∧ ∀ b ∈ bs, b ∈ as := by
  refine ⟨(as.drop (HT.sIx (as.map V.ref).length 0 lo)).take (HT.sIx (as.map V.ref).length (as.map V.ref).length hi - HT.sIx (as.map V.ref).length 0 lo), ?_, ?_, fun s hs => List.mem_of_mem_drop (List.mem_of_mem_take hs)⟩
  · show (List.drop _ _).take _ = _
    rw [List.map_take, List.map_drop]
  · rw [List.length_take, List.length_drop]; omega
theorem kk_le {u k : Int} (h0 : 0 ≤ u) (h1 : u < 8) (h : atI [V.int 0, .int 0, .int 0, .int 0, .int 1, .int 1, .int 2, .int 3] u = some (.int k)) : k ≤ 3 := by
  have : ∀ i : Fin 8, ∀ v, atI [V.int 0, .int 0, .int 0, .int 0, .int 1, .int 1, .int 2, .int 3] ((i.val : Nat) : Int) = some v → ∃ m : Int, v = .int m ∧ m ≤ 3 := by
    intro i v hv
    match i, hv with
    | ⟨0, _⟩, hv => cases hv; exact ⟨_, rfl, by decide⟩
    | ⟨1, _⟩, hv => cases hv; exact ⟨_, rfl, by decide⟩
    | ⟨2, _⟩, hv => cases hv; exact ⟨_, rfl, by decide⟩
    | ⟨3, _⟩, hv => cases hv; exact ⟨_, rfl, by decide⟩
    | ⟨4, _⟩, hv => cases hv; exact ⟨_, rfl, by decide⟩
    | ⟨5, _⟩, hv => cases hv; exact ⟨_, rfl, by decide⟩
    | ⟨6, _⟩, hv => cases hv; exact ⟨_, rfl, by decide⟩
    | ⟨7, _⟩, hv => cases hv; exact ⟨_, rfl, by decide⟩
  have h2 := this ⟨u.toNat, by omega⟩ (.int k)
  rw [show (((⟨u.toNat, by omega⟩ : Fin 8).val : Nat) : Int) = u from Int.toNat_of_nonneg h0] at h2
  obtain ⟨m, e, hm⟩ := h2 h
  cases e; exact hm
theorem refs_at {as : List Addr} {i : Nat} {x : V} (h : (as.map V.ref)[i]? = some x) : ∃ a ∈ as, x = .ref a := by
  obtain ⟨a, ha, e⟩ := List.mem_map.mp (List.mem_of_getElem? h)
  exact ⟨a, ha, e.symm⟩
theorem okS_list {n : Nat} {ys : List V} (h : ∀ y ∈ ys, okS n y = true) : ∃ zs : List Str, ys = zs.map V.str := by
  obtain ⟨zs, e, _⟩ := strs_of (P := Tx n) fun y hy => okS_tx (h y hy)
  exact ⟨zs, e⟩
theorem okS_at {n : Nat} {ys : List V} (h : ∀ (i : Nat) (y : V), ys[i]? = some y → okS n y = true) : ∀ y ∈ ys, okS n y = true := fun y hy => by
  obtain ⟨i, hi⟩ := List.getElem?_of_mem hy
  exact h i y hi
theorem okS_app {n : Nat} {ys zs : List V} (h1 : ∀ y ∈ ys, okS n y = true) (h2 : ∀ y ∈ zs, okS n y = true) : ∀ y ∈ ys ++ zs, okS n y = true := fun y hy => (List.mem_append.mp hy).elim (h1 y) (h2 y)
theorem okS_all {n : Nat} {ys : List V} (h : ys.all (okS n) = true) : ∀ y ∈ ys, okS n y = true := fun y hy => List.all_eq_true.mp h y hy
theorem ne_new {H : Hp} {a b : Addr} {o : HO} (n : H a = none) (h : H b = some o) : b ≠ a := fun q => by rw [q, n] at h; cases h
/-- all that is known of the law's lists -/
structure Big (K : PySem.W.Frag) (H : Hp) (b1 b2 b3 b4 p1 p2 p3 p4 pq pp : Addr) (x : Lex) (Gf : List (Str × List Str × Str)) (zs : List Str) : Prop where
  L1 : LsAt K H (.ref b1) (x.S.map PyData.str)
  L2 : LsAt K H (.ref b2) (x.F.map fD)
  L3 : LsAt K H (.ref b3) (x.P.map pD)
  L4 : LsAt K H (.ref b4) (Gf.map fD)
  M1 : LsAt K H (.ref p1) (x.S.map PyData.str)
  M2 : LsAt K H (.ref p2) (x.F.map fD)
  M3 : LsAt K H (.ref p3) (x.P.map pD)
  M4 : LsAt K H (.ref p4) (Gf.map fD)
  h5 : H pq = some (.lst [.ref p1, .ref p2, .ref p3, .ref p4])
  hz : H pp = some (.lst (zs.map V.str))
  zl : zs.length ≤ 1000
  ok : RowsB x.S x.rows
  okG : ∀ G : List (Str × List Str × Str), (∀ r ∈ G, r ∈ Gf) → G.length ≤ 40 → RowsB x.S (Lex.rows ⟨x.S, x.F ++ G, x.P⟩)
  lG : Gf.length ≤ 40
  n1 : b1 ∉ [p1, p2, p3, p4]
  n2 : b2 ∉ [p1, p2, p3, p4]
  n3 : b3 ∉ [p1, p2, p3, p4]
  n5 : pp ∉ [p1, p2, p3, p4]
  n6 : pq ∉ [p1, p2, p3, p4]
  n12 : p1 ≠ p2
  n13 : p1 ≠ p3
  n14 : p1 ≠ p4
  n23 : p2 ≠ p3
  n24 : p2 ≠ p4
  n34 : p3 ≠ p4
theorem Big.mono {K : PySem.W.Frag} {H H' : Hp} {b1 b2 b3 b4 p1 p2 p3 p4 pq pp : Addr} {x : Lex} {Gf : List (Str × List Str × Str)} {zs : List Str} (B : Big K H b1 b2 b3 b4 p1 p2 p3 p4 pq pp x Gf zs) (X : Xt H H') : Big K H' b1 b2 b3 b4 p1 p2 p3 p4 pq pp x Gf zs :=
  { B with L1 := B.L1.mono X, L2 := B.L2.mono X, L3 := B.L3.mono X, L4 := B.L4.mono X, M1 := B.M1.mono X, M2 := B.M2.mono X, M3 := B.M3.mono X, M4 := B.M4.mono X, h5 := X _ _ B.h5, hz := X _ _ B.hz }
theorem Big.pqs {K : PySem.W.Frag} {H : Hp} {b1 b2 b3 b4 p1 p2 p3 p4 pq pp : Addr} {x : Lex} {Gf : List (Str × List Str × Str)} {zs : List Str} (B : Big K H b1 b2 b3 b4 p1 p2 p3 p4 pq pp x Gf zs) : Dp K H (.ref pq) (.list [.list (x.S.map PyData.str), .list (x.F.map fD), .list (x.P.map pD), .list (Gf.map fD)]) :=
  .of_lst B.h5 (.cons B.M1.dp (.cons B.M2.dp (.cons B.M3.dp (.cons B.M4.dp .nil))))
theorem Big.lss {K : PySem.W.Frag} {H : Hp} {b1 b2 b3 b4 p1 p2 p3 p4 pq pp p : Addr} {x : Lex} {Gf : List (Str × List Str × Str)} {zs : List Str} (B : Big K H b1 b2 b3 b4 p1 p2 p3 p4 pq pp x Gf zs) (e : H p = some (.lst [.ref b1, .ref b2, .ref b3, .ref b4])) : Dp K H (.ref p) (.list [.list (x.S.map PyData.str), .list (x.F.map fD), .list (x.P.map pD), .list (Gf.map fD)]) :=
  .of_lst e (.cons B.L1.dp (.cons B.L2.dp (.cons B.L3.dp (.cons B.L4.dp .nil))))
theorem Big.sh {K : PySem.W.Frag} {H : Hp} {b1 b2 b3 b4 p1 p2 p3 p4 pq pp : Addr} {x : Lex} {Gf : List (Str × List Str × Str)} {zs : List Str} (B : Big K H b1 b2 b3 b4 p1 p2 p3 p4 pq pp x Gf zs) : ShD 5 (.list [.list (x.S.map PyData.str), .list (x.F.map fD), .list (x.P.map pD), .list (Gf.map fD)]) := ShD.lst fun d hd => by
  rcases List.mem_cons.mp hd with rfl | hd
  · exact ShD.lst (sh_S B.ok)
  rcases List.mem_cons.mp hd with rfl | hd
  · exact ShD.lst (sh_F B.ok)
  rcases List.mem_cons.mp hd with rfl | hd
  · exact ShD.lst (sh_P B.ok)
  · cases List.mem_singleton.mp hd
    refine ShD.lst fun d hd => sh_F (x := ⟨x.S, x.F ++ Gf, x.P⟩) (B.okG Gf (fun r h => h) B.lG) d ?_
    show d ∈ (x.F ++ Gf).map fD
    rw [List.map_append]
    exact List.mem_append.mpr (.inr hd)
theorem nin4 {b p1 p2 p3 p4 : Addr} (h1 : b ≠ p1) (h2 : b ≠ p2) (h3 : b ≠ p3) (h4 : b ≠ p4) : b ∉ [p1, p2, p3, p4] := fun h => by
  rcases List.mem_cons.mp h with h | h
  · exact h1 h
  rcases List.mem_cons.mp h with h | h
  · exact h2 h
  rcases List.mem_cons.mp h with h | h
  · exact h3 h
  · exact h4 (List.mem_singleton.mp h)
theorem k_makeK {C : Addr} {n m : Nat} {sp : Sp} {gV : List V → List V → List V} {E : XK} {t tk : TA} {σ : L2.St} {H : Hp} {Q : VK} (h : t σ H fun vs H1 => tk σ H1 fun zs H2 => vs.length = n ∧ zs.length = m ∧ ∀ x dx, H2 x = none → H2 dx = none → dx ≠ x → sp (gV (.ref x :: vs) zs) (upd (upd H2 dx (.own x)) x (.ins C dx [])) (fun v H3 => v = .non ∧ Q (.ref x) H3) E) : tMakeK C n m sp gV E t tk σ H Q := h
theorem cutP_take (ds : List PyData) (k : Nat) : cutP ds none (some (k : Int)) = ds.take k := by
  unfold cutP
  rw [HT.sIx_none, HT.sIx_nat, List.drop_zero, Nat.sub_zero]
  by_cases h : k ≤ ds.length
  · rw [Nat.min_eq_left h]
  · rw [Nat.min_eq_right (by omega), List.take_of_length_le (Nat.le_refl _), List.take_of_length_le (by omega)]
theorem cutP_drop (ds : List PyData) (k : Nat) : cutP ds (some (k : Int)) none = ds.drop k := by
  unfold cutP
  rw [HT.sIx_none, HT.sIx_nat]
  by_cases h : k ≤ ds.length
  · rw [Nat.min_eq_left h, List.take_of_length_le (by rw [List.length_drop]; omega)]
  · rw [Nat.min_eq_right (by omega), List.drop_of_length_le (Nat.le_refl _), List.drop_of_length_le (by omega), List.take_nil]
theorem cutP_zero (ds : List PyData) : cutP ds none (some 0) = [] := (cutP_take ds 0).trans List.take_zero
theorem Xm.of {ps : List Addr} {H H1 : Hp} (x : Xt H H1) : Xm ps H H1 := fun b o e _ => x b o e
theorem LsAt.lst {K : PySem.W.Frag} {H : Hp} {b : Addr} {ds : List PyData} (h : LsAt K H (.ref b) ds) : ∃ xs, H b = some (.lst xs) ∧ DpAll K H xs ds := by
  obtain ⟨a, xs, e, e2, hd⟩ := h
  cases e
  exact ⟨xs, e2, hd⟩
theorem Xm.la {K : PySem.W.Frag} {ps : List Addr} {H H' : Hp} {b : Addr} {ds : List PyData} (e : Xm ps H H') (hp : ∀ b ∈ ps, ∃ xs, H b = some (.lst xs)) (h : LsAt K H (.ref b) ds) (im : ImAll ds = true) (n : b ∉ ps) : LsAt K H' (.ref b) ds := by
  obtain ⟨xs, e2, hd⟩ := h.lst
  exact e.ls hp e2 hd im n
section
variable {K : PySem.W.Frag} {H : Hp} {b1 b2 b3 b4 p1 p2 p3 p4 pq pp : Addr} {x : Lex} {Gf : List (Str × List Str × Str)} {zs : List Str}
theorem Big.lsts (B : Big K H b1 b2 b3 b4 p1 p2 p3 p4 pq pp x Gf zs) : ∀ b ∈ [p1, p2, p3, p4], ∃ xs, H b = some (.lst xs) := fun b hb => by
  rcases List.mem_cons.mp hb with rfl | hb
  · obtain ⟨xs, e, _⟩ := B.M1.lst; exact ⟨xs, e⟩
  rcases List.mem_cons.mp hb with rfl | hb
  · obtain ⟨xs, e, _⟩ := B.M2.lst; exact ⟨xs, e⟩
  rcases List.mem_cons.mp hb with rfl | hb
  · obtain ⟨xs, e, _⟩ := B.M3.lst; exact ⟨xs, e⟩
  · cases List.mem_singleton.mp hb
    obtain ⟨xs, e, _⟩ := B.M4.lst; exact ⟨xs, e⟩
theorem Big.fresh (B : Big K H b1 b2 b3 b4 p1 p2 p3 p4 pq pp x Gf zs) {a : Addr} (n : H a = none) : a ∉ [p1, p2, p3, p4] := fun m => by
  obtain ⟨xs, e⟩ := B.lsts a m
  rw [n] at e; cases e
theorem Big.okF (B : Big K H b1 b2 b3 b4 p1 p2 p3 p4 pq pp x Gf zs) : RowsB x.S (Lex.rows ⟨x.S, x.F ++ Gf, x.P⟩) := B.okG Gf (fun r h => h) B.lG
end
def law_tail {P : Program} {K : PySem.W.Frag} {mg : Str → Option Value} (T : Top0 P K mg) : TS := (tSeq (tIfS (tTest (tOp (rNeU K) (tVar 15) (tLst (tCons (tVar 9) (tCons (tVar 10) (tCons (tVar 11) (tCons (tVar 12) tNil))))))) (tRet (tC (V.bl false))) tNext) (tSeq (tDrop (tBM K "list" rAppend (tOp (rIx K) (tVar 15) (tC (V.int 0))) (tCons (tC (V.str (Str.ofString "zz"))) tNil))) (tSeq (tDrop (tBM K "list" rAppend (tOp (rIx K) (tVar 15) (tC (V.int 1))) (tCons (tTup (tCons (tC (V.str (Str.ofString "zy"))) (tCons (tTup tNil) (tCons (tC (V.str (Str.ofString "zz"))) tNil)))) tNil))) (tSeq (tDrop (tBM0 K "list" rClear (tOp (rIx K) (tVar 15) (tC (V.int 2))))) (tSeq (tDrop (tBM K "list" rAppend (tOp (rIx K) (tVar 15) (tC (V.int 3))) (tCons (tTup (tCons (tC (V.str (Str.ofString "zx"))) (tCons (tTup tNil) (tCons (tC (V.str (Str.ofString "zz"))) tNil)))) tNil))) (tRet (tAndV (tCall (sp__law_fits T) [] E0 (tCons (tVar 17) (tCons (tVar 9) (tCons (tVar 10) (tCons (tVar 11) (tCons (tVar 14) tNil)))))) (tCall (sp__law_fits T) [] E0 (tCons (tVar 18) (tCons (tVar 9) (tCons (tVar 19) (tCons (tVar 11) (tCons (tVar 14) tNil)))))))))))))
def law_none {P : Program} {K : PySem.W.Frag} {mg : Str → Option Value} (T : Top0 P K mg) : TS := (tSeq (tAsg (tOp (rPlus K) (tVar 10) (tVar 12)) (gName 19)) (tSeq (tAsg (tMeth T.C_Vocabulary (Str.ofString "extended") (sp_Vocabulary_extended T) [] E0 (tVar 17) (tCons (tOp (rIx K) (tVar 15) (tC (V.int 3))) tNil)) (gName 18)) (tSeq (tAsg (tOp (rI CDivW fun i j => V.int (i / j)) (tCB (rLenU K) (tCons (tVar 12) tNil)) (tC (V.int 2))) (gName 20)) (tSeq (tAsg (tMeth T.C_Vocabulary (Str.ofString "extended") (sp_Vocabulary_extended T) [] E0 (tMeth T.C_Vocabulary (Str.ofString "extended") (sp_Vocabulary_extended T) [] E0 (tVar 17) (tCons (tCB (rTup K) (tCons (tSl (rSlU K) (tVar 12) tNoPart (tPart (tVar 20))) tNil)) tNil)) (tCons (tSl (rSlU K) (tVar 12) (tPart (tVar 20)) tNoPart) tNil)) (gName 21)) (tIfS (tOr (tNot (tB (tCall (sp__law_fits T) [] E0 (tCons (tVar 18) (tCons (tVar 9) (tCons (tVar 19) (tCons (tVar 11) (tCons (tVar 14) tNil)))))))) (tNot (tB (tCall (sp__law_fits T) [] E0 (tCons (tVar 21) (tCons (tVar 9) (tCons (tVar 19) (tCons (tVar 11) (tCons (tVar 14) tNil))))))))) (tRet (tC (V.bl false))) tNext)))))
def law_sec5 {P : Program} {K : PySem.W.Frag} {mg : Str → Option Value} (T : Top0 P K mg) : TS := (tSeq (tAsg (tMethN T.C_Vocabulary (Str.ofString "extended") [Str.ofString "functions"].length (sp_Vocabulary_extended T) (fun us ws => us ++ ws) E0 (tMakeK T.C_Vocabulary 0 [Str.ofString "predicates", Str.ofString "functions", Str.ofString "sorts"].length (sp_Vocabulary___init__ T) (fun us ws => us ++ ws.reverse) E0 tNil (tCons (tOp (rIx K) (tVar 15) (tC (V.int 2))) (tCons (tOp (rIx K) (tVar 15) (tC (V.int 1))) (tCons (tOp (rIx K) (tVar 15) (tC (V.int 0))) tNil)))) (tCons (tSl (rSlU K) (tOp (rIx K) (tVar 15) (tC (V.int 3))) tNoPart (tPart (tC (V.int 0)))) tNil)) (gName 18)) (tSeq (tIfS (tNot (tB (tCall (sp__law_fits T) [] E0 (tCons (tVar 18) (tCons (tVar 9) (tCons (tVar 10) (tCons (tVar 11) (tCons (tVar 14) tNil)))))))) (tRet (tC (V.bl false))) tNext) (tSeq (tAsg (tCB (rLst K) (tCons (tVar 10) tNil)) (gName 19)) (Evl.tCut (tIfS (tTest (tOp (rEqU K) (tOp (rIx K) (tVar 16) (tC (V.int 0))) (tC (V.int 0)))) (law_none T) tNext) (law_tail T)))))
def LawMid {P : Program} {K : PySem.W.Frag} {mg : Str → Option Value} (T : Top0 P K mg) (l hp bp mp cp rl b1 b2 b3 b4 p6 pp pq du vo p1 p2 p3 p4 : Addr) (v : V) (y8 : Option V) (x : Lex) (Gf : List (Str × List Str × Str)) (zs : List Str) : L2.St → Hp → Prop := fun σ' H' => ∃ (wd th : Addr) (y20 y21 : Option V) (G2 : List (Str × List Str × Str)),
  σ' = [some (.ref l), some (.ref hp), some (.ref bp), some (.str smallS), some (v), some (.ref mp), some (.ref cp), some (.ref rl), y8, some (.ref b1), some (.ref b2), some (.ref b3), some (.ref b4), some (.ref p6), some (.ref pp), some (.ref pq), some (.ref du), some (.ref vo), some (.ref wd), some (.ref th), y20, y21, none, none] ∧
  Big K H' b1 b2 b3 b4 p1 p2 p3 p4 pq pp x Gf zs ∧ VocX K T.C_Vocabulary H' vo x ∧ VocX K T.C_Vocabulary H' wd ⟨x.S, x.F ++ G2, x.P⟩ ∧ LsAt K H' (.ref th) ((x.F ++ G2).map fD) ∧ th ∉ [p1, p2, p3, p4] ∧ RowsB x.S (Lex.rows ⟨x.S, x.F ++ G2, x.P⟩) ∧ chkF x.S (Lex.rows ⟨x.S, x.F ++ G2, x.P⟩) [] = none
end K00

set_option Elab.async false
set_option linter.all false
set_option maxRecDepth 100000
set_option maxHeartbeats 2000000
namespace K00
open PySem PySem.Spec PyProof.Rows L2 NdefX CW RZ
open PySem.W (fnX)
def sp_lawK (K : PySem.W.Frag) : Sp := fun vs H Q _ => ∃ (l : Addr) (ns : List Int), vs = [.ref l] ∧ SqL K H l (ns.map V.int) ∧ ns.length ≤ 63 ∧ ∀ H', Q (.bl true) H'
local macro_rules | `(tactic| walk_at "lb") => `(tactic| repeat' (with_reducible first | refine' lb_app ?_ ?_ | refine' lb_cut ?_ | exact lb_one | refine' lb_up ?_ | exact Nat.le_refl _))
local macro_rules | `(tactic| walk_at "s1") => `(tactic| with_reducible first
  | refine k_seq ?_ | refine k_asg ?_ | refine k_ret ?_ | refine k_drop ?_ | refine k_ifs ?_ | refine k_next ?_
  | refine k_name ?_ | refine k_c ?_ | refine k_op ?_ | refine k_cons ?_ | refine k_nil ?_ | refine k_cb ?_ | refine k_call ?_ | refine k_un ?_
  | refine k_test ?_ | refine k_tb ?_ | refine k_not ?_ | refine k_and ?_ | refine k_or ?_ | refine k_andV ?_ | refine k_orV ?_ | refine k_notV ?_ | refine k_ife ?_ | refine k_chain ?_
  | refine k_callN ?_ | refine k_fld ?_ | refine k_sfld ?_ | refine k_dget ?_ | refine k_din ?_ | refine k_dput ?_ | refine k_meth ?_ | refine k_make ?_ | refine k_dc ?_ | refine k_bm0 ?_ | refine k_lst0 ?_ | refine k_tup0 ?_ | refine k_bm ?_ | refine k_for ?_ | refine k_ilist ?_ | refine k_itup ?_ | refine k_istr ?_ | refine k_izip ?_ | refine k_irng1 ?_ | refine k_irng2 ?_ | refine k_rev ?_ | refine v_isstr ?_ | refine v_isi_str ?_ | refine v_isi_bool ?_ | refine k_sl ?_ | refine k_nopart ?_ | refine k_part ?_ | refine k_lcl ?_ | refine k_m0 ?_ | refine k_m1 ?_ | refine k_bl ?_
  | refine v_I0 ?_ | refine v_plus_int ?_ | refine v_int ?_ | refine v_neg ?_ | refine v_in_s ?_ | refine v_notin_s ?_ | refine w_in_s ?_ | refine w_notin_s ?_ | refine v_isN ?_ | refine v_notN ?_ | refine v_leS ?_ | refine k_tr ?_ | refine v_isi_int ?_ | refine v_isi_intB ?_)
local macro_rules | `(tactic| walk_at "s") => `(tactic| first
  | walk_at "s1"
  | ((with_reducible refine' k_var ?hv ?_); case hv => exact rfl)
  | ((with_reducible refine' v_I ?hc ?_); case hc => first | (show (0 : Int) < _; first | decide | omega | assumption) | exact ⟨by decide, by decide⟩ | exact ⟨by decide, by decide, by decide⟩ | exact ⟨by omega, by decide⟩)
  | ((with_reducible refine' v_times_int ?hc ?_); case hc => first | exact .inr ⟨by decide, by decide⟩ | exact .inl ⟨by decide, by decide⟩ | exact .inr ⟨by omega, by omega⟩ | exact .inl ⟨by omega, by omega⟩)
  | ((with_reducible refine' u_times_int ?hc ?_); case hc => first | exact .inr ⟨by decide, by decide⟩ | exact .inl ⟨by decide, by decide⟩ | exact .inr ⟨by omega, by omega⟩ | exact .inl ⟨by omega, by omega⟩)
  | ((with_reducible refine' v_eq ?hc ?_); case hc => exact rfl)
  | ((with_reducible refine' v_ne ?hc ?_); case hc => exact rfl)
  | ((with_reducible refine' v_eqU ?hc ?_); case hc => exact rfl)
  | ((with_reducible refine' v_neU ?hc ?_); case hc => exact rfl)
  | ((with_reducible refine' v_len_l ?hc ?_); case hc => first | assumption | exact sql (by assumption))
  | ((with_reducible refine' v_len_s ?hc ?_); case hc => first | exact szL (by omega) | decide)
  | ((with_reducible refine' v_ix_l ?hs ?ha ?_); (case hs => first | assumption | exact sql (by assumption)); (case ha => assumption))
  | ((with_reducible refine' v_sl_s ?hc ?_); case hc => first | exact szL (Nat.le_trans (by walk_at "lb") (by omega)) | exact szL (by omega) | decide)
  | ((with_reducible refine' v_plus_str ?hc ?_); case hc => first | exact szL (Nat.le_trans (Nat.add_le_add (by walk_at "lb") (by walk_at "lb")) (by omega)) | exact szL (by omega) | decide)
  | ((with_reducible refine' v_new ?hz ?_); case hz => first | decide | (simp only [List.length_cons, List.length_nil]; decide))
  | ((with_reducible refine' v_newT ?hz ?_); case hz => first | decide | (simp only [List.length_cons, List.length_nil]; decide))
  | ((with_reducible refine' v_upper ?hz ?_); case hz => (refine Nat.le_trans (by walk_at "lb") ?_; omega))
  | ((with_reducible refine' v_times_str ?hz ?_); case hz => exact ⟨by omega, by omega, by omega⟩)
  | ((with_reducible refine' u_times_str ?hz ?_); case hz => exact ⟨by omega, by omega, by omega⟩)
  | refine ⟨(rfl : List.length _ = _), (rfl : List.length _ = _), ?_⟩
  | with_reducible refine' ⟨_, rfl, ?_⟩
  | refine k_no ?_ | refine k_yes ?_)
local macro_rules | `(tactic| walk_at "s") => `(tactic| with_reducible first | refine k_mkx ?_ | refine k_xv ?_)
local macro_rules | `(tactic| walk_at "tx") => `(tactic| first | assumption | exact Tx.lit (by decide +kernel))
local macro_rules | `(tactic| walk_at "t") => `(tactic| first
  | ((with_reducible refine' vT_plus ?h1 ?h2 ?h3 fun _ => ?_); (case h1 => walk_at "tx"); (case h2 => walk_at "tx"); (case h3 => omega))
  | ((with_reducible refine' vT_cut ?h1 ?h3 fun _ => ?_); (case h1 => walk_at "tx"); (case h3 => omega))
  | ((with_reducible refine' vT_up ?h1 ?h3 fun _ => ?_); (case h1 => walk_at "tx"); (case h3 => omega))
  | ((with_reducible refine' w_in_s ?_))
  | ((with_reducible refine' w_notin_s ?_))
  | walk_at "s")
local macro_rules | `(tactic| walk_at "alls") => `(tactic| repeat first | exact alls_nil | refine alls_cons (Tx.le (by walk_at "tx") (by omega)) ?_)
local macro_rules | `(tactic| walk_at "0") => `(tactic| (with_reducible refine k_seq ?_))
local macro_rules | `(tactic| walk_at "1") => `(tactic| (with_reducible refine k_asg ?_))
local macro_rules | `(tactic| walk_at "2") => `(tactic| (with_reducible refine k_ret ?_))
local macro_rules | `(tactic| walk_at "3") => `(tactic| (with_reducible refine k_drop ?_))
local macro_rules | `(tactic| walk_at "4") => `(tactic| (with_reducible refine k_ifs ?_))
local macro_rules | `(tactic| walk_at "5") => `(tactic| (with_reducible refine k_next ?_))
local macro_rules | `(tactic| walk_at "6") => `(tactic| (with_reducible refine k_name ?_))
local macro_rules | `(tactic| walk_at "7") => `(tactic| (with_reducible refine k_c ?_))
local macro_rules | `(tactic| walk_at "8") => `(tactic| (with_reducible refine k_op ?_))
local macro_rules | `(tactic| walk_at "9") => `(tactic| (with_reducible refine k_cons ?_))
local macro_rules | `(tactic| walk_at "10") => `(tactic| (with_reducible refine k_nil ?_))
local macro_rules | `(tactic| walk_at "11") => `(tactic| (with_reducible refine k_cb ?_))
local macro_rules | `(tactic| walk_at "12") => `(tactic| (with_reducible refine k_call ?_))
local macro_rules | `(tactic| walk_at "13") => `(tactic| (with_reducible refine k_un ?_))
local macro_rules | `(tactic| walk_at "14") => `(tactic| (with_reducible refine k_test ?_))
local macro_rules | `(tactic| walk_at "15") => `(tactic| (with_reducible refine k_tb ?_))
local macro_rules | `(tactic| walk_at "16") => `(tactic| (with_reducible refine k_not ?_))
local macro_rules | `(tactic| walk_at "17") => `(tactic| (with_reducible refine k_and ?_))
local macro_rules | `(tactic| walk_at "18") => `(tactic| (with_reducible refine k_or ?_))
local macro_rules | `(tactic| walk_at "19") => `(tactic| (with_reducible refine k_andV ?_))
local macro_rules | `(tactic| walk_at "20") => `(tactic| (with_reducible refine k_orV ?_))
local macro_rules | `(tactic| walk_at "21") => `(tactic| (with_reducible refine k_notV ?_))
local macro_rules | `(tactic| walk_at "23") => `(tactic| (with_reducible refine k_chain ?_))
local macro_rules | `(tactic| walk_at "25") => `(tactic| (with_reducible refine k_fld ?_))
local macro_rules | `(tactic| walk_at "26") => `(tactic| (with_reducible refine k_sfld ?_))
local macro_rules | `(tactic| walk_at "27") => `(tactic| (with_reducible refine k_dget ?_))
local macro_rules | `(tactic| walk_at "28") => `(tactic| (with_reducible refine k_din ?_))
local macro_rules | `(tactic| walk_at "29") => `(tactic| (with_reducible refine k_dput ?_))
local macro_rules | `(tactic| walk_at "30") => `(tactic| (with_reducible refine k_meth ?_))
local macro_rules | `(tactic| walk_at "31") => `(tactic| (with_reducible refine k_make ?_))
local macro_rules | `(tactic| walk_at "32") => `(tactic| (with_reducible refine k_dc ?_))
local macro_rules | `(tactic| walk_at "33") => `(tactic| (with_reducible refine k_bm0 ?_))
local macro_rules | `(tactic| walk_at "34") => `(tactic| (with_reducible refine k_lst0 ?_))
local macro_rules | `(tactic| walk_at "35") => `(tactic| (with_reducible refine k_tup0 ?_))
local macro_rules | `(tactic| walk_at "36") => `(tactic| (with_reducible refine k_bm ?_))
local macro_rules | `(tactic| walk_at "37") => `(tactic| (with_reducible refine k_for ?_))
local macro_rules | `(tactic| walk_at "38") => `(tactic| (with_reducible refine k_ilist ?_))
local macro_rules | `(tactic| walk_at "39") => `(tactic| (with_reducible refine k_itup ?_))
local macro_rules | `(tactic| walk_at "40") => `(tactic| (with_reducible refine k_istr ?_))
local macro_rules | `(tactic| walk_at "42") => `(tactic| (with_reducible refine k_irng1 ?_))
local macro_rules | `(tactic| walk_at "43") => `(tactic| (with_reducible refine k_irng2 ?_))
local macro_rules | `(tactic| walk_at "45") => `(tactic| (with_reducible refine v_isstr ?_))
local macro_rules | `(tactic| walk_at "46") => `(tactic| (with_reducible refine v_isi_str ?_))
local macro_rules | `(tactic| walk_at "48") => `(tactic| (with_reducible refine k_sl ?_))
local macro_rules | `(tactic| walk_at "49") => `(tactic| (with_reducible refine k_nopart ?_))
local macro_rules | `(tactic| walk_at "50") => `(tactic| (with_reducible refine k_part ?_))
local macro_rules | `(tactic| walk_at "51") => `(tactic| (with_reducible refine k_lcl ?_))
local macro_rules | `(tactic| walk_at "52") => `(tactic| (with_reducible refine k_m0 ?_))
local macro_rules | `(tactic| walk_at "53") => `(tactic| (with_reducible refine k_m1 ?_))
local macro_rules | `(tactic| walk_at "55") => `(tactic| (with_reducible refine v_I0 ?_))
local macro_rules | `(tactic| walk_at "56") => `(tactic| (with_reducible refine v_plus_int ?_))
local macro_rules | `(tactic| walk_at "57") => `(tactic| (with_reducible refine v_int ?_))
local macro_rules | `(tactic| walk_at "58") => `(tactic| (with_reducible refine v_neg ?_))
local macro_rules | `(tactic| walk_at "61") => `(tactic| (with_reducible refine w_in_s ?_))
local macro_rules | `(tactic| walk_at "62") => `(tactic| (with_reducible refine w_notin_s ?_))
local macro_rules | `(tactic| walk_at "63") => `(tactic| (with_reducible refine v_isN ?_))
local macro_rules | `(tactic| walk_at "64") => `(tactic| (with_reducible refine v_notN ?_))
local macro_rules | `(tactic| walk_at "69") => `(tactic| (((with_reducible refine' k_var ?hv ?_); case hv => exact rfl)))
local macro_rules | `(tactic| walk_at "70") => `(tactic| (((with_reducible refine' v_I ?hc ?_); case hc => first | (show (0 : Int) < _; first | decide | omega | assumption) | exact ⟨by decide, by decide⟩ | exact ⟨by decide, by decide, by decide⟩ | exact ⟨by omega, by decide⟩)))
local macro_rules | `(tactic| walk_at "72") => `(tactic| (((with_reducible refine' u_times_int ?hc ?_); case hc => first | exact .inr ⟨by decide, by decide⟩ | exact .inl ⟨by decide, by decide⟩ | exact .inr ⟨by omega, by omega⟩ | exact .inl ⟨by omega, by omega⟩)))
local macro_rules | `(tactic| walk_at "75") => `(tactic| (((with_reducible refine' v_eqU ?hc ?_); case hc => exact rfl)))
local macro_rules | `(tactic| walk_at "76") => `(tactic| (((with_reducible refine' v_neU ?hc ?_); case hc => exact rfl)))
local macro_rules | `(tactic| walk_at "77") => `(tactic| (((with_reducible refine' v_len_l ?hc ?_); case hc => first | assumption | exact sql (by assumption))))
local macro_rules | `(tactic| walk_at "78") => `(tactic| (((with_reducible refine' v_len_s ?hc ?_); case hc => first | exact szL (by omega) | decide)))
local macro_rules | `(tactic| walk_at "79") => `(tactic| (((with_reducible refine' v_ix_l ?hs ?ha ?_); (case hs => first | assumption | exact sql (by assumption)); (case ha => assumption))))
local macro_rules | `(tactic| walk_at "80") => `(tactic| (((with_reducible refine' v_sl_s ?hc ?_); case hc => first | exact szL (Nat.le_trans (by walk_at "lb") (by omega)) | exact szL (by omega) | decide)))
local macro_rules | `(tactic| walk_at "82") => `(tactic| (((with_reducible refine' v_new ?hz ?_); case hz => first | decide | (simp only [List.length_cons, List.length_nil]; decide))))
local macro_rules | `(tactic| walk_at "83") => `(tactic| (((with_reducible refine' v_newT ?hz ?_); case hz => first | decide | (simp only [List.length_cons, List.length_nil]; decide))))
local macro_rules | `(tactic| walk_at "87") => `(tactic| (refine ⟨(rfl : List.length _ = _), (rfl : List.length _ = _), ?_⟩))
local macro_rules | `(tactic| walk_at "88") => `(tactic| (with_reducible refine' ⟨_, rfl, ?_⟩))
local macro_rules | `(tactic| walk_at "89") => `(tactic| (refine k_no ?_))
local macro_rules | `(tactic| walk_at "90") => `(tactic| (refine k_yes ?_))
local macro_rules | `(tactic| walk_at "91") => `(tactic| (((with_reducible refine' vT_plus ?h1 ?h2 ?h3 fun _ => ?_); (case h1 => walk_at "tx"); (case h2 => walk_at "tx"); (case h3 => omega))))
local macro_rules | `(tactic| walk_at "92") => `(tactic| (((with_reducible refine' vT_cut ?h1 ?h3 fun _ => ?_); (case h1 => walk_at "tx"); (case h3 => omega))))
local macro_rules | `(tactic| walk_at "93") => `(tactic| (((with_reducible refine' vT_up ?h1 ?h3 fun _ => ?_); (case h1 => walk_at "tx"); (case h3 => omega))))
local macro_rules | `(tactic| walk_at "95") => `(tactic| (((with_reducible refine' w_notin_s ?_))))
section
variable {P : Program} {w : World} {K : PySem.W.Frag} {mg : Str → Option Value} {base : Heap}
theorem ok__law_cell (T : Top0 P K mg) : FnOk P w K mg base CX0 1 T.f__law_cell T.fd__law_cell ["script", "k"] (sp__law_cell T) := by
  refine T.F__law_cell.ok sc__law_cell (fun vs H Q E h => ?_) (fun cdv A outer s H vs Q E hr h => ?_)
  · obtain ⟨l, ns, k, rfl, hS, hn, hk, q⟩ := h
    rfl
  · obtain ⟨l, ns, k, rfl, hS, hn, hk, q⟩ := h
    refine ⟨_, (pss_cons (ps_if (pt_cmpR op_lt (pv 1) (pe_callB (r := rLenU K) call_lenU (by rfl) T.n_len PySem.boot_len (pa_cons (pv 0) pa_nil)) (nomark _)) (pss_one (ps_ret (pe_ix (r := rIx K) ix_seq (pv 0) (pv 1) (fun _ _ => rfl)))) pss_nil)
      (pss_cons (ps_set (i := 2) sc__law_cell.nd rfl (Or.inl rfl) pe_int)
      (pss_cons (ps_for PassesOwn.never rfl (pi_list (pv 0)) (pg_name (i := 3) sc__law_cell.nd rfl (Or.inl rfl)) (pss_one (ps_set (i := 2) sc__law_cell.nd rfl (Or.inl rfl) (pe_op op_mod (pe_callTy call_intU (by rfl) T.n_int PyProof.Rows.boot_int (pa_cons (pe_op (r := rPlus K) op_plus (pe_op op_timesU (pv 2) pe_int) (pe_op op_mod (pe_callTy call_intU (by rfl) T.n_int PyProof.Rows.boot_int (pa_cons (pv 3) pa_nil)) pe_int)) pa_nil)) pe_int))))
      (pss_one (ps_ret (pe_op op_mod (pe_callTy call_intU (by rfl) T.n_int PyProof.Rows.boot_int (pa_cons (pe_op op_timesU (pe_op op_timesU (pe_op (r := rPlus K) op_plus (pv 2) pe_int) (pe_op (r := rPlus K) op_plus (pv 1) pe_int)) pe_int) pa_nil)) pe_int)))))), ?_⟩
    walk_at "0"
    walk_at "4"
    walk_at "14"
    walk_at "8"
    walk_at "69"
    walk_at "11"
    walk_at "9"
    walk_at "69"
    walk_at "10"
    walk_at "77"
    walk_at "55"
    walk_at "88"
    refine k_if (fun hlt => ?_) (fun hge => ?_)
    · rw [List.length_map] at hlt
      obtain ⟨n, e, _⟩ := atI_int (ns := ns) (i := k) hk.1 hlt
      walk_at "2"
      walk_at "8"
      walk_at "69"
      walk_at "69"
      walk_at "79"
      exact q n
    · walk_at "5"
      walk_at "0"
      walk_at "1"
      walk_at "7"
      walk_at "6"
      walk_at "0"
      walk_at "37"
      walk_at "38"
      walk_at "69"
      walk_at "88"
      refine ⟨⟨_, hS⟩, for_list (xs := ns.map V.int) (fun i σ' H' => ∃ sd y, σ' = [some (.ref l), some (.int k), some (.int sd), y] ∧ 0 ≤ sd ∧ sd < 1000003 ∧ H' = H) ⟨17, none, rfl, by decide, by decide, rfl⟩ ?_ ?_ ?_⟩
      · rintro i σ' H' hi ⟨sd, y, rfl, h1, h2, rfl⟩
        exact hS
      · rintro i x σ' H' hx ⟨sd, y, rfl, h1, h2, rfl⟩
        obtain ⟨n, rfl, _⟩ := map_int_at hx
        walk_at "6"
        walk_at "1"
        walk_at "8"
        walk_at "11"
        walk_at "9"
        walk_at "8"
        walk_at "8"
        walk_at "69"
        walk_at "7"
        walk_at "72"
        walk_at "8"
        walk_at "11"
        walk_at "9"
        walk_at "69"
        walk_at "10"
        walk_at "57"
        walk_at "7"
        walk_at "70"
        walk_at "56"
        walk_at "10"
        walk_at "57"
        walk_at "7"
        walk_at "70"
        walk_at "6"
        exact ⟨_, _, rfl, by omega, by omega, rfl⟩
      · rintro σ' H' ⟨sd, y, rfl, h1, h2, rfl⟩
        walk_at "2"
        walk_at "8"
        walk_at "11"
        walk_at "9"
        walk_at "8"
        walk_at "8"
        walk_at "8"
        walk_at "69"
        walk_at "7"
        walk_at "56"
        walk_at "8"
        walk_at "69"
        walk_at "7"
        walk_at "56"
        walk_at "72"
        walk_at "7"
        walk_at "72"
        walk_at "10"
        walk_at "57"
        walk_at "7"
        walk_at "70"
        exact q _


theorem ok__law_digits (T : Top0 P K mg) : FnOk P w K mg base CX0 1 T.f__law_digits T.fd__law_digits ["cell", "sizes"] (sp__law_digits T) := by
  refine T.F__law_digits.ok sc__law_digits (fun vs H Q E h => ?_) (fun cdv A outer s H vs Q E hr h => ?_)
  · obtain ⟨c, a, ss, rfl, hS, hl, hb, q⟩ := h
    rfl
  · obtain ⟨c, a, ss, rfl, hS, hl, hb, q⟩ := h
    refine ⟨_, (pss_cons (ps_set (i := 2) sc__law_digits.nd rfl (Or.inl rfl) (pe_lst pa_nil))
      (pss_cons (ps_set (i := 3) sc__law_digits.nd rfl (Or.inl rfl) (pe_callTy call_intU (by rfl) T.n_int PyProof.Rows.boot_int (pa_cons (pv 0) pa_nil)))
      (pss_cons (ps_if (pt_cmpR op_ge (pv 3) (pe_op op_pow pe_int pe_int) (nomark _)) (pss_cons (ps_set (i := 3) sc__law_digits.nd rfl (Or.inl rfl) (pe_op op_sub (pv 3) (pe_op op_pow pe_int pe_int)))
      (pss_cons (ps_for PassesOwn.never rfl (pi_list (pv 1)) (pg_name (i := 4) sc__law_digits.nd rfl (Or.inl rfl)) (pss_cons (ps_expr (pe_bm PySem.F.plainAttrs_list PySem.F.slot_list_append PySem.F.type_list_append mt_append (pv 2) (pa_cons (pe_op op_mod (pe_callTy call_intU (by rfl) T.n_int PyProof.Rows.boot_int (pa_cons (pv 3) pa_nil)) (pv 4)) pa_nil)))
      (pss_one (ps_set (i := 3) sc__law_digits.nd rfl (Or.inl rfl) (pe_op op_fdivW (pe_callTy call_intU (by rfl) T.n_int PyProof.Rows.boot_int (pa_cons (pv 3) pa_nil)) (pv 4))))))
      (pss_one (ps_ret (pv 2))))) pss_nil)
      (pss_cons (ps_set (i := 5) sc__law_digits.nd rfl (Or.inl rfl) (pe_op op_mod (pe_callTy call_intU (by rfl) T.n_int PyProof.Rows.boot_int (pa_cons (pv 3) pa_nil)) pe_int))
      (pss_cons (ps_for PassesOwn.never rfl (pi_range1 (by rfl) T.n_range (pa_cons (pe_callB (r := rLenU K) call_lenU (by rfl) T.n_len PySem.boot_len (pa_cons (pv 1) pa_nil)) pa_nil)) (pg_name (i := 6) sc__law_digits.nd rfl (Or.inl rfl)) (pss_cons (ps_set (i := 5) sc__law_digits.nd rfl (Or.inl rfl) (pe_op op_mod (pe_callTy call_intU (by rfl) T.n_int PyProof.Rows.boot_int (pa_cons (pe_op (r := rPlus K) op_plus (pe_op (r := rPlus K) op_plus (pe_op op_timesU (pv 5) pe_int) (pe_op op_timesU pe_int (pv 6))) pe_int) pa_nil)) pe_int))
      (pss_cons (ps_set (i := 7) sc__law_digits.nd rfl (Or.inl rfl) (pe_op op_mod (pe_callTy call_intU (by rfl) T.n_int PyProof.Rows.boot_int (pa_cons (pe_op op_timesU (pv 5) (pe_op (r := rPlus K) op_plus (pe_op op_fdivW (pv 5) pe_int) pe_int)) pa_nil)) pe_int))
      (pss_one (ps_expr (pe_bm PySem.F.plainAttrs_list PySem.F.slot_list_append PySem.F.type_list_append mt_append (pv 2) (pa_cons (pe_op op_mod (pe_op op_fdivW (pv 7) pe_int) (pe_ix (r := rIx K) ix_seq (pv 1) (pv 6) (fun _ _ => rfl))) pa_nil)))))))
      (pss_one (ps_ret (pv 2)))))))), ?_⟩
    walk_at "0"
    walk_at "1"
    walk_at "34"
    walk_at "10"
    walk_at "82"
    intro o H1 no x1 eo
    walk_at "6"
    walk_at "0"
    walk_at "1"
    walk_at "11"
    walk_at "9"
    walk_at "69"
    walk_at "10"
    walk_at "57"
    walk_at "6"
    walk_at "0"
    walk_at "4"
    walk_at "14"
    walk_at "8"
    walk_at "69"
    walk_at "8"
    walk_at "7"
    walk_at "7"
    walk_at "70"
    walk_at "55"
    walk_at "88"
    refine k_if (fun hge => ?_) (fun hlt => ?_)
    · walk_at "0"
      walk_at "1"
      walk_at "8"
      walk_at "69"
      walk_at "8"
      walk_at "7"
      walk_at "7"
      walk_at "70"
      walk_at "55"
      walk_at "6"
      walk_at "0"
      walk_at "37"
      walk_at "38"
      walk_at "69"
      walk_at "88"
      refine ⟨⟨_, xl x1 hS⟩, for_list (xs := ss.map V.int) (fun i σ' H' => ∃ (rest : Int) (y : Option V) (ds : List Int), σ' = [some (.int c), some (.ref a), some (.ref o), some (.int rest), y, none, none, none] ∧ i ≤ ss.length ∧ Xt H H' ∧ H' o = some (.lst (ds.map V.int)) ∧ DigOk ds (ss.take i)) ⟨_, none, [], rfl, Nat.zero_le _, x1, eo, DigOk.nil⟩ ?_ ?_ ?_⟩
      · rintro i σ' H' hi ⟨rest, y, ds, rfl, hi2, x2, e2, hd⟩
        exact xl x2 hS
      · rintro i x σ' H' hx ⟨rest, y, ds, rfl, hi2, x2, e2, hd⟩
        obtain ⟨n, rfl, hn⟩ := map_int_at hx
        have hb2 := hb n (List.mem_of_getElem? hn)
        have hi3 : i < ss.length := (List.getElem?_eq_some_iff.mp hn).1
        have hdl : ds.length = i := by rw [hd.1, List.length_take]; omega
        walk_at "6"
        walk_at "0"
        walk_at "3"
        walk_at "36"
        walk_at "69"
        refine ⟨ty_l e2, ?_⟩
        walk_at "9"
        walk_at "8"
        walk_at "11"
        walk_at "9"
        walk_at "69"
        walk_at "10"
        walk_at "57"
        walk_at "69"
        walk_at "70"
        walk_at "10"
        refine v_app e2 (by rw [List.length_map]; omega) ?_
        walk_at "1"
        walk_at "8"
        walk_at "11"
        walk_at "9"
        walk_at "69"
        walk_at "10"
        walk_at "57"
        walk_at "69"
        refine v_I (wide_div (b := 30) hb2.1 (by omega) (by decide) (by decide)) ?_
        walk_at "6"
        refine ⟨_, _, ds ++ [rest % n], rfl, hi3, xmut x2 no, ?_, hd.snoc hn (Int.emod_nonneg _ (by omega)) (Int.emod_lt_of_pos _ hb2.1)⟩
        rw [upd_same, List.map_append]
        rfl
      · rintro σ' H' ⟨rest, y, ds, rfl, hi2, x2, e2, hd⟩
        walk_at "2"
        walk_at "69"
        rw [List.length_map, List.take_length] at hd
        exact q o H' ds x2 e2 hd
    · walk_at "5"
      walk_at "0"
      walk_at "1"
      walk_at "8"
      walk_at "11"
      walk_at "9"
      walk_at "69"
      walk_at "10"
      walk_at "57"
      walk_at "7"
      walk_at "70"
      walk_at "6"
      walk_at "0"
      walk_at "37"
      walk_at "42"
      walk_at "9"
      walk_at "11"
      walk_at "9"
      walk_at "69"
      walk_at "10"
      refine v_len_l (xl x1 hS) ?_
      walk_at "10"
      walk_at "88"
      rw [List.length_map]
      refine ⟨by omega, by omega, ?_⟩
      rw [Int.toNat_natCast]
      refine for_range (lo := 0) (n := ss.length) (fun i σ' H' => ∃ (rest sd : Int) (y z : Option V) (ds : List Int), σ' = [some (.int c), some (.ref a), some (.ref o), some (.int rest), none, some (.int sd), y, z] ∧ i ≤ ss.length ∧ (0 ≤ sd ∧ sd < 2147483647) ∧ Xt H H' ∧ H' o = some (.lst (ds.map V.int)) ∧ DigOk ds (ss.take i)) ⟨_, _, none, none, [], rfl, Nat.zero_le _, ⟨by omega, by omega⟩, x1, eo, DigOk.nil⟩ ?_ ?_
      · rintro i σ' H' hi ⟨rest, sd, y, z, ds, rfl, hi2, ⟨h1, h2⟩, x2, e2, hd⟩
        obtain ⟨n, hn⟩ : ∃ n, ss[i]? = some n := ⟨_, List.getElem?_eq_getElem hi⟩
        have hb2 := hb n (List.mem_of_getElem? hn)
        have hdl : ds.length = i := by rw [hd.1, List.length_take]; omega
        have ha : atI (ss.map V.int) (0 + (i : Int)) = some (.int n) := by
          rw [Int.zero_add]
          exact atI_nat (by rw [List.getElem?_map, hn]; rfl)
        walk_at "6"
        walk_at "0"
        walk_at "1"
        walk_at "8"
        walk_at "11"
        walk_at "9"
        walk_at "8"
        walk_at "8"
        walk_at "8"
        walk_at "69"
        walk_at "7"
        walk_at "72"
        walk_at "8"
        walk_at "7"
        walk_at "69"
        walk_at "72"
        walk_at "56"
        walk_at "7"
        walk_at "56"
        walk_at "10"
        walk_at "57"
        walk_at "7"
        walk_at "70"
        walk_at "6"
        walk_at "0"
        walk_at "1"
        walk_at "8"
        walk_at "11"
        walk_at "9"
        walk_at "8"
        walk_at "69"
        walk_at "8"
        walk_at "8"
        walk_at "69"
        walk_at "7"
        walk_at "70"
        walk_at "7"
        walk_at "56"
        walk_at "72"
        walk_at "10"
        walk_at "57"
        walk_at "7"
        walk_at "70"
        walk_at "6"
        walk_at "3"
        walk_at "36"
        walk_at "69"
        have h3 : 0 ≤ (sd * 48271 + 974711 * (0 + (i : Int)) + 12345) % 2147483647 := by omega
        have h4 : (sd * 48271 + 974711 * (0 + (i : Int)) + 12345) % 2147483647 < 2147483647 := by omega
        generalize (sd * 48271 + 974711 * (0 + (i : Int)) + 12345) % 2147483647 = sd2 at h3 h4 ⊢
        skip
        refine ⟨ty_l e2, ?_⟩
        walk_at "9"
        walk_at "8"
        walk_at "8"
        walk_at "69"
        walk_at "7"
        walk_at "70"
        walk_at "8"
        walk_at "69"
        walk_at "69"
        refine v_ix_l (xl x2 hS) ha ?_
        walk_at "70"
        walk_at "10"
        refine v_app e2 (by rw [List.length_map]; omega) ?_
        skip
        refine ⟨rest, _, _, _, ds ++ [sd2 * (sd2 / 65537 + 3) % 2147483629 / 19 % n], rfl, hi, ⟨h3, h4⟩, xmut x2 no, ?_, hd.snoc hn (Int.emod_nonneg _ (by omega)) (Int.emod_lt_of_pos _ hb2.1)⟩
        rw [upd_same, List.map_append]
        rfl
      · rintro σ' H' ⟨rest, sd, y, z, ds, rfl, hi2, ⟨h1, h2⟩, x2, e2, hd⟩
        walk_at "2"
        walk_at "69"
        rw [List.take_length] at hd
        exact q o H' ds x2 e2 hd


theorem ok__has_form (T : Top0 P K mg) : FnOk P w K mg base CX0 1 T.f__has_form T.fd__has_form ["value"] (sp__has_form T) := by
  refine T.F__has_form.ok sc__has_form (fun vs H Q E h => ?_) (fun cdv A outer s H vs Q E hr h => ?_)
  · obtain ⟨z, rfl, hz, q⟩ := h
    rfl
  · obtain ⟨z, rfl, hz, q⟩ := h
    refine ⟨_, (pss_cons (ps_if (PW.pt (pw_or (pt_not (pt_val (pe_callB (r := rIsi K) call_isi (by rfl) T.n_isinstance PyProof.Rows.boot_isinstance (pa_cons (pv 0) (pa_cons (pe_bltn (v := .ty "str") (by rfl) T.n_str (by decide +kernel) rfl) pa_nil))))) (pw_or1 (pt_not (pt_chain op_le op_le pe_int (pe_callB (r := rLenU K) call_lenU (by rfl) T.n_len PySem.boot_len (pa_cons (pv 0) pa_nil)) (pe_glob (v := .int 8) (by rfl) T.c_LONGEST ⟨_, rfl⟩)))))) (pss_one (ps_ret pe_bl)) pss_nil)
      (pss_one (ps_ret (pe_callB (r := rAll K) (cr_all rfl) (by rfl) T.n_all PyProof.Rows.boot_all (pa_cons (pe_lc (own := [("sign", 1)]) (g := gName 1) rfl sc__has_form.nd (pi_str (pe_slice (r := rSlU K) sl_any (pv 0) (po_some pe_int) po_none)) (blkOk_by (N := N__has_form) (sc := defScope s__has_form) (by decide +kernel)) (fun _ _ _ _ _ => (pg_name (i := 1) sc__has_form.nd rfl (Or.inl rfl))) (fun _ _ _ _ _ => pts_nil) (fun _ _ _ _ _ => (pe_cmpR (r := rInV K) (op_inV hr) (pv 1) (pe_glob (v := .str "abcdefghijklmnopqrstuvwxyz0123456789") (by rfl) T.c_SMALL_SIGNS ⟨_, rfl⟩) (by with_unfolding_all rfl)))) pa_nil))))), ?_⟩
    walk_at "0"
    walk_at "4"
    walk_at "18"
    walk_at "16"
    walk_at "15"
    walk_at "11"
    walk_at "9"
    walk_at "69"
    walk_at "9"
    walk_at "7"
    walk_at "10"
    walk_at "46"
    walk_at "88"
    walk_at "89"
    walk_at "16"
    walk_at "14"
    walk_at "23"
    walk_at "7"
    walk_at "11"
    walk_at "9"
    walk_at "69"
    walk_at "10"
    walk_at "78"
    walk_at "55"
    walk_at "88"
    refine k_if (fun h1 => ?_) (fun h1 => ?_)
    · walk_at "7"
      walk_at "55"
      walk_at "88"
      refine k_ifn (fun h2 => ?_) (fun h2 => ?_)
      · walk_at "2"
        walk_at "7"
        have e := plainF_no (z := z) (by omega)
        rw [← e]; exact q H (xrefl H)
      · walk_at "5"
        walk_at "2"
        walk_at "11"
        walk_at "9"
        walk_at "51"
        walk_at "40"
        walk_at "48"
        walk_at "69"
        walk_at "50"
        walk_at "7"
        walk_at "88"
        walk_at "49"
        walk_at "80"
        walk_at "88"
        refine' b_txt (fun i y => ∃ c, (cutS z (some 1) none).cps.toList[i]? = some c ∧ y = .bl (decide (c ∈ smallL))) ?hn (fun x => ?hw) ?hb ?hk
        case hn => have := len_cut z (some 1) none; omega
        case hw => rfl
        case hb =>
          intro i c H' hc x R hR
          walk_at "8"
          walk_at "69"
          walk_at "7"
          walk_at "61"
          exact hR _ _ (xrefl _) ⟨c, by rw [Array.getElem?_toList]; exact hc, rfl⟩
        case hk =>
          intro D ys H2 hD hl hP x2 e2
          walk_at "10"
          have e := list_map_of (l := (cutS z (some 1) none).cps.toList) (f := fun c => V.bl (decide (c ∈ smallL))) (by rw [hl, Array.length_toList]; rfl) hP
          have e3 : ys = ((cutS z (some 1) none).cps.toList.map fun c => decide (c ∈ smallL)).map V.bl := by rw [e, List.map_map]; rfl
          refine v_all (bs := (cutS z (some 1) none).cps.toList.map fun c => decide (c ∈ smallL)) (sql (by rw [← e3]; exact e2)) ?_
          rw [List.all_map, cut_from1]
          have e4 := plainF_yes (z := z) (by omega) (by omega)
          have e5 : (z.cps.toList.drop 1).all (id ∘ fun c => decide (c ∈ smallL)) = plainF z := e4.symm
          rw [e5]
          exact q H2 x2
    · walk_at "88"
      walk_at "90"
      walk_at "2"
      walk_at "7"
      have e := plainF_no (z := z) (by omega)
      rw [← e]; exact q H (xrefl H)


theorem ok_Vocabulary___contains__ (T : Top0 P K mg) : FnOk P w K mg base CX0 1 T.f_Vocabulary___contains__ T.fd_Vocabulary___contains__ ["self", "name"] (sp_Vocabulary___contains__ T) := by
  refine T.F_Vocabulary___contains__.ok sc_Vocabulary___contains__ (fun vs H Q E h => ?_) (fun cdv A outer s H vs Q E hr h => ?_)
  · obtain ⟨a, z, x, rfl, hV, q⟩ := h
    rfl
  · obtain ⟨a, z, x, rfl, hV, q⟩ := h
    refine ⟨_, (pss_one (ps_ret (pe_cmp (pc_din (hu_of hr) (pv 1) (show PE _ _ (tFld K _ _) from pe_fld (pv 0) rfl))))), ?_⟩
    obtain ⟨dx, fs, s, f, p, dN, dA, dS, kN, kA, kS, h1, hs, hf, hp, ⟨n1, n2, n3⟩, ⟨a1, a2, a3⟩, ⟨v1, v2, v3⟩, hm⟩ := hV
    walk_at "2"
    walk_at "28"
    walk_at "69"
    walk_at "25"
    walk_at "69"
    refine v_fld h1 T.cl_Vocabulary T.na_Vocabulary__names n1 ?_
    refine ⟨_, _, rfl, DGet.k (k := Sum.inr z) n2, ?_⟩
    have hz := n3 z
    have hk : (namesTab x).map (·.1) = x.rows.map (·.1) := by unfold namesTab; rw [List.map_map]; rfl
    have e : (valV kN (Sum.inr z : Key)).isSome = decide (z ∈ x.rows.map (·.1)) := by
      by_cases h2 : z ∈ x.rows.map (·.1)
      · obtain ⟨d, hd⟩ := tabF_isSome (z := z) (l := namesTab x) (by rw [hk]; exact h2)
        rw [hd] at hz
        obtain ⟨_, v, e2, _⟩ := hz
        rw [show valV kN (Sum.inr z : Key) = some v from e2, decide_eq_true h2]; rfl
      · rw [tabF_none (z := z) (l := namesTab x) (by rw [hk]; exact h2)] at hz
        rw [show valV kN (Sum.inr z : Key) = none from hz, decide_eq_false h2]; rfl
    rw [← e] at q
    exact q


theorem ok_Vocabulary_arguments (T : Top0 P K mg) : FnOk P w K mg base CX0 1 T.f_Vocabulary_arguments T.fd_Vocabulary_arguments ["self", "name"] (sp_Vocabulary_arguments T) := by
  refine T.F_Vocabulary_arguments.ok sc_Vocabulary_arguments (fun vs H Q E h => ?_) (fun cdv A outer s H vs Q E hr h => ?_)
  · obtain ⟨a, z, x, rfl, hV, q⟩ := h
    rfl
  · obtain ⟨a, z, x, rfl, hV, q⟩ := h
    refine ⟨_, (pss_one (ps_ret (pe_dget1 (hu_of hr) (show PE _ _ (tFld K _ _) from pe_fld (pv 0) rfl) (pv 1) ⟨rfl, rfl, rfl, rfl⟩))), ?_⟩
    obtain ⟨dx, fs, s, f, p, dN, dA, dS, kN, kA, kS, h1, hs, hf, hp, ⟨n1, n2, n3⟩, ⟨a1, a2, a3⟩, ⟨v1, v2, v3⟩, hm⟩ := hV
    walk_at "2"
    walk_at "27"
    walk_at "25"
    walk_at "69"
    refine v_fld h1 T.cl_Vocabulary T.na_Vocabulary__argument_sorts a1 ?_
    refine ⟨_, rfl, .inl ⟨_, .inl a2⟩, ?_⟩
    walk_at "69"
    refine ⟨_, DGet.k (k := Sum.inr z) a2, ?_⟩
    have hz := a3 z
    cases e : tabF (argsTab x) z with
    | none => rw [e] at hz; rw [e] at q; rw [hz]; exact q _ .non
    | some d => rw [e] at hz; rw [e] at q; obtain ⟨_, v, e1, e2⟩ := hz; rw [e1]; exact q _ e2


theorem ok_Vocabulary_value_sort (T : Top0 P K mg) : FnOk P w K mg base CX0 1 T.f_Vocabulary_value_sort T.fd_Vocabulary_value_sort ["self", "name"] (sp_Vocabulary_value_sort T) := by
  refine T.F_Vocabulary_value_sort.ok sc_Vocabulary_value_sort (fun vs H Q E h => ?_) (fun cdv A outer s H vs Q E hr h => ?_)
  · obtain ⟨a, z, x, rfl, hV, q⟩ := h
    rfl
  · obtain ⟨a, z, x, rfl, hV, q⟩ := h
    refine ⟨_, (pss_one (ps_ret (pe_dget1 (hu_of hr) (show PE _ _ (tFld K _ _) from pe_fld (pv 0) rfl) (pv 1) ⟨rfl, rfl, rfl, rfl⟩))), ?_⟩
    obtain ⟨dx, fs, s, f, p, dN, dA, dS, kN, kA, kS, h1, hs, hf, hp, ⟨n1, n2, n3⟩, ⟨a1, a2, a3⟩, ⟨v1, v2, v3⟩, hm⟩ := hV
    walk_at "2"
    walk_at "27"
    walk_at "25"
    walk_at "69"
    refine v_fld h1 T.cl_Vocabulary T.na_Vocabulary__value_sorts v1 ?_
    refine ⟨_, rfl, .inl ⟨_, .inl v2⟩, ?_⟩
    walk_at "69"
    refine ⟨_, DGet.k (k := Sum.inr z) v2, ?_⟩
    have hz := v3 z
    cases e : tabF (sortTab x) z with
    | none => rw [e] at hz; rw [e] at q; rw [hz]; exact q _ .non
    | some d => rw [e] at hz; rw [e] at q; obtain ⟨_, v, e1, e2⟩ := hz; rw [e1]; exact q _ e2


theorem ok__law_is_name (T : Top0 P K mg) : FnOk P w K mg base CX0 1 T.f__law_is_name T.fd__law_is_name ["text"] (sp__law_is_name T) := by
  refine T.F__law_is_name.ok sc__law_is_name (fun vs H Q E h => ?_) (fun cdv A outer s H vs Q E hr h => ?_)
  · obtain ⟨z, rfl, hz, q⟩ := h
    rfl
  · obtain ⟨z, rfl, hz, q⟩ := h
    refine ⟨_, (pss_cons (ps_set (i := 1) sc__law_is_name.nd rfl (Or.inl rfl) pe_str)
      (pss_cons (ps_if (PW.pt (pw_or (pt_cmpR op_lt (pe_callB (r := rLenU K) call_lenU (by rfl) T.n_len PySem.boot_len (pa_cons (pv 0) pa_nil)) pe_int (nomark _)) (pw_or (pt_cmpR op_gt (pe_callB (r := rLenU K) call_lenU (by rfl) T.n_len PySem.boot_len (pa_cons (pv 0) pa_nil)) pe_int (nomark _)) (pw_or1 (pt_cmpR (r := rNotInV K) (op_notInV hr) (pe_ix (r := rIx K) ix_seq (pv 0) pe_int (fun _ _ => rfl)) (pv 1) (by with_unfolding_all rfl)))))) (pss_one (ps_ret pe_bl)) pss_nil)
      (pss_cons (ps_for PassesOwn.never rfl (pi_str (pv 0)) (pg_name (i := 2) sc__law_is_name.nd rfl (Or.inl rfl)) (pss_one (ps_if (PW.pt (pw_and (pt_cmpR (r := rNotInV K) (op_notInV hr) (pv 2) (pv 1) (by with_unfolding_all rfl)) (pw_and1 (pt_cmpR (r := rNotInV K) (op_notInV hr) (pv 2) pe_str (by with_unfolding_all rfl))))) (pss_one (ps_ret pe_bl)) pss_nil)))
      (pss_cons (ps_set (i := 3) sc__law_is_name.nd rfl (Or.inl rfl) (pe_lst (pa_cons pe_str (pa_cons pe_str (pa_cons pe_str (pa_cons pe_str (pa_cons pe_str (pa_cons pe_str (pa_cons pe_str (pa_cons pe_str (pa_cons pe_str (pa_cons pe_str (pa_cons pe_str (pa_cons pe_str (pa_cons pe_str pa_nil)))))))))))))))
      (pss_one (ps_ret (pe_cmpR (r := rNotInV K) (op_notInV hr) (pv 0) (pv 3) (by with_unfolding_all rfl)))))))), ?_⟩
    walk_at "0"
    walk_at "1"
    walk_at "7"
    walk_at "6"
    walk_at "0"
    walk_at "4"
    walk_at "18"
    walk_at "14"
    walk_at "8"
    walk_at "11"
    walk_at "9"
    walk_at "69"
    walk_at "10"
    walk_at "78"
    walk_at "7"
    walk_at "55"
    walk_at "88"
    refine k_if (fun h1 => ?_) (fun h1 => ?_)
    · rw [if_pos rfl]
      walk_at "2"
      walk_at "7"
      have en : nameF z = false := by unfold nameF; rw [plainF_no (by omega)]; rfl
      rw [← en]
      exact q H (xrefl H)
    walk_at "18"
    walk_at "14"
    walk_at "8"
    walk_at "11"
    walk_at "9"
    walk_at "69"
    walk_at "10"
    walk_at "78"
    walk_at "7"
    walk_at "55"
    walk_at "88"
    refine k_if (fun h2 => ?_) (fun h2 => ?_)
    · rw [if_pos rfl]
      walk_at "2"
      walk_at "7"
      have en : nameF z = false := by unfold nameF; rw [plainF_no (by omega)]; rfl
      rw [← en]
      exact q H (xrefl H)
    obtain ⟨c, r, ez, ec⟩ := head_of (z := z) (by omega)
    walk_at "14"
    walk_at "8"
    walk_at "8"
    walk_at "69"
    walk_at "7"
    refine v_ix_s (szle (by omega)) ec ?_
    walk_at "69"
    walk_at "62"
    walk_at "88"
    have eh : headIn z letL = decide (c ∈ letL) := by unfold headIn; rw [ez]
    refine k_ifn (fun h3 => ?_) (fun h3 => ?_)
    · walk_at "2"
      walk_at "7"
      have en : nameF z = false := by unfold nameF; rw [eh, decide_eq_false (show ¬ c ∈ letL from h3)]; exact Bool.and_false _
      rw [← en]
      exact q H (xrefl H)
    walk_at "5"
    walk_at "0"
    walk_at "37"
    walk_at "40"
    walk_at "69"
    walk_at "88"
    refine for_str (fun i σ' H' => ∃ y, σ' = [some (.str z), some (.str "abcdefghijklmnopqrstuvwxyz"), y, none] ∧ H' = H ∧ ∀ j d, j < i → z.cps.toList[j]? = some d → d ∈ smallL) ⟨_, rfl, rfl, fun j d hj => absurd hj (Nat.not_lt_zero _)⟩ ?_ ?_
    · rintro i d σ' H' hd ⟨y, rfl, rfl, hall⟩
      walk_at "6"
      walk_at "4"
      walk_at "17"
      walk_at "14"
      walk_at "8"
      walk_at "69"
      walk_at "69"
      walk_at "95"
      walk_at "88"
      refine k_ifn (fun h4 => ?_) (fun h4 => ?_)
      · walk_at "14"
        walk_at "8"
        walk_at "69"
        walk_at "7"
        walk_at "95"
        walk_at "88"
        refine k_ifn (fun h5 => ?_) (fun h5 => ?_)
        · walk_at "2"
          walk_at "7"
          have hs : ¬ d ∈ smallL := by rw [small_split, List.mem_append]; exact fun o => o.elim h4 h5
          have hi : 0 < i := by
            cases i with
            | zero => rw [ez] at hd; cases hd; exact absurd h3 h4
            | succ => omega
          have en : nameF z = false := by unfold nameF; rw [plain_not hi hd hs]; rfl
          rw [← en]
          exact q H' (xrefl H')
        · walk_at "5"
          walk_at "88"
          refine ⟨rfl, fun j e hj he => ?_⟩
          by_cases hji : j = i
          · subst hji; rw [hd] at he; cases he
            rw [small_split, List.mem_append]; exact .inr h5
          · exact hall j e (by omega) he
      · walk_at "89"
        walk_at "5"
        walk_at "88"
        refine ⟨rfl, fun j e hj he => ?_⟩
        by_cases hji : j = i
        · subst hji; rw [hd] at he; cases he
          rw [small_split, List.mem_append]; exact .inl h4
        · exact hall j e (by omega) he
    · rintro σ' H' ⟨y, rfl, rfl, hall⟩
      walk_at "0"
      walk_at "1"
      walk_at "34"
      walk_at "9"
      walk_at "7"
      walk_at "9"
      walk_at "7"
      walk_at "9"
      walk_at "7"
      walk_at "9"
      walk_at "7"
      walk_at "9"
      walk_at "7"
      walk_at "9"
      walk_at "7"
      walk_at "9"
      walk_at "7"
      walk_at "9"
      walk_at "7"
      walk_at "9"
      walk_at "7"
      walk_at "9"
      walk_at "7"
      walk_at "9"
      walk_at "7"
      walk_at "9"
      walk_at "7"
      walk_at "9"
      walk_at "7"
      walk_at "10"
      walk_at "82"
      intro p1 H1 n1 x1 e1
      walk_at "6"
      walk_at "2"
      walk_at "8"
      walk_at "69"
      walk_at "69"
      have hp : plainF z = true := plain_of (by omega) (by omega) fun d hd => by
        obtain ⟨j, hj⟩ := List.mem_iff_getElem?.mp hd
        exact hall j d (List.getElem?_eq_some_iff.mp hj).1 hj
      have en : nameF z = !inV (.str z) W13 := by unfold nameF; rw [hp, eh, decide_eq_true (show c ∈ letL from h3)]; rfl
      refine w_notin_q (.inl (sql e1)) rfl (by decide +kernel) ?_
      have qq := q H1 x1
      rw [en] at qq
      exact qq


theorem ok__law_name (T : Top0 P K mg) : FnOk P w K mg base CX0 1 T.f__law_name T.fd__law_name ["alike", "k", "row"] (sp__law_name T) := by
  refine T.F__law_name.ok sc__law_name (fun vs H Q E h => ?_) (fun cdv A outer s H vs Q E hr h => ?_)
  · obtain ⟨v, k, rp, ds, rfl, hrow, hd, hk, hv, q⟩ := h
    rfl
  · obtain ⟨v, k, rp, ds, rfl, hrow, hd, hk, hv, q⟩ := h
    refine ⟨_, (pss_cons (ps_set (i := 3) sc__law_name.nd rfl (Or.inr rfl) pe_str)
      (pss_cons (ps_if (pt_cmpR op_isN1 (pv 0) pe_non (nomark _)) (pss_one (ps_ret (pe_op (r := rPlus K) op_plus (pe_ix (r := rIx K) ix_seq (pv 3) (pe_ix (r := rIx K) ix_seq (pv 2) pe_int (fun _ _ => rfl)) (fun _ _ => rfl)) (pe_joinN pe_str (pe_lc (own := [("j", 6)]) (g := gName 6) rfl sc__law_name.nd (pi_range2 (by rfl) T.n_range (pa_cons pe_int (pa_cons (pe_op (r := rPlus K) op_plus pe_int (pe_ix (r := rIx K) ix_seq (pv 2) pe_int (fun _ _ => rfl))) pa_nil))) (blkOk_by (N := N__law_name) (sc := defScope s__law_name) (by decide +kernel)) (fun _ _ _ _ _ => (pg_name (i := 6) sc__law_name.nd rfl (Or.inl rfl))) (fun _ _ _ _ _ => pts_nil) (fun _ _ _ _ _ => (pe_ix (r := rIx K) ix_seq (pv 3) (pe_ix (r := rIx K) ix_seq (pv 2) (pv 6) (fun _ _ => rfl)) (fun _ _ => rfl)))))))) pss_nil)
      (pss_cons (ps_set (i := 4) sc__law_name.nd rfl (Or.inl rfl) pe_int)
      (Evl.pss_cut (ps_if (pt_cmpR (r := rEqU K) (op_eqU hr) (pe_ix (r := rIx K) ix_seq (pv 0) pe_int (fun _ _ => rfl)) pe_int (nomark _)) (pss_one (ps_set (i := 4) sc__law_name.nd rfl (Or.inl rfl) pe_int)) pss_nil)
      (pss_cons (ps_set (i := 5) sc__law_name.nd rfl (Or.inl rfl) (pe_op (r := rPlus K) op_plus (pe_op (r := rPlus K) op_plus (pe_slice (r := rSlU K) sl_any (pe_ix (r := rIx K) ix_seq (pv 0) pe_int (fun _ _ => rfl)) po_none (po_some (pe_ix (r := rIx K) ix_seq (pv 0) pe_int (fun _ _ => rfl)))) (pe_ix (r := rIx K) ix_seq (pv 3) (pe_op op_mod (pe_callTy call_intU (by rfl) T.n_int PyProof.Rows.boot_int (pa_cons (pe_op (r := rPlus K) op_plus (pe_op op_timesU (pv 1) pe_int) (pe_ix (r := rIx K) ix_seq (pv 0) pe_int (fun _ _ => rfl))) pa_nil)) (pv 4)) (fun _ _ => rfl))) (pe_slice (r := rSlU K) sl_any (pe_ix (r := rIx K) ix_seq (pv 0) pe_int (fun _ _ => rfl)) (po_some (pe_op (r := rPlus K) op_plus (pe_ix (r := rIx K) ix_seq (pv 0) pe_int (fun _ _ => rfl)) pe_int)) po_none)))
      (Evl.pss_cut (ps_if (pt_cmpR op_ge (pv 1) (pv 4) (nomark _)) (pss_one (ps_set (i := 5) sc__law_name.nd rfl (Or.inl rfl) (pe_slice (r := rSlU K) sl_any (pv 5) po_none (po_some (pe_un un_neg pe_int))))) pss_nil)
      (pss_one (ps_ret (pv 5))))))))), ?_⟩
    obtain ⟨d0, g0, a0, b0⟩ := hd.get 0 (0 : Int) rfl rfl
    obtain ⟨d1, g1, a1, b1⟩ := hd.get 1 (1 : Int) rfl rfl
    have dl : (ds.map V.int).length = 9 := by rw [List.length_map, hd.1]; rfl
    rcases hv with rfl | ⟨ap, t, pos, rfl, hap, ht, hl, hp0, hp1⟩
    · obtain ⟨c1, l1, o1⟩ := letter_at a1 (by omega)
      walk_at "0"
      walk_at "1"
      walk_at "7"
      walk_at "6"
      walk_at "0"
      walk_at "4"
      walk_at "14"
      walk_at "8"
      walk_at "69"
      walk_at "7"
      walk_at "63"
      walk_at "88"
      walk_at "90"
      walk_at "2"
      walk_at "8"
      walk_at "8"
      walk_at "69"
      walk_at "8"
      walk_at "69"
      walk_at "7"
      walk_at "79"
      refine v_ix_s (by decide) l1 ?_
      walk_at "53"
      walk_at "7"
      walk_at "45"
      walk_at "51"
      walk_at "43"
      walk_at "9"
      walk_at "7"
      walk_at "9"
      walk_at "8"
      walk_at "7"
      walk_at "8"
      walk_at "69"
      walk_at "7"
      walk_at "79"
      walk_at "56"
      walk_at "10"
      refine ⟨2, 2 + d0, rfl, ⟨by decide, by decide, by omega, by omega⟩, ?_⟩
      refine' b_rng (fun _ y => ∃ c : Nat, y = .str ⟨#[c]⟩ ∧ c < 128) ?hn (fun x => ?hw) ?hb ?hk
      case hn => omega
      case hw => rfl
      case hb =>
        intro i H' hi x R hR
        obtain ⟨di, gi, ai, bi⟩ := hd.get (2 + i) (2 + (i : Int)) (by omega) (ss36 i (by omega))
        obtain ⟨c, lc, oc⟩ := letter_at ai bi
        have hrow' := xl x hrow
        walk_at "8"
        walk_at "69"
        walk_at "8"
        walk_at "69"
        walk_at "69"
        walk_at "79"
        refine v_ix_s (by decide) lc ?_
        exact hR _ _ (xrefl _) ⟨c, rfl, oc⟩
      case hk =>
        intro D ys H2 hD hl2 hP x2 e2
        refine v_joinP e2 hP (by omega) fun cs hcl hca => ?_
        have hcs : cs.length ≤ 9 := by omega
        refine vT_plus (a := 1) (b := 9) ⟨Nat.le_of_eq (len_one c1), asc_one o1⟩ ⟨by show cs.toArray.size ≤ 9; rw [List.size_toArray]; exact hcs, List.all_eq_true.mpr fun c hc => decide_eq_true (hca c hc)⟩ (by decide) fun tz => ?_
        skip
        exact q _ H2 x2 (tz.le (by decide))
    · have h0 : atI [V.str t, V.int pos] 0 = some (.str t) := rfl
      have h1 : atI [V.str t, V.int pos] 1 = some (.int pos) := rfl
      walk_at "0"
      walk_at "1"
      walk_at "7"
      walk_at "6"
      walk_at "0"
      walk_at "4"
      walk_at "14"
      walk_at "8"
      walk_at "69"
      walk_at "7"
      walk_at "63"
      walk_at "88"
      walk_at "89"
      walk_at "5"
      walk_at "0"
      walk_at "1"
      walk_at "7"
      walk_at "6"
      refine k_cut (fun σ' H' => ∃ m : Int, σ' = [some (.ref ap), some (.int k), some (.ref rp), some (.str smallS), some (.int m), none, none] ∧ H' = H ∧ 26 ≤ m ∧ m ≤ 36) ?_ ?_
      · walk_at "4"
        walk_at "14"
        walk_at "8"
        walk_at "8"
        walk_at "69"
        walk_at "7"
        walk_at "79"
        walk_at "7"
        walk_at "75"
        walk_at "88"
        refine k_if (fun g => ?_) (fun g => ?_)
        · walk_at "1"
          walk_at "7"
          walk_at "6"
          walk_at "88"
          exact ⟨rfl, by decide, by decide⟩
        · walk_at "5"
          walk_at "88"
          exact ⟨rfl, by decide, by decide⟩
      · rintro σ' H' ⟨m, rfl, rfl, hm1, hm2⟩
        walk_at "0"
        walk_at "1"
        walk_at "8"
        walk_at "8"
        walk_at "48"
        walk_at "8"
        walk_at "69"
        walk_at "7"
        walk_at "79"
        walk_at "49"
        walk_at "50"
        walk_at "8"
        walk_at "69"
        walk_at "7"
        walk_at "79"
        walk_at "88"
        walk_at "92"
        walk_at "8"
        walk_at "69"
        walk_at "8"
        walk_at "11"
        walk_at "9"
        walk_at "8"
        walk_at "8"
        walk_at "69"
        walk_at "7"
        walk_at "72"
        walk_at "8"
        walk_at "69"
        walk_at "7"
        walk_at "79"
        walk_at "56"
        walk_at "10"
        walk_at "57"
        walk_at "69"
        walk_at "70"
        obtain ⟨cx, lx, ox⟩ := letter_at (d := (k * 7 + pos) % m) (Int.emod_nonneg _ (by omega)) (by have := Int.emod_lt_of_pos (k * 7 + pos) (show 0 < m by omega); omega)
        refine v_ix_s (by decide) lx ?_
        have o1 : Tx 1 ⟨#[cx]⟩ := ⟨Nat.le_of_eq (len_one cx), asc_one ox⟩
        walk_at "91"
        walk_at "48"
        walk_at "8"
        walk_at "69"
        walk_at "7"
        walk_at "79"
        walk_at "50"
        walk_at "8"
        walk_at "8"
        walk_at "69"
        walk_at "7"
        walk_at "79"
        walk_at "7"
        walk_at "56"
        walk_at "88"
        walk_at "49"
        walk_at "92"
        walk_at "91"
        walk_at "6"
        refine k_cut (fun σ' H'' => ∃ z : Str, σ' = [some (.ref ap), some (.int k), some (.ref rp), some (.str smallS), some (.int m), some (.str z), none] ∧ H'' = H' ∧ Tx 20 z) ?_ ?_
        · walk_at "4"
          walk_at "14"
          walk_at "8"
          walk_at "69"
          walk_at "69"
          walk_at "55"
          walk_at "88"
          refine k_if (fun g => ?_) (fun g => ?_)
          · walk_at "1"
            walk_at "48"
            walk_at "69"
            walk_at "49"
            walk_at "50"
            walk_at "13"
            walk_at "7"
            walk_at "58"
            walk_at "88"
            walk_at "92"
            walk_at "6"
            walk_at "88"
            exact ⟨rfl, Tx.le (by assumption) (by decide)⟩
          · walk_at "5"
            walk_at "88"
            exact ⟨rfl, Tx.le (by assumption) (by decide)⟩
        · rintro σ' H'' ⟨z, rfl, rfl, tz⟩
          walk_at "2"
          walk_at "69"
          exact q z _ (xrefl _) tz


theorem ok__law_bad (T : Top0 P K mg) : FnOk P w K mg base CX0 1 T.f__law_bad T.fd__law_bad ["text", "k"] (sp__law_bad T) := by
  refine T.F__law_bad.ok sc__law_bad (fun vs H Q E h => ?_) (fun cdv A outer s H vs Q E hr h => ?_)
  · obtain ⟨t, n, k, rfl, ht, hn, hk, q⟩ := h
    rfl
  · obtain ⟨t, n, k, rfl, ht, hn, hk, q⟩ := h
    refine ⟨_, (pss_cons (ps_set (i := 2) sc__law_bad.nd rfl (Or.inl rfl) (pe_lst (pa_cons pe_str (pa_cons pe_str (pa_cons pe_str (pa_cons pe_str (pa_cons pe_str (pa_cons pe_str (pa_cons pe_str (pa_cons pe_str (pa_cons pe_str (pa_cons pe_str (pa_cons pe_str (pa_cons pe_str (pa_cons pe_str pa_nil)))))))))))))))
      (pss_cons (ps_if (pt_cmpR op_lt (pv 1) pe_int (nomark _)) (pss_one (ps_ret (pe_ix (r := rIx K) ix_seq (pv 2) (pv 1) (fun _ _ => rfl)))) pss_nil)
      (pss_cons (ps_set (i := 3) sc__law_bad.nd rfl (Or.inl rfl) (pe_slice (r := rSlU K) sl_any (pe_op (r := rPlus K) op_plus (pv 0) pe_str) po_none (po_some pe_int)))
      (pss_cons (ps_set (i := 4) sc__law_bad.nd rfl (Or.inl rfl) (pe_lst (pa_cons pe_str (pa_cons (pv 3) (pa_cons (pe_op (r := rPlus K) op_plus (pe_upperN (pe_slice (r := rSlU K) sl_any (pv 0) po_none (po_some pe_int))) (pe_slice (r := rSlU K) sl_any (pv 0) (po_some pe_int) po_none)) (pa_cons (pe_op (r := rPlus K) op_plus pe_str (pe_slice (r := rSlU K) sl_any (pv 0) (po_some pe_int) po_none)) (pa_cons (pe_op (r := rPlus K) op_plus (pe_slice (r := rSlU K) sl_any (pv 0) po_none (po_some pe_int)) pe_str) (pa_cons (pe_op (r := rPlus K) op_plus (pe_slice (r := rSlU K) sl_any (pv 0) po_none (po_some pe_int)) pe_str) (pa_cons (pe_op (r := rPlus K) op_plus (pe_slice (r := rSlU K) sl_any (pv 0) po_none (po_some pe_int)) pe_str) pa_nil)))))))))
      (pss_cons (ps_set (i := 4) sc__law_bad.nd rfl (Or.inl rfl) (pe_op (r := rPlus K) op_plus (pv 4) (pe_lst (pa_cons (pe_op (r := rPlus K) op_plus (pe_slice (r := rSlU K) sl_any (pv 0) po_none (po_some pe_int)) pe_str) (pa_cons (pe_op (r := rPlus K) op_plus pe_str (pe_slice (r := rSlU K) sl_any (pv 0) po_none (po_some pe_int))) (pa_cons (pe_op (r := rPlus K) op_plus (pe_op (r := rPlus K) op_plus (pe_slice (r := rSlU K) sl_any (pv 0) po_none (po_some pe_int)) pe_str) (pe_slice (r := rSlU K) sl_any (pv 0) (po_some pe_int) po_none)) (pa_cons pe_str (pa_cons (pe_op (r := rPlus K) op_plus (pe_op (r := rPlus K) op_plus pe_str (pv 0)) pe_str) pa_nil))))))))
      (pss_one (ps_ret (pe_ix (r := rIx K) ix_seq (pv 4) (pe_op op_mod (pe_callTy call_intU (by rfl) T.n_int PyProof.Rows.boot_int (pa_cons (pe_op op_sub (pv 1) pe_int) pa_nil)) pe_int) (fun _ _ => rfl))))))))), ?_⟩
    walk_at "0"
    walk_at "1"
    walk_at "34"
    walk_at "9"
    walk_at "7"
    walk_at "9"
    walk_at "7"
    walk_at "9"
    walk_at "7"
    walk_at "9"
    walk_at "7"
    walk_at "9"
    walk_at "7"
    walk_at "9"
    walk_at "7"
    walk_at "9"
    walk_at "7"
    walk_at "9"
    walk_at "7"
    walk_at "9"
    walk_at "7"
    walk_at "9"
    walk_at "7"
    walk_at "9"
    walk_at "7"
    walk_at "9"
    walk_at "7"
    walk_at "9"
    walk_at "7"
    walk_at "10"
    walk_at "82"
    intro p1 H1 n1 x1 e1
    walk_at "6"
    walk_at "0"
    walk_at "4"
    walk_at "14"
    walk_at "8"
    walk_at "69"
    walk_at "7"
    walk_at "55"
    walk_at "88"
    refine k_if (fun h1 => ?_) (fun h1 => ?_)
    · walk_at "2"
      walk_at "8"
      walk_at "69"
      walk_at "69"
      obtain ⟨z, ea, tz⟩ := at_okS (n := 10) (l := W13) (k := k) (by decide +kernel) hk.1 (by simpa [W13] using h1)
      refine v_ix_l (sql e1) ea ?_
      exact q z H1 x1 (tz.le (by omega))
    · walk_at "5"
      walk_at "0"
      walk_at "1"
      walk_at "48"
      walk_at "8"
      walk_at "69"
      walk_at "7"
      walk_at "91"
      walk_at "49"
      walk_at "50"
      walk_at "7"
      walk_at "88"
      walk_at "92"
      walk_at "6"
      walk_at "0"
      walk_at "1"
      walk_at "34"
      walk_at "9"
      walk_at "7"
      walk_at "9"
      walk_at "69"
      walk_at "9"
      walk_at "8"
      walk_at "52"
      walk_at "48"
      walk_at "69"
      walk_at "49"
      walk_at "50"
      walk_at "7"
      walk_at "88"
      walk_at "92"
      walk_at "45"
      walk_at "93"
      walk_at "48"
      walk_at "69"
      walk_at "50"
      walk_at "7"
      walk_at "88"
      walk_at "49"
      walk_at "92"
      walk_at "91"
      walk_at "9"
      walk_at "8"
      walk_at "7"
      walk_at "48"
      walk_at "69"
      walk_at "50"
      walk_at "7"
      walk_at "88"
      walk_at "49"
      walk_at "92"
      walk_at "91"
      walk_at "9"
      walk_at "8"
      walk_at "48"
      walk_at "69"
      walk_at "49"
      walk_at "50"
      walk_at "7"
      walk_at "88"
      walk_at "92"
      walk_at "7"
      walk_at "91"
      walk_at "9"
      walk_at "8"
      walk_at "48"
      walk_at "69"
      walk_at "49"
      walk_at "50"
      walk_at "7"
      walk_at "88"
      walk_at "92"
      walk_at "7"
      walk_at "91"
      walk_at "9"
      walk_at "8"
      walk_at "48"
      walk_at "69"
      walk_at "49"
      walk_at "50"
      walk_at "7"
      walk_at "88"
      walk_at "92"
      walk_at "7"
      walk_at "91"
      walk_at "10"
      walk_at "82"
      intro p2 H2 n2 x2 e2
      walk_at "6"
      walk_at "0"
      walk_at "1"
      walk_at "8"
      walk_at "69"
      walk_at "34"
      walk_at "9"
      walk_at "8"
      walk_at "48"
      walk_at "69"
      walk_at "49"
      walk_at "50"
      walk_at "7"
      walk_at "88"
      walk_at "92"
      walk_at "7"
      walk_at "91"
      walk_at "9"
      walk_at "8"
      walk_at "7"
      walk_at "48"
      walk_at "69"
      walk_at "49"
      walk_at "50"
      walk_at "7"
      walk_at "88"
      walk_at "92"
      walk_at "91"
      walk_at "9"
      walk_at "8"
      walk_at "8"
      walk_at "48"
      walk_at "69"
      walk_at "49"
      walk_at "50"
      walk_at "7"
      walk_at "88"
      walk_at "92"
      walk_at "7"
      walk_at "91"
      walk_at "48"
      walk_at "69"
      walk_at "50"
      walk_at "7"
      walk_at "88"
      walk_at "49"
      walk_at "92"
      walk_at "91"
      walk_at "9"
      walk_at "7"
      walk_at "9"
      walk_at "8"
      walk_at "8"
      walk_at "7"
      walk_at "69"
      walk_at "91"
      walk_at "7"
      walk_at "91"
      walk_at "10"
      walk_at "82"
      intro p3 H3 n3 x3 e3
      refine v_plus_lst (x3 _ _ e2) e3 (szL (Nat.le_of_ble_eq_true rfl)) fun p4 H4 n4 x4 e4 => ?_
      walk_at "6"
      walk_at "2"
      walk_at "8"
      walk_at "69"
      walk_at "8"
      walk_at "11"
      walk_at "9"
      walk_at "8"
      walk_at "69"
      walk_at "7"
      walk_at "55"
      walk_at "10"
      walk_at "57"
      walk_at "7"
      walk_at "70"
      refine ix_okS (n := 2 * n + 60) (m := 12) e4 (alls_app ?_ ?_) rfl (by omega) (by omega) fun z tz => q z H4 (xtr x1 (xtr x2 (xtr x3 x4))) tz
      · walk_at "alls"
      · walk_at "alls"


theorem ok__law_near (T : Top0 P K mg) : FnOk P w K mg base CX0 1 T.f__law_near T.fd__law_near ["k"] (sp__law_near T) := by
  refine T.F__law_near.ok sc__law_near (fun vs H Q E h => ?_) (fun cdv A outer s H vs Q E hr h => ?_)
  · obtain ⟨k, rfl, hk, q⟩ := h
    rfl
  · obtain ⟨k, rfl, hk, q⟩ := h
    refine ⟨_, (pss_one (ps_ret (pe_ix (r := rIx K) ix_seq (pe_lst (pa_cons pe_str (pa_cons pe_str (pa_cons pe_str (pa_cons pe_str (pa_cons pe_str (pa_cons pe_str (pa_cons pe_str (pa_cons pe_str (pa_cons pe_str (pa_cons pe_str (pa_cons pe_str (pa_cons pe_str pa_nil))))))))))))) (pv 0) (fun _ _ => rfl)))), ?_⟩
    walk_at "2"
    walk_at "8"
    walk_at "34"
    walk_at "9"
    walk_at "7"
    walk_at "9"
    walk_at "7"
    walk_at "9"
    walk_at "7"
    walk_at "9"
    walk_at "7"
    walk_at "9"
    walk_at "7"
    walk_at "9"
    walk_at "7"
    walk_at "9"
    walk_at "7"
    walk_at "9"
    walk_at "7"
    walk_at "9"
    walk_at "7"
    walk_at "9"
    walk_at "7"
    walk_at "9"
    walk_at "7"
    walk_at "9"
    walk_at "7"
    walk_at "10"
    walk_at "82"
    intro p1 H1 n1 x1 e1
    walk_at "69"
    obtain ⟨z, ea, t⟩ := at_okS (n := 10) (l := [V.str "falses", .str "al", .str "truth1", .str "iff0", .str "predicat", .str "functio", .str "axiom2", .str "z", .str "zz9", .str "a0000000", .str "nots", .str "tru"]) (k := k) (by decide +kernel) hk.1 (by have := hk.2; simpa using this)
    refine v_ix_l (sql e1) ea ?_
    exact q z H1 x1 t


theorem ok_is_name (T : Top0 P K mg) : FnOk P w K mg base CX0 2 T.f_is_name T.fd_is_name ["value"] (sp_is_name T) := by
  refine T.F_is_name.ok sc_is_name (fun vs H Q E h => ?_) (fun cdv A outer s H vs Q E hr h => ?_)
  · obtain ⟨z, rfl, hz, q⟩ := h
    rfl
  · obtain ⟨z, rfl, hz, q⟩ := h
    refine ⟨_, (pss_one (ps_ret (pe_and (pe_call (ok__has_form T) (hr.mono (by first | decide | exact Nat.le_refl _ | omega | (show _ ≤ _ + n; omega))) (by rfl) T.g__has_form T.F__has_form.kp T.b__has_form .nil pass0 (pa_cons (pv 0) pa_nil)) (pe_and (pe_cmpR (r := rInV K) (op_inV hr) (pe_ix (r := rIx K) ix_seq (pv 0) pe_int (fun _ _ => rfl)) (pe_glob (v := .str "abcdefghijklmnopqrstuvwxyz0123456789") (by rfl) T.c_SMALL_SIGNS ⟨_, rfl⟩) (by with_unfolding_all rfl)) (pe_and (pe_cmpR (r := rNotInV K) (op_notInV hr) (pe_ix (r := rIx K) ix_seq (pv 0) pe_int (fun _ _ => rfl)) (pe_glob (v := .str "0123456789") (by rfl) T.c_DIGITS ⟨_, rfl⟩) (by with_unfolding_all rfl)) (pe_one (pe_cmpR (r := rNotInV K) (op_notInV hr) (pv 0) (pe_glob (v := .ref T.a_WORDS) (by rfl) T.c_WORDS rfl) (by with_unfolding_all rfl)))))))), ?_⟩
    walk_at "2"
    walk_at "19"
    walk_at "12"
    walk_at "9"
    walk_at "69"
    walk_at "10"
    refine ⟨z, rfl, hz, fun H1 x1 => ?_⟩
    walk_at "88"
    refine k_ifb (fun hp => ?_) (fun hp => ?_)
    · have hl := plain_len hp
      obtain ⟨c, r, ez, ec⟩ := head_of hl.1
      have eh : headIn z letL = decide (c ∈ letL) := by unfold headIn; rw [ez]
      have en : nameF z = (decide (c ∈ letL) && !inV (.str z) W13) := by unfold nameF; rw [hp, eh]; rfl
      rw [← letters c] at en
      walk_at "19"
      walk_at "8"
      walk_at "8"
      walk_at "69"
      walk_at "7"
      refine v_ix_s (szL (by omega)) ec ?_
      walk_at "7"
      walk_at "61"
      walk_at "88"
      refine k_if (fun h1 => ?_) (fun h1 => ?_)
      · walk_at "19"
        walk_at "8"
        walk_at "8"
        walk_at "69"
        walk_at "7"
        refine v_ix_s (szL (by omega)) ec ?_
        walk_at "7"
        walk_at "62"
        walk_at "88"
        refine k_ifn (fun h2 => ?_) (fun h2 => ?_)
        · walk_at "8"
          walk_at "69"
          walk_at "7"
          refine w_notin_q (.inr (T.q_WORDS H1)) rfl (by decide +kernel) ?_
          have e1 : (decide (c ∈ smallL) && !decide (c ∈ digL)) = true := by rw [decide_eq_true (show c ∈ smallL from h1), decide_eq_false (show ¬ c ∈ digL from h2)]; rfl
          rw [e1, Bool.true_and] at en
          rw [show (!inV (V.str z) [V.str "all", V.str "some", V.str "not", V.str "and", V.str "or", V.str "implies", V.str "iff", V.str "true", V.str "false", V.str "truth", V.str "sort", V.str "function", V.str "axiom"]) = nameF z from en.symm]
          exact q H1 x1
        · have e1 : (decide (c ∈ smallL) && !decide (c ∈ digL)) = false := by rw [decide_eq_true (show c ∈ smallL from h1), decide_eq_true (show c ∈ digL from h2)]; rfl
          rw [e1, Bool.false_and] at en
          rw [← en]
          exact q H1 x1
      · have e1 : (decide (c ∈ smallL) && !decide (c ∈ digL)) = false := by rw [decide_eq_false (show ¬ c ∈ smallL from h1)]; rfl
        rw [e1, Bool.false_and] at en
        rw [← en]
        exact q H1 x1
    · have en : nameF z = false := by unfold nameF; rw [hp]; rfl
      rw [← en]
      exact q H1 x1


theorem ok__law_due (T : Top0 P K mg) : FnOk P w K mg base CX0 2 T.f__law_due T.fd__law_due ["sort_names", "function_rows", "predicate_rows"] (sp__law_due T) := by
  refine T.F__law_due.ok sc__law_due (fun vs H Q E h => ?_) (fun cdv A outer s H vs Q E hr h => ?_)
  · obtain ⟨v1, v2, v3, x, rfl, h1, h2, h3, ok, q⟩ := h
    rfl
  · obtain ⟨v1, v2, v3, x, rfl, h1, h2, h3, ok, q⟩ := h
    refine ⟨_, (pss_cons (ps_set (i := 3) sc__law_due.nd rfl (Or.inl rfl) (pe_lst pa_nil))
      (pss_cons (ps_for PassesOwn.never rfl (pi_list (pv 0)) (pg_name (i := 4) sc__law_due.nd rfl (Or.inl rfl)) (pss_cons (ps_if (pt_not (pt_val (pe_call (ok__law_is_name T) (hr.mono (by first | decide | exact Nat.le_refl _ | omega | (show _ ≤ _ + n; omega))) (by rfl) T.g__law_is_name T.F__law_is_name.kp T.b__law_is_name .nil pass0 (pa_cons (pv 4) pa_nil)))) (pss_one (ps_ret (pe_lst (pa_cons pe_int (pa_cons (pv 4) pa_nil))))) pss_nil)
      (pss_cons (ps_if (pt_cmpR (r := rInV K) (op_inV hr) (pv 4) (pv 3) (by with_unfolding_all rfl)) (pss_one (ps_ret (pe_lst (pa_cons pe_int (pa_cons (pv 4) pa_nil))))) pss_nil)
      (pss_one (ps_expr (pe_bm PySem.F.plainAttrs_list PySem.F.slot_list_append PySem.F.type_list_append mt_append (pv 3) (pa_cons (pv 4) pa_nil)))))))
      (pss_cons (ps_for PassesOwn.never rfl (pi_list (pe_op (r := rPlus K) op_plus (pv 1) (pv 2))) (pg_name (i := 5) sc__law_due.nd rfl (Or.inl rfl)) (pss_cons (ps_if (pt_not (pt_val (pe_call (ok__law_is_name T) (hr.mono (by first | decide | exact Nat.le_refl _ | omega | (show _ ≤ _ + n; omega))) (by rfl) T.g__law_is_name T.F__law_is_name.kp T.b__law_is_name .nil pass0 (pa_cons (pe_ix (r := rIx K) ix_seq (pv 5) pe_int (fun _ _ => rfl)) pa_nil)))) (pss_one (ps_ret (pe_lst (pa_cons pe_int (pa_cons (pe_ix (r := rIx K) ix_seq (pv 5) pe_int (fun _ _ => rfl)) pa_nil))))) pss_nil)
      (pss_cons (ps_if (pt_cmpR (r := rInV K) (op_inV hr) (pe_ix (r := rIx K) ix_seq (pv 5) pe_int (fun _ _ => rfl)) (pv 3) (by with_unfolding_all rfl)) (pss_one (ps_ret (pe_lst (pa_cons pe_int (pa_cons (pe_ix (r := rIx K) ix_seq (pv 5) pe_int (fun _ _ => rfl)) pa_nil))))) pss_nil)
      (pss_cons (ps_for PassesOwn.never rfl (pi_list (pe_op (r := rPlus K) op_plus (pe_callTy (r := rLst K) call_lstU (by rfl) T.n_list (by decide +kernel) (pa_cons (pe_ix (r := rIx K) ix_seq (pv 5) pe_int (fun _ _ => rfl)) pa_nil)) (pe_callTy (r := rLst K) call_lstU (by rfl) T.n_list (by decide +kernel) (pa_cons (pe_slice (r := rSlU K) sl_any (pv 5) (po_some pe_int) po_none) pa_nil)))) (pg_name (i := 4) sc__law_due.nd rfl (Or.inl rfl)) (pss_one (ps_if (pt_cmpR (r := rNotInV K) (op_notInV hr) (pv 4) (pv 0) (by with_unfolding_all rfl)) (pss_one (ps_ret (pe_lst (pa_cons pe_int (pa_cons (pv 4) pa_nil))))) pss_nil)))
      (pss_one (ps_expr (pe_bm PySem.F.plainAttrs_list PySem.F.slot_list_append PySem.F.type_list_append mt_append (pv 3) (pa_cons (pe_ix (r := rIx K) ix_seq (pv 5) pe_int (fun _ _ => rfl)) pa_nil))))))))
      (pss_one (ps_ret (pe_lst (pa_cons pe_int (pa_cons pe_str pa_nil)))))))), ?_⟩
    obtain ⟨a1, xs1, rfl, hS1, hd1⟩ := Dp.lst_inv h1
    have exs := DpAll.strs_inv hd1
    subst exs
    have hle := ok.le
    have hsl := ok.slen
    walk_at "0"
    walk_at "1"
    walk_at "34"
    walk_at "10"
    walk_at "82"
    intro e H1 n1 w1 e1
    walk_at "6"
    walk_at "0"
    walk_at "37"
    walk_at "38"
    walk_at "69"
    walk_at "88"
    have rS : ∀ i z, x.S[i]? = some z → x.rows[i]? = some (z, []) := fun i z hz => by
      have hi := (List.getElem?_eq_some_iff.mp hz).1
      unfold Lex.rows
      rw [List.append_assoc, List.getElem?_append_left (by rw [List.length_map]; exact hi), List.getElem?_map, hz]; rfl
    refine ⟨⟨_, xl w1 hS1⟩, for_list (xs := x.S.map V.str) (fun i σ' H' => ∃ y, σ' = [some (.ref a1), some v2, some v3, some (.ref e), y, none] ∧ Xt H H' ∧ H' e = some (.lst (((x.rows.take i).map (·.1)).map V.str)) ∧ chkF x.S x.rows [] = chkF x.S (x.rows.drop i) ((x.rows.take i).map (·.1))) ⟨_, rfl, w1, e1, rfl⟩ ?_ ?_ ?_⟩
    · rintro i σ' H' hi ⟨y, rfl, hx, _⟩
      exact xl hx hS1
    · rintro i xv σ' H' hx ⟨y, rfl, xx, ee, hc⟩
      rw [List.getElem?_map] at hx
      cases hz : x.S[i]? with
      | none => rw [hz] at hx; cases hx
      | some z =>
        rw [hz] at hx
        cases hx
        have hr := rS i z hz
        have htz := (ok.tx _ (List.mem_of_getElem? hr)).1
        rw [chk_step hr] at hc
        walk_at "6"
        walk_at "0"
        walk_at "4"
        walk_at "16"
        walk_at "15"
        walk_at "12"
        walk_at "9"
        walk_at "69"
        walk_at "10"
        refine ⟨z, rfl, Nat.le_trans htz.len (by decide), fun H2 x2 => ?_⟩
        walk_at "88"
        refine k_ifb (fun g1 => ?_) (fun g1 => ?_)
        · have g1 : nameF z = false := by
            cases h : nameF z with
            | true => rw [h] at g1; cases g1
            | false => rfl
          rw [if_neg (by show ¬ nameF z = true; rw [g1]; exact Bool.false_ne_true)] at hc
          walk_at "2"
          walk_at "34"
          walk_at "9"
          walk_at "7"
          walk_at "9"
          walk_at "69"
          walk_at "10"
          walk_at "82"
          intro p3 H3 n3 x3 e3
          refine q p3 H3 (xtr xx (xtr x2 x3)) ?_
          unfold dueV
          rw [hc]
          exact e3
        have g1 : nameF z = true := by
          cases h : nameF z with
          | true => rfl
          | false => rw [h] at g1; cases g1
        rw [if_pos (show nameF (z, ([] : List Str)).1 = true from g1)] at hc
        walk_at "5"
        walk_at "0"
        walk_at "4"
        walk_at "14"
        walk_at "8"
        walk_at "69"
        walk_at "69"
        refine in_strs (x2 _ _ ee) ?_
        walk_at "88"
        refine k_if (fun g2 => ?_) (fun g2 => ?_)
        · rw [if_pos g2] at hc
          walk_at "2"
          walk_at "34"
          walk_at "9"
          walk_at "7"
          walk_at "9"
          walk_at "69"
          walk_at "10"
          walk_at "82"
          intro p3 H3 n3 x3 e3
          refine q p3 H3 (xtr xx (xtr x2 x3)) ?_
          unfold dueV
          rw [hc]
          exact e3
        rw [if_neg g2, List.find?_nil] at hc
        walk_at "5"
        walk_at "3"
        walk_at "36"
        walk_at "69"
        refine ⟨ty_l (x2 _ _ ee), ?_⟩
        walk_at "9"
        walk_at "69"
        walk_at "10"
        refine v_app (x2 _ _ ee) (by rw [List.length_map, List.length_map, List.length_take]; omega) ?_
        refine ⟨_, rfl, xmut (xtr xx x2) n1, ?_, ?_⟩
        · rw [upd_same, take_step hr, List.map_append]; rfl
        · rw [hc, take_step hr]
    · rintro σ' H' ⟨y, rfl, xx, ee, hc⟩
      rw [List.length_map] at ee hc
      have hl2 : (x.F.map fD).length + (x.P.map pD).length ≤ 1000 := by
        have := hle
        unfold Lex.rows at this
        simp only [List.length_append, List.length_map] at this ⊢
        omega
      obtain ⟨a2, xs2, rfl, hS2, hd2⟩ := h2
      obtain ⟨a3, xs3, rfl, hS3, hd3⟩ := h3
      have hn2 := hd2.len
      have hn3 := hd3.len
      walk_at "0"
      walk_at "37"
      walk_at "38"
      walk_at "8"
      walk_at "69"
      walk_at "69"
      refine v_plus_lst (xx _ _ hS2) (xx _ _ hS3) (szL (by omega)) fun p2 H2 n2 x2 e2 => ?_
      have hdp : DpAll K H (xs2 ++ xs3) ((itemsOf x).map iD) := by
        rw [items_map]
        exact DpAll.app hd2 hd3
      have hpe : p2 ≠ e := fun h => by rw [h, ee] at n2; cases n2
      have rI : ∀ i t, (itemsOf x)[i]? = some t → x.rows[x.S.length + i]? = some (t.1, t.2.1 ++ t.2.2) := fun i t ht => by
        rw [rows_items, List.getElem?_append_right (by rw [List.length_map]; omega), List.length_map, Nat.add_sub_cancel_left, List.getElem?_map, ht]; rfl
      have hil : (itemsOf x).length = (xs2 ++ xs3).length := by
        rw [List.length_append, hn2, hn3, ← List.length_append, ← items_map, List.length_map]
      have hrl : x.rows.length = x.S.length + (itemsOf x).length := by rw [rows_items, List.length_append, List.length_map, List.length_map]
      refine ⟨_, rfl, ⟨_, sql e2⟩, for_list (xs := xs2 ++ xs3) (fun i σ' H' => ∃ y y5, σ' = [some (.ref a1), some (.ref a2), some (.ref a3), some (.ref e), y, y5] ∧ H' p2 = some (.lst (xs2 ++ xs3)) ∧ Xt H H' ∧ H' e = some (.lst (((x.rows.take (x.S.length + i)).map (·.1)).map V.str)) ∧ chkF x.S x.rows [] = chkF x.S (x.rows.drop (x.S.length + i)) ((x.rows.take (x.S.length + i)).map (·.1))) ⟨_, _, rfl, e2, xtr xx x2, x2 _ _ ee, hc⟩ ?_ ?_ ?_⟩
      · rintro i σ' H' hi ⟨y, y5, rfl, hx, _⟩
        exact sql hx
      · rintro i xv σ' H' hx ⟨y, y5, rfl, ep, xx, ee, hc⟩
        obtain ⟨d, hdx, hdv⟩ := DpAll.getV (DpAll.mono xx hdp) hx
        rw [List.getElem?_map] at hdx
        cases ht : (itemsOf x)[i]? with
        | none => rw [ht] at hdx; cases hdx
        | some t =>
          rw [ht] at hdx
          cases hdx
          have hr := rI i t ht
          have htx := ok.tx _ (List.mem_of_getElem? hr)
          have hwl := ok.wl _ (List.mem_of_getElem? hr)
          rw [chk_step hr] at hc
          have key : ∀ {H : Hp} {Q : VK}, Dp K H xv (iD t) → Q (.str t.1) H → rIx K xv (.int 0) H Q := fun hd q => d_ix hd (atI_nat (j := 0) rfl) fun w hw => by cases Dp.str_inv hw; exact q
          walk_at "6"
          walk_at "0"
          walk_at "4"
          walk_at "16"
          walk_at "15"
          walk_at "12"
          walk_at "9"
          walk_at "8"
          walk_at "69"
          walk_at "7"
          refine key hdv ?_
          walk_at "10"
          refine ⟨t.1, rfl, Nat.le_trans htx.1.len (by decide), fun H3 x3 => ?_⟩
          walk_at "88"
          refine k_ifb (fun g1 => ?_) (fun g1 => ?_)
          · have g1 : nameF t.1 = false := by
              cases h : nameF t.1 with
              | true => rw [h] at g1; cases g1
              | false => rfl
            rw [if_neg (by show ¬ nameF t.1 = true; rw [g1]; exact Bool.false_ne_true)] at hc
            walk_at "2"
            walk_at "34"
            walk_at "9"
            walk_at "7"
            walk_at "9"
            walk_at "8"
            walk_at "69"
            walk_at "7"
            refine key (Dp.mono x3 hdv) ?_
            walk_at "10"
            walk_at "82"
            intro p3 H4 n3 x4 e4
            refine q p3 H4 (xtr xx (xtr x3 x4)) ?_
            unfold dueV
            rw [hc]
            exact e4
          have g1 : nameF t.1 = true := by
            cases h : nameF t.1 with
            | true => rfl
            | false => rw [h] at g1; cases g1
          rw [if_pos (show nameF (t.1, t.2.1 ++ t.2.2).1 = true from g1)] at hc
          walk_at "5"
          walk_at "0"
          walk_at "4"
          walk_at "14"
          walk_at "8"
          walk_at "8"
          walk_at "69"
          walk_at "7"
          refine key (Dp.mono x3 hdv) ?_
          walk_at "69"
          refine in_strs (x3 _ _ ee) ?_
          walk_at "88"
          refine k_if (fun g2 => ?_) (fun g2 => ?_)
          · rw [if_pos g2] at hc
            walk_at "2"
            walk_at "34"
            walk_at "9"
            walk_at "7"
            walk_at "9"
            walk_at "8"
            walk_at "69"
            walk_at "7"
            refine key (Dp.mono x3 hdv) ?_
            walk_at "10"
            walk_at "82"
            intro p3 H4 n3 x4 e4
            refine q p3 H4 (xtr xx (xtr x3 x4)) ?_
            unfold dueV
            rw [hc]
            exact e4
          rw [if_neg g2] at hc
          have hd3' := Dp.mono x3 hdv
          walk_at "5"
          walk_at "0"
          walk_at "37"
          walk_at "38"
          walk_at "8"
          walk_at "11"
          walk_at "9"
          walk_at "8"
          walk_at "69"
          walk_at "7"
          refine d_ix hd3' (atI_nat (j := 1) rfl) fun w1 hw1 => ?_
          walk_at "10"
          refine d_lstl (.inr hw1) fun p4 ys4 H4 n4 x4 e4 hd4 => ?_
          cases DpAll.strs_inv hd4
          walk_at "11"
          walk_at "9"
          walk_at "48"
          walk_at "69"
          walk_at "50"
          walk_at "7"
          walk_at "88"
          walk_at "49"
          refine d_cut (Dp.mono x4 hd3') fun v5 H5 x5 hv5 => ?_
          rw [show cutP (PyData.str t.1 :: .tuple (t.2.1.map PyData.str) :: t.2.2.map PyData.str) (some 2) none = t.2.2.map PyData.str from iD_cut] at hv5
          walk_at "10"
          refine d_lstl (.inr hv5) fun p6 ys6 H6 n6 x6 e6 hd6 => ?_
          cases DpAll.strs_inv hd6
          have hwl2 : t.2.1.length + t.2.2.length ≤ 1000 := by rw [← List.length_append]; exact hwl
          refine v_plus_lst (xtr x5 x6 _ _ e4) e6 (szL (by rw [List.length_map, List.length_map]; omega)) fun p7 H7 n7 x7 e7 => ?_
          rw [← List.map_append] at e7
          have x37 := xtr x3 (xtr x4 (xtr x5 (xtr x6 x7)))
          have hS7 := xl (xtr xx x37) hS1
          have ee7 := x37 _ _ ee
          refine ⟨_, rfl, ⟨_, sql e7⟩, for_list (xs := (t.2.1 ++ t.2.2).map V.str) (fun j σ' H' => ∃ y, σ' = [some (.ref a1), some (.ref a2), some (.ref a3), some (.ref e), y, some xv] ∧ H' = H7 ∧ ∀ l z, l < j → (t.2.1 ++ t.2.2)[l]? = some z → z ∈ x.S) ⟨_, rfl, rfl, fun l z hl => absurd hl (Nat.not_lt_zero _)⟩ ?_ ?_ ?_⟩
          · rintro j σ' H' hj ⟨y, rfl, rfl, _⟩
            exact sql e7
          · rintro j yv σ' H' hy ⟨y, rfl, rfl, hall⟩
            rw [List.getElem?_map] at hy
            cases hq : (t.2.1 ++ t.2.2)[j]? with
            | none => rw [hq] at hy; cases hy
            | some sq =>
              rw [hq] at hy
              cases hy
              walk_at "6"
              walk_at "4"
              walk_at "14"
              walk_at "8"
              walk_at "69"
              walk_at "69"
              refine notin_strs hS7 ?_
              walk_at "88"
              refine k_ifn (fun g3 => ?_) (fun g3 => ?_)
              · walk_at "2"
                walk_at "34"
                walk_at "9"
                walk_at "7"
                walk_at "9"
                walk_at "69"
                walk_at "10"
                walk_at "82"
                intro p8 H8 n8 x8 e8
                refine q p8 H8 (xtr xx (xtr x37 x8)) ?_
                rw [find_first (p := fun s => decide (s ∉ x.S)) hq (decide_eq_true g3) fun l z hl hz => decide_eq_false fun n => n (hall l z hl hz)] at hc
                unfold dueV
                rw [hc]
                exact e8
              · walk_at "5"
                walk_at "88"
                refine ⟨rfl, fun l z hl hz => ?_⟩
                by_cases hlj : l = j
                · subst hlj; rw [hq] at hz; cases hz; exact g3
                · exact hall l z (by omega) hz
          · rintro σ' H' ⟨y, rfl, rfl, hall⟩
            rw [List.length_map] at hall
            have hfn : (t.2.1 ++ t.2.2).find? (fun s => decide (s ∉ x.S)) = none := by
              rw [List.find?_eq_none]
              intro z hz
              obtain ⟨l, hl⟩ := List.mem_iff_getElem?.mp hz
              rw [decide_eq_true_iff]
              exact fun n => n (hall l z (List.getElem?_eq_some_iff.mp hl).1 hl)
            rw [hfn] at hc
            walk_at "3"
            walk_at "36"
            walk_at "69"
            refine ⟨ty_l ee7, ?_⟩
            walk_at "9"
            walk_at "8"
            walk_at "69"
            walk_at "7"
            refine key (Dp.mono x37 hdv) ?_
            walk_at "10"
            refine v_app ee7 (by rw [List.length_map, List.length_map, List.length_take]; omega) ?_
            refine ⟨_, _, rfl, ?_, xmut (xtr xx x37) n1, ?_, ?_⟩
            · rw [upd_ne hpe]; exact x37 _ _ ep
            · rw [upd_same, ← Nat.add_assoc, take_step hr, List.map_append]; rfl
            · rw [hc, ← Nat.add_assoc, take_step hr]
      · rintro σ' H' ⟨y, y5, rfl, _, xx, ee, hc⟩
        rw [← hil, ← hrl, List.drop_length] at hc
        walk_at "2"
        walk_at "34"
        walk_at "9"
        walk_at "7"
        walk_at "9"
        walk_at "7"
        walk_at "10"
        walk_at "82"
        intro p3 H3 n3 x3 e3
        refine q p3 H3 (xtr xx x3) ?_
        unfold dueV
        rw [hc]
        exact e3


theorem ok__check_rows (T : Top0 P K mg) : FnOk P w K mg base (L2.CX P w) 3 T.f__check_rows T.fd__check_rows ["rows", "sorts"] (sp__check_rows T) := by
  refine T.F__check_rows.okX sc__check_rows (fun vs H Q E h => ?_) (fun cdv A outer s H vs Q E hr h => ?_)
  · obtain ⟨v, s, S, rows, rfl, hv, hs, htx, hlr, q1, q2⟩ := h
    rfl
  · obtain ⟨v, s, S, rows, rfl, hv, hs, htx, hlr, q1, q2⟩ := h
    refine ⟨_, (pss_cons (ps_set (i := 2) sc__check_rows.nd rfl (Or.inl rfl) pe_dnewK)
      (pss_one (ps_for (passes_of rfl) rfl (pi_list (pv 0)) (pg_tup rfl (pgs_cons (pg_name (i := 3) sc__check_rows.nd rfl (Or.inl rfl)) (pgs_cons (pg_name (i := 4) sc__check_rows.nd rfl (Or.inl rfl)) pgs_nil))) (pss_cons (ps_if (pt_not (pt_val (pe_call (ok_is_name T) (hr.mono (by first | decide | exact Nat.le_refl _ | omega | (show _ ≤ _ + n; omega))) (by rfl) T.g_is_name T.F_is_name.kp T.b_is_name .nil pass0 (pa_cons (pv 3) pa_nil)))) (pss_one (ps_raise rfl (takes_of rfl rfl rfl rfl) (pmk_oex T.ox_BadName T.iI_BadName T.tI_BadName (ok_BadName___init__ T) (hr.mono (by first | decide | exact Nat.le_refl _ | omega | (show _ ≤ _ + n; omega))) T.bI_BadName .nil pass0 (by rfl) T.g_BadName (pa_cons (pv 3) pa_nil)))) pss_nil)
      (pss_cons (ps_if (pt_cmp (pc_din (hu_of hr) (pv 3) (pv 2))) (pss_one (ps_raise rfl (takes_of rfl rfl rfl rfl) (pmk_oex T.ox_NameTaken T.iI_NameTaken T.tI_NameTaken (ok_NameTaken___init__ T) (hr.mono (by first | decide | exact Nat.le_refl _ | omega | (show _ ≤ _ + n; omega))) T.bI_NameTaken .nil pass0 (by rfl) T.g_NameTaken (pa_cons (pv 3) pa_nil)))) pss_nil)
      (pss_cons (ps_for (passes_of rfl) rfl (pi_tup (pv 4)) (pg_name (i := 5) sc__check_rows.nd rfl (Or.inl rfl)) (pss_one (ps_if (pt_cmpR (r := rNotInV K) (op_notInV hr) (pv 5) (pv 1) (by with_unfolding_all rfl)) (pss_one (ps_raise rfl (takes_of rfl rfl rfl rfl) (pmk_oex T.ox_NoSort T.iI_NoSort T.tI_NoSort (ok_NoSort___init__ T) (hr.mono (by first | decide | exact Nat.le_refl _ | omega | (show _ ≤ _ + n; omega))) T.bI_NoSort .nil pass0 (by rfl) T.g_NoSort (pa_cons (pv 5) pa_nil)))) pss_nil)))
      (pss_one (ps_dput (hu_of hr) (pv 2) (pv 3) pe_bl rfl)))))))), ?_⟩
    obtain ⟨a, xs, rfl, hS, hd⟩ := Dp.lst_inv hv
    walk_at "0"
    walk_at "1"
    refine k_dnew fun t H1 n1 x1 e1 => ?_
    walk_at "6"
    walk_at "37"
    walk_at "38"
    walk_at "69"
    walk_at "88"
    have hlen := hd.len
    rw [List.length_map] at hlen
    refine ⟨⟨_, xl x1 hS⟩, for_list (xs := xs) (fun i σ' H' => ∃ y1 y2 y3 kvs, σ' = [some (.ref a), some s, some (.ref t), y1, y2, y3] ∧ Xt H H' ∧ H' t = some (.dK kvs) ∧ kvs.length ≤ i ∧ HasD K H' kvs (tabF ((rows.map fun r => (r.1, PyData.bool true)).take i)) ∧ chkF S rows [] = chkF S (rows.drop i) ((rows.take i).map (·.1))) ⟨_, _, _, _, rfl, x1, e1, Nat.le_refl _, HasD.nil, rfl⟩ ?_ ?_ ?_⟩
    · rintro i σ' H' hi ⟨y1, y2, y3, kvs, rfl, hx, _⟩
      exact xl hx hS
    · rintro i x σ' H' hx ⟨y1, y2, y3, kvs, rfl, xx, et, hk, hD, hc⟩
      obtain ⟨d, hdx, hdp⟩ := DpAll.getV (DpAll.mono xx hd) hx
      rw [List.getElem?_map] at hdx
      cases he : rows[i]? with
      | none => rw [he] at hdx; cases hdx
      | some r =>
        rw [he] at hdx
        cases hdx
        have hi : i < rows.length := (List.getElem?_eq_some_iff.mp he).1
        have hmem : r ∈ rows := List.mem_of_getElem? he
        have hsm := Dp.mono xx hs
        have hrt := htx r hmem
        have hdr : rows.drop i = r :: rows.drop (i + 1) := by
          rw [List.drop_eq_getElem_cons hi]
          have := (List.getElem?_eq_some_iff.mp he).2
          rw [this]
        rw [hdr, chkF_cons] at hc
        refine k_gtup hdp rfl fun vs hvs => ?_
        refine k_gcons hvs fun w1 ws1 hw1 hws1 => ?_
        refine k_gcons hws1 fun w2 ws2 hw2 hws2 => ?_
        refine k_gnil hws2 ?_
        cases Dp.str_inv hw1
        walk_at "0"
        walk_at "4"
        walk_at "16"
        walk_at "15"
        walk_at "12"
        walk_at "9"
        walk_at "69"
        walk_at "10"
        refine ⟨_, rfl, by have := hrt.1.len; omega, fun H2 x2 => ?_⟩
        walk_at "88"
        refine k_ifb (fun h1 => ?_) (fun h1 => ?_)
        · have h1 : nameF r.1 = false := by
            cases h : nameF r.1 with
            | true => rw [h] at h1; cases h1
            | false => rfl
          show tCons _ _ _ _ _
          walk_at "9"
          walk_at "69"
          walk_at "10"
          refine ⟨Nat.le_of_ble_eq_true rfl, mkO_end hrt.1 fun d H3 x3 e3 => q2 1 r.1 ?_ d H3 (xtr xx (xtr x2 x3)) e3⟩
          rw [hc, if_neg (by rw [h1]; exact Bool.false_ne_true)]
        · have h1 : nameF r.1 = true := by
            cases h : nameF r.1 with
            | true => rfl
            | false => rw [h] at h1; cases h1
          walk_at "5"
          walk_at "0"
          walk_at "4"
          walk_at "15"
          walk_at "28"
          walk_at "69"
          walk_at "69"
          rw [if_pos h1] at hc
          refine ⟨_, _, rfl, DGet.k (k := Sum.inr r.1) (x2 _ _ et), ?_⟩
          have hz := hD r.1
          have hk2 : ((rows.map fun r => (r.1, PyData.bool true)).take i).map (·.1) = (rows.take i).map (·.1) := by rw [← List.map_take, List.map_map]; rfl
          by_cases h2 : r.1 ∈ (rows.take i).map (·.1)
          · rw [if_pos h2] at hc
            obtain ⟨dd, hdd⟩ := tabF_isSome (z := r.1) (l := (rows.map fun r => (r.1, PyData.bool true)).take i) (by rw [hk2]; exact h2)
            rw [hdd] at hz
            obtain ⟨_, v, e2, _⟩ := hz
            rw [show valV kvs (Sum.inr r.1 : Key) = some v from e2]
            refine ⟨_, rfl, ?_⟩
            refine k_ifb (fun _ => ?_) (fun e => by cases e)
            show tCons _ _ _ _ _
            walk_at "9"
            walk_at "69"
            walk_at "10"
            exact ⟨Nat.le_of_ble_eq_true rfl, mkO_end hrt.1 fun d H3 x3 e3 => q2 2 r.1 hc d H3 (xtr xx (xtr x2 x3)) e3⟩
          · rw [if_neg h2] at hc
            rw [tabF_none (z := r.1) (l := (rows.map fun r => (r.1, PyData.bool true)).take i) (by rw [hk2]; exact h2)] at hz
            rw [show valV kvs (Sum.inr r.1 : Key) = none from hz]
            refine ⟨_, rfl, ?_⟩
            refine k_ifb (fun e => by cases e) (fun _ => ?_)
            walk_at "5"
            walk_at "0"
            walk_at "37"
            walk_at "39"
            walk_at "69"
            obtain ⟨aw, xw, rfl, hSw, hdw⟩ := Dp.tup_inv (Dp.mono x2 hw2)
            have exw := DpAll.strs_inv hdw
            subst exw
            refine ⟨_, rfl, ⟨_, hSw⟩, for_tup (xs := r.2.map V.str) (fun j σ' H' => ∃ y3, σ' = [some (.ref a), some s, some (.ref t), some (.str r.1), some (.ref aw), y3] ∧ H' = H2 ∧ ∀ l z, l < j → r.2[l]? = some z → z ∈ S) ⟨_, rfl, rfl, fun l z hl => absurd hl (Nat.not_lt_zero _)⟩ ?_ ?_ ?_⟩
            · rintro j σ' H' hj ⟨y3, rfl, rfl, _⟩
              exact hSw
            · rintro j y σ' H' hy ⟨y3, rfl, rfl, hall⟩
              rw [List.getElem?_map] at hy
              cases hq : r.2[j]? with
              | none => rw [hq] at hy; cases hy
              | some sq =>
                rw [hq] at hy
                cases hy
                walk_at "6"
                walk_at "4"
                walk_at "14"
                walk_at "8"
                walk_at "69"
                walk_at "69"
                refine w_notin (Dp.mono x2 hsm) ?_
                walk_at "88"
                refine k_ifn (fun h3 => ?_) (fun h3 => ?_)
                · show tCons _ _ _ _ _
                  walk_at "9"
                  walk_at "69"
                  walk_at "10"
                  refine ⟨Nat.le_of_ble_eq_true rfl, mkO_end (hrt.2 sq (List.mem_of_getElem? hq)) fun d H3 x3 e3 => q2 3 sq ?_ d H3 (xtr xx (xtr x2 x3)) e3⟩
                  rw [hc, find_first (p := fun s => decide (s ∉ S)) hq (decide_eq_true h3) fun l z hl hz => decide_eq_false fun n => n (hall l z hl hz)]
                · walk_at "5"
                  walk_at "88"
                  refine ⟨rfl, fun l z hl hz => ?_⟩
                  by_cases hlj : l = j
                  · subst hlj; rw [hq] at hz; cases hz; exact h3
                  · exact hall l z (by omega) hz
            · rintro σ' H' ⟨y3, rfl, rfl, hall⟩
              rw [List.length_map] at hall
              have hfn : r.2.find? (fun s => decide (s ∉ S)) = none := by
                rw [List.find?_eq_none]
                intro z hz
                obtain ⟨l, hl⟩ := List.mem_iff_getElem?.mp hz
                rw [decide_eq_true_iff]
                exact fun n => n (hall l z (List.getElem?_eq_some_iff.mp hl).1 hl)
              rw [hfn] at hc
              walk_at "29"
              walk_at "7"
              walk_at "69"
              walk_at "69"
              refine v_dput (x2 _ _ et) (by omega) ?_
              refine ⟨_, _, _, _, rfl, xmut (xtr xx x2) n1, upd_same, ?_, ?_, ?_⟩
              · unfold putK
                split
                · rw [List.length_map]; omega
                · rw [List.length_append, List.length_singleton]; omega
              · have et2 : (rows.map fun r => (r.1, PyData.bool true)).take (i + 1) = (rows.map fun r => (r.1, PyData.bool true)).take i ++ [(r.1, PyData.bool true)] := by rw [List.take_add_one, List.getElem?_map, he]; rfl
                rw [et2, tabF_snoc]
                exact HasD.im (fun a zs h => SqT.updD (x2 _ _ et) h) ((hD.mono x2).put rfl (.bl true))
              · rw [hc, List.take_add_one, he, List.map_append]; rfl
    · rintro σ' H' ⟨y1, y2, y3, kvs, rfl, xx, _, _, _, hc⟩
      rw [hlen, List.drop_length] at hc
      exact q1 hc H' xx


theorem ok__law_rows (T : Top0 P K mg) : FnOk P w K mg base CX0 3 T.f__law_rows T.fd__law_rows ["script", "counts", "alike"] (sp__law_rows T) := by
  refine T.F__law_rows.ok sc__law_rows (fun vs H Q E h => ?_) (fun cdv A outer s H vs Q E hr h => ?_)
  · obtain ⟨l, cp, ns, cs, v, rfl, hS, hns, hc, hcs, hv, q⟩ := h
    rfl
  · obtain ⟨l, cp, ns, cs, v, rfl, hS, hns, hc, hcs, hv, q⟩ := h
    refine ⟨_, (pss_cons (ps_set (i := 3) sc__law_rows.nd rfl (Or.inl rfl) (pe_lst pa_nil))
      (pss_cons (ps_for PassesOwn.never rfl (pi_range1 (by rfl) T.n_range (pa_cons pe_int pa_nil)) (pg_name (i := 4) sc__law_rows.nd rfl (Or.inl rfl)) (pss_one (ps_for PassesOwn.never rfl (pi_range1 (by rfl) T.n_range (pa_cons (pe_ix (r := rIx K) ix_seq (pv 1) (pv 4) (fun _ _ => rfl)) pa_nil)) (pg_name (i := 5) sc__law_rows.nd rfl (Or.inl rfl)) (pss_cons (ps_set (i := 6) sc__law_rows.nd rfl (Or.inr rfl) (pe_call (ok__law_digits T) (hr.mono (by first | decide | exact Nat.le_refl _ | omega | (show _ ≤ _ + n; omega))) (by rfl) T.g__law_digits T.F__law_digits.kp T.b__law_digits .nil pass0 (pa_cons (pe_call (ok__law_cell T) (hr.mono (by first | decide | exact Nat.le_refl _ | omega | (show _ ≤ _ + n; omega))) (by rfl) T.g__law_cell T.F__law_cell.kp T.b__law_cell .nil pass0 (pa_cons (pv 0) (pa_cons (pe_op (r := rPlus K) op_plus (pe_ix (r := rIx K) ix_seq (pe_lst (pa_cons pe_int (pa_cons pe_int (pa_cons pe_int (pa_cons pe_int pa_nil))))) (pv 4) (fun _ _ => rfl)) (pv 5)) pa_nil))) (pa_cons (pe_lst (pa_cons pe_int (pa_cons pe_int (pa_cons pe_int (pa_cons pe_int (pa_cons pe_int (pa_cons pe_int (pa_cons pe_int (pa_cons pe_int (pa_cons pe_int (pa_cons pe_int (pa_cons pe_int (pa_cons pe_int (pa_cons pe_int (pa_cons pe_int pa_nil))))))))))))))) pa_nil))))
      (pss_cons (ps_set (i := 7) sc__law_rows.nd rfl (Or.inl rfl) (pe_call (ok__law_name T) (hr.mono (by first | decide | exact Nat.le_refl _ | omega | (show _ ≤ _ + n; omega))) (by rfl) T.g__law_name T.F__law_name.kp T.b__law_name .nil pass0 (pa_cons (pv 2) (pa_cons (pe_callB (r := rLenU K) call_lenU (by rfl) T.n_len PySem.boot_len (pa_cons (pv 3) pa_nil)) (pa_cons (pe_slice (r := rSlU K) sl_any (pv 6) (po_some pe_int) po_none) pa_nil)))))
      (pss_cons (ps_set (i := 8) sc__law_rows.nd rfl (Or.inr rfl) (pe_lc (own := [("one", 11)]) (g := gName 11) rfl sc__law_rows.nd (pi_list (pv 3)) (blkOk_by (N := N__law_rows) (sc := defScope s__law_rows) (by decide +kernel)) (fun _ _ _ _ _ => (pg_name (i := 11) sc__law_rows.nd rfl (Or.inl rfl))) (fun _ _ _ _ _ => pts_one (pt_cmpR (r := rEqU K) (op_eqU hr) (pe_ix (r := rIx K) ix_seq (pv 11) pe_int (fun _ _ => rfl)) pe_int (nomark _))) (fun _ _ _ _ _ => (pe_ix (r := rIx K) ix_seq (pv 11) pe_int (fun _ _ => rfl)))))
      (pss_cons (ps_set (i := 9) sc__law_rows.nd rfl (Or.inl rfl) (pe_lst pa_nil))
      (Evl.pss_cut (ps_if (PW.pt (pw_and (pt_cmpR op_gt (pv 4) pe_int (nomark _)) (pw_and1 (pt_cmpR op_gt (pe_callB (r := rLenU K) call_lenU (by rfl) T.n_len PySem.boot_len (pa_cons (pv 8) pa_nil)) pe_int (nomark _))))) (pss_one (ps_setLc (i := 9) (own := [("j", 12)]) (g := gName 12) rfl sc__law_rows.nd rfl rfl (sw_true rfl rfl rfl (by decide +kernel)) (pi_range1 (by rfl) T.n_range (pa_cons (pe_ix (r := rIx K) ix_seq (pe_lst (pa_cons pe_int (pa_cons pe_int (pa_cons pe_int (pa_cons pe_int (pa_cons pe_int (pa_cons pe_int (pa_cons pe_int (pa_cons pe_int pa_nil))))))))) (pe_ix (r := rIx K) ix_seq (pv 6) pe_int (fun _ _ => rfl)) (fun _ _ => rfl)) pa_nil)) (blkOk_by (N := N__law_rows) (sc := defScope s__law_rows) (by decide +kernel)) (fun _ _ _ _ _ => (pg_name (i := 12) sc__law_rows.nd rfl (Or.inl rfl))) (fun _ _ _ _ _ => pts_nil) (fun _ _ _ _ _ => (pe_ix (r := rIx K) ix_seq (pv 8) (pe_op op_mod (pe_callTy call_intU (by rfl) T.n_int PyProof.Rows.boot_int (pa_cons (pe_ix (r := rIx K) ix_seq (pv 6) (pe_op (r := rPlus K) op_plus pe_int (pv 12)) (fun _ _ => rfl)) pa_nil)) (pe_callB (r := rLenU K) call_lenU (by rfl) T.n_len PySem.boot_len (pa_cons (pv 8) pa_nil))) (fun _ _ => rfl))))) pss_nil)
      (pss_cons (ps_set (i := 10) sc__law_rows.nd rfl (Or.inl rfl) pe_str)
      (Evl.pss_cut (ps_if (PW.pt (pw_and (pt_cmpR op_gt (pv 4) pe_int (nomark _)) (pw_and1 (pt_cmpR op_gt (pe_callB (r := rLenU K) call_lenU (by rfl) T.n_len PySem.boot_len (pa_cons (pv 8) pa_nil)) pe_int (nomark _))))) (pss_one (ps_set (i := 10) sc__law_rows.nd rfl (Or.inl rfl) (pe_ix (r := rIx K) ix_seq (pv 8) (pe_op op_mod (pe_callTy call_intU (by rfl) T.n_int PyProof.Rows.boot_int (pa_cons (pe_ix (r := rIx K) ix_seq (pv 6) pe_int (fun _ _ => rfl)) pa_nil)) (pe_callB (r := rLenU K) call_lenU (by rfl) T.n_len PySem.boot_len (pa_cons (pv 8) pa_nil))) (fun _ _ => rfl)))) pss_nil)
      (pss_one (ps_expr (pe_bm PySem.F.plainAttrs_list PySem.F.slot_list_append PySem.F.type_list_append mt_append (pv 3) (pa_cons (pe_lst (pa_cons (pv 4) (pa_cons (pv 7) (pa_cons (pv 9) (pa_cons (pv 10) pa_nil))))) pa_nil))))))))))))))
      (pss_one (ps_ret (pv 3))))), ?_⟩
    walk_at "0"
    walk_at "1"
    walk_at "34"
    walk_at "10"
    walk_at "82"
    intro rl H1 n1 x1 e1
    walk_at "6"
    walk_at "0"
    walk_at "37"
    walk_at "42"
    walk_at "9"
    walk_at "7"
    walk_at "10"
    walk_at "88"
    refine ⟨by decide, by decide, ?_⟩
    refine for_range (fun i σ' H' => ∃ y4 y5 y6 y7 y8 y9 y10 as, σ' = [some (.ref l), some (.ref cp), some v, some (.ref rl), y4, y5, y6, y7, y8, y9, y10, none, none] ∧ Xt H H' ∧ H' rl = some (.lst (as.map V.ref)) ∧ RwsOk 20 H' as ∧ (as.length : Int) = (cs.take i).sum) ⟨none, none, none, none, none, none, none, [], rfl, x1, e1, (fun a ha => by cases ha), (by rw [List.take_zero]; rfl)⟩ ?_ ?_
    · rintro i σ' H' hi ⟨y4, y5, y6, y7, y8, y9, y10, as, rfl, hx, hl, hr', hal⟩
      have hi4 : i < 4 := hi
      obtain ⟨ci, hci, hcb⟩ : ∃ ci, cs[i]? = some ci ∧ 0 ≤ ci ∧ ci ≤ 10 := by
        have h : i < cs.length := by rw [hcs.1]; exact hi4
        exact ⟨cs[i], List.getElem?_eq_getElem h, hcs.2 _ (List.getElem_mem h)⟩
      have hct : (cs.take (i + 1)).sum = (cs.take i).sum + ci := by rw [List.take_add_one, hci, List.sum_append]; simp
      have hsum : (cs.take i).sum ≤ 10 * i := sum_le (fun c hc => (hcs.2 c (List.mem_of_mem_take hc)).2) (by rw [List.length_take]; omega)
      have ici : atI (cs.map V.int) (0 + (i : Int)) = some (.int ci) := by rw [Int.zero_add]; exact atI_nat (by rw [List.getElem?_map, hci]; rfl)
      have hc' := xl hx hc
      walk_at "6"
      walk_at "37"
      walk_at "42"
      walk_at "9"
      walk_at "8"
      walk_at "69"
      walk_at "69"
      walk_at "79"
      walk_at "10"
      walk_at "88"
      refine ⟨by omega, by omega, ?_⟩
      refine for_range (fun j σ' H' => ∃ y5 y6 y7 y8 y9 y10 as, σ' = [some (.ref l), some (.ref cp), some v, some (.ref rl), some (.int (0 + (i : Int))), y5, y6, y7, y8, y9, y10, none, none] ∧ Xt H H' ∧ H' rl = some (.lst (as.map V.ref)) ∧ RwsOk 20 H' as ∧ (as.length : Int) = (cs.take i).sum + j) ⟨y5, y6, y7, y8, y9, y10, as, rfl, hx, hl, hr', by omega⟩ ?_ ?_
      · clear hal hr' hl hx hc' y5 y6 y7 y8 y9 y10 as H'
        rintro j σ' H' hj ⟨y5, y6, y7, y8, y9, y10, as, rfl, hx, hl, hr', hal⟩
        obtain ⟨kb, hkb, hkb1, hkb2⟩ := kinds_at hi4
        have hal2 : (as.map V.ref).length = as.length := List.length_map _
        walk_at "6"
        walk_at "0"
        walk_at "1"
        walk_at "12"
        walk_at "9"
        walk_at "12"
        walk_at "9"
        walk_at "69"
        walk_at "9"
        walk_at "8"
        walk_at "8"
        walk_at "34"
        walk_at "9"
        walk_at "7"
        walk_at "9"
        walk_at "7"
        walk_at "9"
        walk_at "7"
        walk_at "9"
        walk_at "7"
        walk_at "10"
        walk_at "82"
        intro p2 H2 n2 x2 e2
        walk_at "69"
        walk_at "79"
        walk_at "69"
        walk_at "56"
        walk_at "10"
        have hS2 := xl (xtr hx x2) hS
        refine ⟨l, ns, kb + (0 + (j : Int)), rfl, hS2, hns, by omega, fun cv => ?_⟩
        walk_at "9"
        walk_at "34"
        walk_at "9"
        walk_at "7"
        walk_at "9"
        walk_at "7"
        walk_at "9"
        walk_at "7"
        walk_at "9"
        walk_at "7"
        walk_at "9"
        walk_at "7"
        walk_at "9"
        walk_at "7"
        walk_at "9"
        walk_at "7"
        walk_at "9"
        walk_at "7"
        walk_at "9"
        walk_at "7"
        walk_at "9"
        walk_at "7"
        walk_at "9"
        walk_at "7"
        walk_at "9"
        walk_at "7"
        walk_at "9"
        walk_at "7"
        walk_at "9"
        walk_at "7"
        walk_at "10"
        walk_at "82"
        intro p3 H3 n3 x3 e3
        walk_at "10"
        refine ⟨cv, p3, W36, rfl, sql e3, by decide, by decide, fun p H4 ds x4 e4 hd => ?_⟩
        have x24 := xtr x2 (xtr x3 x4)
        have hl4 := x24 _ _ hl
        have hr4 := hr'.mono x24
        clear e3 e2 hS2
        walk_at "6"
        walk_at "0"
        walk_at "1"
        walk_at "12"
        walk_at "9"
        walk_at "69"
        walk_at "9"
        walk_at "11"
        walk_at "9"
        walk_at "69"
        walk_at "10"
        walk_at "77"
        walk_at "9"
        walk_at "48"
        walk_at "69"
        walk_at "50"
        walk_at "7"
        walk_at "88"
        walk_at "49"
        have dl : (ds.map V.int).length = 14 := by rw [List.length_map, hd.1]; rfl
        refine v_sl_l (sql e4) fun p5 H5 n5 x5 e5 => ?_
        rw [show (5 : Int) = ((5 : Nat) : Int) from rfl, cut_drop (by rw [dl]; decide), ← List.map_drop] at e5
        walk_at "10"
        have X5 := xtr x24 x5
        refine ⟨v, (as.map V.ref).length, p5, ds.drop 5, rfl, sql e5, DigOk.drop hd 5, by omega, hv.mono (xtr hx X5), fun z H6 x6 tz => ?_⟩
        have x46 := xtr x5 x6
        have hl6 := x46 _ _ hl4
        have hr6 := hr4.mono x46
        have e6 := x46 _ _ e4
        have X6 := xtr x24 x46
        clear hl4 hr4 e4 e5 X5
        walk_at "6"
        walk_at "0"
        walk_at "1"
        walk_at "51"
        walk_at "38"
        walk_at "69"
        walk_at "88"
        refine ⟨⟨_, sql hl6⟩, ?_⟩
        refine' b_lstF (fun x => decide (kindH H6 x = .int 0)) (fun y => okS 20 y = true) (sql hl6) ?hn (fun x => ?hw) ?ht ?hb ?hk
        case hn => omega
        case hw => rfl
        case ht =>
          intro x H' hx xx R hR
          obtain ⟨b, hb, rfl⟩ := List.mem_map.mp hx
          obtain ⟨kb, tb, pb, plb, vb, eb, _⟩ := hr6 b hb
          have eb' := xx _ _ eb
          rw [kindH_eq eb] at hR
          have i0 : atI [V.int kb, .str tb, .ref pb, .str vb] 0 = some (.int kb) := rfl
          walk_at "14"
          walk_at "8"
          walk_at "8"
          walk_at "69"
          walk_at "7"
          walk_at "79"
          walk_at "7"
          walk_at "75"
          walk_at "88"
          exact hR
        case hb =>
          intro x H' hx xx R hR
          obtain ⟨b, hb, rfl⟩ := List.mem_map.mp hx
          obtain ⟨kb, tb, pb, plb, vb, eb, _, _, htb, _⟩ := hr6 b hb
          have eb' := xx _ _ eb
          have i1 : atI [V.int kb, .str tb, .ref pb, .str vb] 1 = some (.str tb) := rfl
          walk_at "8"
          walk_at "69"
          walk_at "7"
          walk_at "79"
          exact hR _ _ (xrefl _) (okS_of htb)
        case hk =>
          intro D ys H7 hD hyl hP x7 e7
          have hyq : ys.length ≤ 40 := by
            have h1 : ((as.map V.ref).filter (fun x => decide (kindH H6 x = .int 0))).length ≤ (as.map V.ref).length := List.length_filter_le _ _
            omega
          clear hyl
          have hl7 := x7 _ _ hl6
          have hr7 := hr6.mono x7
          have e67 := x7 _ _ e6
          have X7 := xtr X6 x7
          clear hl6 hr6 e6 X6
          walk_at "6"
          walk_at "0"
          walk_at "1"
          walk_at "34"
          walk_at "10"
          walk_at "82"
          intro pp H8 n8 x8 e8
          have hne8 : pp ≠ rl := fun q => by rw [q, hl7] at n8; cases n8
          have hl8 := x8 _ _ hl7
          have hr8 := hr7.mono x8
          have e68 := x8 _ _ e67
          have e78 := x8 _ _ e7
          have X8 := xtr X7 x8
          clear hl7 hr7 e67 e7 X7
          obtain ⟨d0, g0, a0, b0⟩ := hd.get 0 (0 : Int) rfl rfl
          obtain ⟨d4, g4, a4, b4⟩ := hd.get 4 (4 : Int) rfl rfl
          refine k_cut (fun σ' H' => ∃ (pq : Addr) (pl : List Str), σ' = [some (.ref l), some (.ref cp), some v, some (.ref rl), some (.int (0 + (i : Int))), some (.int (0 + (j : Int))), some (.ref p), some (.str z), some (.ref D), some (.ref pq), y10, none, none] ∧ Xt H8 H' ∧ H' pq = some (.lst (pl.map V.str)) ∧ pl.length ≤ 3 ∧ pq ≠ rl ∧ ∀ s ∈ pl, Tx 20 s) ?_ ?_
          · walk_at "4"
            walk_at "17"
            walk_at "14"
            walk_at "8"
            walk_at "69"
            walk_at "7"
            walk_at "55"
            walk_at "88"
            refine k_if (fun u1 => ?_) (fun u1 => ?_)
            · walk_at "14"
              walk_at "8"
              walk_at "11"
              walk_at "9"
              walk_at "69"
              walk_at "10"
              walk_at "77"
              walk_at "7"
              walk_at "55"
              walk_at "88"
              refine k_if (fun u2 => ?_) (fun u2 => ?_)
              · walk_at "1"
                walk_at "51"
                walk_at "42"
                walk_at "9"
                walk_at "8"
                walk_at "34"
                walk_at "9"
                walk_at "7"
                walk_at "9"
                walk_at "7"
                walk_at "9"
                walk_at "7"
                walk_at "9"
                walk_at "7"
                walk_at "9"
                walk_at "7"
                walk_at "9"
                walk_at "7"
                walk_at "9"
                walk_at "7"
                walk_at "9"
                walk_at "7"
                walk_at "10"
                walk_at "82"
                intro p9 H9 n9 x9 e9
                walk_at "8"
                walk_at "69"
                walk_at "7"
                obtain ⟨kc, hkc, hkc1, hkc2⟩ := pick_at a0 b0
                have e79 := x9 _ _ e78
                have e69 := x9 _ _ e68
                walk_at "79"
                walk_at "79"
                walk_at "10"
                walk_at "88"
                refine ⟨by omega, by omega, ?_⟩
                refine' b_rng (fun _ y => ∃ s : Str, y = .str s ∧ Tx 20 s) ?hn (fun x => ?hw) ?hb ?hk
                case hn => omega
                case hw => rfl
                case hb =>
                  intro m H10 hm xm R hR
                  obtain ⟨dm, gm, am, bm⟩ := hd.get (1 + m) (1 + (0 + (m : Int))) (by omega) (w36 m (by omega))
                  have e610 := xm _ _ e69
                  have e710 := xm _ _ e79
                  obtain ⟨zy, ezy, tzy⟩ := at_okS (n := 20) (l := ys) (k := dm % (ys.length : Int)) (List.all_eq_true.mpr hP) (Int.emod_nonneg _ (by omega)) (Int.emod_lt_of_pos _ (by omega))
                  walk_at "8"
                  walk_at "69"
                  walk_at "8"
                  walk_at "11"
                  walk_at "9"
                  walk_at "8"
                  walk_at "69"
                  walk_at "8"
                  walk_at "7"
                  walk_at "69"
                  walk_at "56"
                  walk_at "79"
                  walk_at "10"
                  walk_at "57"
                  walk_at "11"
                  walk_at "9"
                  walk_at "69"
                  walk_at "10"
                  walk_at "77"
                  walk_at "70"
                  walk_at "79"
                  exact hR _ _ (xrefl _) ⟨zy, rfl, tzy⟩
                case hk =>
                  intro D6 ys6 H11 hD6 hyl6 hP6 x11 e11
                  obtain ⟨q6, rfl, mq6⟩ : ∃ ql : List Str, ys6 = ql.map V.str ∧ ∀ s ∈ ql, Tx 20 s := strs_of fun y hy => by
                    obtain ⟨i, hi⟩ := List.getElem?_of_mem hy
                    exact hP6 i y hi
                  rw [List.length_map] at hyl6
                  walk_at "6"
                  exact ⟨D6, q6, rfl, xtr x9 x11, e11, by omega, (fun q => by rw [q, x9 _ _ hl8] at hD6; cases hD6), mq6⟩
              · exact ⟨pp, [], rfl, xrefl _, e8, by decide, hne8, fun s hs => by cases hs⟩
            · walk_at "89"
              walk_at "5"
              exact ⟨pp, [], rfl, xrefl _, e8, by decide, hne8, fun s hs => by cases hs⟩
          rintro σ' H9 ⟨pq, pl, rfl, x9, epq, lpl, hneq, mpl⟩
          have hl9 := x9 _ _ hl8
          have hr9 := hr8.mono x9
          have e69 := x9 _ _ e68
          have e79 := x9 _ _ e78
          have X9 := xtr X8 x9
          clear e8 hl8 hr8 e68 e78 X8 hne8 x9
          walk_at "0"
          walk_at "1"
          walk_at "7"
          walk_at "6"
          refine k_cut (fun σ' H' => ∃ zv : Str, σ' = [some (.ref l), some (.ref cp), some v, some (.ref rl), some (.int (0 + (i : Int))), some (.int (0 + (j : Int))), some (.ref p), some (.str z), some (.ref D), some (.ref pq), some (.str zv), none, none] ∧ H' = H9 ∧ Tx 20 zv) ?_ ?_
          · walk_at "4"
            walk_at "17"
            walk_at "14"
            walk_at "8"
            walk_at "69"
            walk_at "7"
            walk_at "55"
            walk_at "88"
            refine k_if (fun u1 => ?_) (fun u1 => ?_)
            · walk_at "14"
              walk_at "8"
              walk_at "11"
              walk_at "9"
              walk_at "69"
              walk_at "10"
              walk_at "77"
              walk_at "7"
              walk_at "55"
              walk_at "88"
              refine k_if (fun u2 => ?_) (fun u2 => ?_)
              · obtain ⟨zy, ezy, tzy⟩ := at_okS (n := 20) (l := ys) (k := d4 % (ys.length : Int)) (List.all_eq_true.mpr hP) (Int.emod_nonneg _ (by omega)) (Int.emod_lt_of_pos _ (by omega))
                walk_at "1"
                walk_at "8"
                walk_at "69"
                walk_at "8"
                walk_at "11"
                walk_at "9"
                walk_at "8"
                walk_at "69"
                walk_at "7"
                walk_at "79"
                walk_at "10"
                walk_at "57"
                walk_at "11"
                walk_at "9"
                walk_at "69"
                walk_at "10"
                walk_at "77"
                walk_at "70"
                walk_at "79"
                walk_at "6"
                walk_at "88"
                exact ⟨rfl, tzy⟩
              · exact ⟨_, rfl, rfl, Tx.lit (z := "s") (by decide +kernel)⟩
            · walk_at "89"
              walk_at "5"
              walk_at "88"
              exact ⟨rfl, Tx.lit (z := "s") (by decide +kernel)⟩
          rintro σ' H' ⟨zv, rfl, rfl, tzv⟩
          walk_at "3"
          walk_at "36"
          walk_at "69"
          refine ⟨ty_l hl9, ?_⟩
          walk_at "9"
          walk_at "34"
          walk_at "9"
          walk_at "69"
          walk_at "9"
          walk_at "69"
          walk_at "9"
          walk_at "69"
          walk_at "9"
          walk_at "69"
          walk_at "10"
          walk_at "82"
          intro pa Ha na xa ea
          walk_at "10"
          have hla := xa _ _ hl9
          have hra := hr9.mono xa
          refine v_app hla (by omega) ?_
          refine ⟨_, _, _, _, _, _, as ++ [pa], rfl, ?_, ?_, rows_app hra hla ea (xa _ _ epq) hneq lpl tz mpl tzv, ?_⟩
          · exact xmut (xtr hx (xtr X9 xa)) n1
          · rw [upd_same, List.map_append]; rfl
          · rw [List.length_append, List.length_singleton]; omega
      · rintro σ' H' ⟨y5, y6, y7, y8, y9, y10, as, rfl, hx, hl, hr', hal⟩
        refine ⟨some (.int (0 + (i : Int))), y5, y6, y7, y8, y9, y10, as, rfl, hx, hl, hr', ?_⟩
        rw [hct, hal]
        omega
    · rintro σ' H' ⟨y4, y5, y6, y7, y8, y9, y10, as, rfl, hx, hl, hr', hal⟩
      walk_at "2"
      walk_at "69"
      refine q rl as H' hx hl ?_ hr'
      rw [hal, List.take_of_length_le (by rw [hcs.1]; exact Nat.le_refl _)]


theorem ok__law_spoil (T : Top0 P K mg) : FnOk P w K mg base CX0 3 T.f__law_spoil T.fd__law_spoil ["rows", "cell"] (sp__law_spoil T) := by
  refine T.F__law_spoil.ok sc__law_spoil (fun vs H Q E h => ?_) (fun cdv A outer s H vs Q E hr h => ?_)
  · obtain ⟨rl, as, c, n, rfl, hl, hne, hal, rws, hn, q⟩ := h
    rfl
  · obtain ⟨rl, as, c, n, rfl, hl, hne, hal, rws, hn, q⟩ := h
    refine ⟨_, (pss_cons (ps_set (i := 2) sc__law_spoil.nd rfl (Or.inr rfl) (pe_call (ok__law_digits T) (hr.mono (by first | decide | exact Nat.le_refl _ | omega | (show _ ≤ _ + n; omega))) (by rfl) T.g__law_digits T.F__law_digits.kp T.b__law_digits .nil pass0 (pa_cons (pv 1) (pa_cons (pe_lst (pa_cons pe_int (pa_cons pe_int (pa_cons pe_int (pa_cons pe_int (pa_cons pe_int (pa_cons pe_int pa_nil))))))) pa_nil))))
      (pss_cons (ps_set (i := 3) sc__law_spoil.nd rfl (Or.inr rfl) (pe_ix (r := rIx K) ix_seq (pv 0) (pe_op op_mod (pe_callTy call_intU (by rfl) T.n_int PyProof.Rows.boot_int (pa_cons (pe_ix (r := rIx K) ix_seq (pv 2) pe_int (fun _ _ => rfl)) pa_nil)) (pe_callB (r := rLenU K) call_lenU (by rfl) T.n_len PySem.boot_len (pa_cons (pv 0) pa_nil))) (fun _ _ => rfl)))
      (pss_cons (ps_setLc (i := 4) (own := [("one", 8)]) (g := gName 8) rfl sc__law_spoil.nd rfl rfl (sw_true rfl rfl rfl (by decide +kernel)) (pi_list (pv 0)) (blkOk_by (N := N__law_spoil) (sc := defScope s__law_spoil) (by decide +kernel)) (fun _ _ _ _ _ => (pg_name (i := 8) sc__law_spoil.nd rfl (Or.inl rfl))) (fun _ _ _ _ _ => pts_one (PW.pt (pw_or (pt_cmpR op_lt (pe_ix (r := rIx K) ix_seq (pv 2) pe_int (fun _ _ => rfl)) pe_int (nomark _)) (pw_or1 (pt_cmpR (r := rEqU K) (op_eqU hr) (pe_ix (r := rIx K) ix_seq (pv 8) pe_int (fun _ _ => rfl)) (pe_ix (r := rIx K) ix_seq (pv 3) pe_int (fun _ _ => rfl)) (nomark _)))))) (fun _ _ _ _ _ => (pv 8)))
      (pss_cons (ps_set (i := 5) sc__law_spoil.nd rfl (Or.inl rfl) (pe_ix (r := rIx K) ix_seq (pv 4) (pe_op op_mod (pe_callTy call_intU (by rfl) T.n_int PyProof.Rows.boot_int (pa_cons (pe_ix (r := rIx K) ix_seq (pv 2) pe_int (fun _ _ => rfl)) pa_nil)) (pe_callB (r := rLenU K) call_lenU (by rfl) T.n_len PySem.boot_len (pa_cons (pv 4) pa_nil))) (fun _ _ => rfl)))
      (pss_cons (ps_set (i := 6) sc__law_spoil.nd rfl (Or.inr rfl) (pe_ix (r := rIx K) ix_seq (pe_lst (pa_cons (pe_ix (r := rIx K) ix_seq (pv 5) pe_int (fun _ _ => rfl)) (pa_cons pe_str (pa_cons pe_str (pa_cons (pe_op (r := rPlus K) op_plus (pe_ix (r := rIx K) ix_seq (pv 5) pe_int (fun _ _ => rfl)) pe_str) (pa_cons (pe_slice (r := rSlU K) sl_any (pe_ix (r := rIx K) ix_seq (pv 5) pe_int (fun _ _ => rfl)) po_none (po_some (pe_un un_neg pe_int))) (pa_cons pe_str (pa_cons pe_str (pa_cons (pe_op (r := rPlus K) op_plus (pe_ix (r := rIx K) ix_seq (pv 5) pe_int (fun _ _ => rfl)) pe_str) pa_nil))))))))) (pe_ix (r := rIx K) ix_seq (pv 2) pe_int (fun _ _ => rfl)) (fun _ _ => rfl)))
      (Evl.pss_cut (ps_if (PW.pt (pw_or (pt_cmpR (r := rEqU K) (op_eqU hr) (pe_ix (r := rIx K) ix_seq (pv 2) pe_int (fun _ _ => rfl)) pe_int (nomark _)) (pw_or1 (pt_cmpR (r := rEqU K) (op_eqU hr) (pe_ix (r := rIx K) ix_seq (pv 2) pe_int (fun _ _ => rfl)) pe_int (nomark _))))) (pss_one (ps_asg (pe_call (ok__law_bad T) (hr.mono (by first | decide | exact Nat.le_refl _ | omega | (show _ ≤ _ + n; omega))) (by rfl) T.g__law_bad T.F__law_bad.kp T.b__law_bad .nil pass0 (pa_cons (pe_ix (r := rIx K) ix_seq (pv 3) pe_int (fun _ _ => rfl)) (pa_cons (pe_ix (r := rIx K) ix_seq (pv 2) pe_int (fun _ _ => rfl)) pa_nil))) (pg_sub (pv 3) pe_int set_list))) pss_nil)
      (Evl.pss_cut (ps_if (PW.pt (pw_or (pt_cmpR (r := rEqU K) (op_eqU hr) (pe_ix (r := rIx K) ix_seq (pv 2) pe_int (fun _ _ => rfl)) pe_int (nomark _)) (pw_or1 (pt_cmpR (r := rEqU K) (op_eqU hr) (pe_ix (r := rIx K) ix_seq (pv 2) pe_int (fun _ _ => rfl)) pe_int (nomark _))))) (pss_one (ps_asg (pe_ix (r := rIx K) ix_seq (pv 5) pe_int (fun _ _ => rfl)) (pg_sub (pv 3) pe_int set_list))) pss_nil)
      (Evl.pss_cut (ps_if (pt_cmpR (r := rEqU K) (op_eqU hr) (pe_ix (r := rIx K) ix_seq (pv 2) pe_int (fun _ _ => rfl)) pe_int (nomark _)) (pss_one (ps_asg (pe_call (ok__law_near T) (hr.mono (by first | decide | exact Nat.le_refl _ | omega | (show _ ≤ _ + n; omega))) (by rfl) T.g__law_near T.F__law_near.kp T.b__law_near .nil pass0 (pa_cons (pe_op op_mod (pe_callTy call_intU (by rfl) T.n_int PyProof.Rows.boot_int (pa_cons (pe_ix (r := rIx K) ix_seq (pv 2) pe_int (fun _ _ => rfl)) pa_nil)) pe_int) pa_nil)) (pg_sub (pv 3) pe_int set_list))) pss_nil)
      (Evl.pss_cut (ps_if (PW.pt (pw_or (pt_cmpR (r := rEqU K) (op_eqU hr) (pe_ix (r := rIx K) ix_seq (pv 2) pe_int (fun _ _ => rfl)) pe_int (nomark _)) (pw_or1 (pt_cmpR op_ge (pe_ix (r := rIx K) ix_seq (pv 2) pe_int (fun _ _ => rfl)) pe_int (nomark _))))) (pss_one (ps_if (PW.pt (pw_and (pt_cmpR (r := rEqU K) (op_eqU hr) (pe_callB (r := rLenU K) call_lenU (by rfl) T.n_len PySem.boot_len (pa_cons (pe_ix (r := rIx K) ix_seq (pv 3) pe_int (fun _ _ => rfl)) pa_nil)) pe_int (nomark _)) (pw_and1 (pt_cmpR op_gt (pe_ix (r := rIx K) ix_seq (pv 3) pe_int (fun _ _ => rfl)) pe_int (nomark _))))) (pss_one (ps_asg (pe_lst (pa_cons (pv 6) pa_nil)) (pg_sub (pv 3) pe_int set_list))) (pss_one (ps_if (pt_cmpR op_gt (pe_callB (r := rLenU K) call_lenU (by rfl) T.n_len PySem.boot_len (pa_cons (pe_ix (r := rIx K) ix_seq (pv 3) pe_int (fun _ _ => rfl)) pa_nil)) pe_int (nomark _)) (pss_cons (ps_set (i := 7) sc__law_spoil.nd rfl (Or.inl rfl) (pe_op op_mod (pe_callTy call_intU (by rfl) T.n_int PyProof.Rows.boot_int (pa_cons (pe_ix (r := rIx K) ix_seq (pv 2) pe_int (fun _ _ => rfl)) pa_nil)) (pe_callB (r := rLenU K) call_lenU (by rfl) T.n_len PySem.boot_len (pa_cons (pe_ix (r := rIx K) ix_seq (pv 3) pe_int (fun _ _ => rfl)) pa_nil))))
      (pss_one (ps_asg (pe_op (r := rPlus K) op_plus (pe_op (r := rPlus K) op_plus (pe_slice (r := rSlU K) sl_any (pe_ix (r := rIx K) ix_seq (pv 3) pe_int (fun _ _ => rfl)) po_none (po_some (pv 7))) (pe_lst (pa_cons (pv 6) pa_nil))) (pe_slice (r := rSlU K) sl_any (pe_ix (r := rIx K) ix_seq (pv 3) pe_int (fun _ _ => rfl)) (po_some (pe_op (r := rPlus K) op_plus (pv 7) pe_int)) po_none)) (pg_sub (pv 3) pe_int set_list)))) pss_nil)))) pss_nil)
      (Evl.pss_cut (ps_if (pt_cmpR (r := rEqU K) (op_eqU hr) (pe_ix (r := rIx K) ix_seq (pv 2) pe_int (fun _ _ => rfl)) pe_int (nomark _)) (pss_one (ps_asg (pv 6) (pg_sub (pv 3) pe_int set_list))) pss_nil)
      (pss_one (ps_if (pt_cmpR (r := rEqU K) (op_eqU hr) (pe_ix (r := rIx K) ix_seq (pv 2) pe_int (fun _ _ => rfl)) pe_int (nomark _)) (pss_cons (ps_set (i := 7) sc__law_spoil.nd rfl (Or.inl rfl) (pe_op op_mod (pe_callTy call_intU (by rfl) T.n_int PyProof.Rows.boot_int (pa_cons (pe_ix (r := rIx K) ix_seq (pv 2) pe_int (fun _ _ => rfl)) pa_nil)) (pe_op (r := rPlus K) op_plus (pe_callB (r := rLenU K) call_lenU (by rfl) T.n_len PySem.boot_len (pa_cons (pe_ix (r := rIx K) ix_seq (pv 3) pe_int (fun _ _ => rfl)) pa_nil)) pe_int)))
      (pss_cons (ps_asg (pe_op (r := rPlus K) op_plus (pe_slice (r := rSlU K) sl_any (pe_ix (r := rIx K) ix_seq (pv 3) pe_int (fun _ _ => rfl)) po_none (po_some (pv 7))) (pe_lc (own := [("j", 9)]) (g := gName 9) rfl sc__law_spoil.nd (pi_range1 (by rfl) T.n_range (pa_cons (pe_op op_sub (pe_callB (r := rLenU K) call_lenU (by rfl) T.n_len PySem.boot_len (pa_cons (pe_ix (r := rIx K) ix_seq (pv 3) pe_int (fun _ _ => rfl)) pa_nil)) (pv 7)) pa_nil)) (blkOk_by (N := N__law_spoil) (sc := defScope s__law_spoil) (by decide +kernel)) (fun _ _ _ _ _ => (pg_name (i := 9) sc__law_spoil.nd rfl (Or.inl rfl))) (fun _ _ _ _ _ => pts_nil) (fun _ _ _ _ _ => (pe_op (r := rPlus K) op_plus (pv 6) (pe_callTy call_str_int (by rfl) T.n_str PyProof.Rows.boot_str (pa_cons (pv 9) pa_nil)))))) (pg_sub (pv 3) pe_int set_list))
      (pss_one (ps_asg (pe_op (r := rPlus K) op_plus (pv 6) pe_str) (pg_sub (pv 3) pe_int set_list))))) pss_nil)))))))))))), ?_⟩
    have hpos : 0 < (as.map V.ref).length := by rw [List.length_map]; exact List.length_pos_iff.mpr hne
    have hle : (as.map V.ref).length ≤ 1000 := by rw [List.length_map]; exact hal
    walk_at "0"
    walk_at "1"
    walk_at "12"
    walk_at "9"
    walk_at "69"
    walk_at "9"
    walk_at "34"
    walk_at "9"
    walk_at "7"
    walk_at "9"
    walk_at "7"
    walk_at "9"
    walk_at "7"
    walk_at "9"
    walk_at "7"
    walk_at "9"
    walk_at "7"
    walk_at "9"
    walk_at "7"
    walk_at "10"
    walk_at "82"
    intro p1 H1 n1 x1 e1
    walk_at "10"
    refine ⟨c, p1, [60, 8, 25, 3, 60, 8], rfl, sql e1, by decide, by decide, fun p H2 ds x2 e2 hd => ?_⟩
    have x12 := xtr x1 x2
    have hl2 := x12 _ _ hl
    have hr2 := rws.mono x12
    obtain ⟨d0, g0, a0, b0⟩ := hd.get 0 (0 : Int) rfl rfl
    obtain ⟨d1, g1, a1, b1⟩ := hd.get 1 (1 : Int) rfl rfl
    obtain ⟨d2, g2, a2, b2⟩ := hd.get 2 (2 : Int) rfl rfl
    obtain ⟨d3, g3, a3, b3⟩ := hd.get 3 (3 : Int) rfl rfl
    obtain ⟨d4, g4, a4, b4⟩ := hd.get 4 (4 : Int) rfl rfl
    obtain ⟨d5, g5, a5, b5⟩ := hd.get 5 (5 : Int) rfl rfl
    clear e1
    walk_at "6"
    walk_at "0"
    walk_at "1"
    walk_at "8"
    walk_at "69"
    walk_at "8"
    walk_at "11"
    walk_at "9"
    walk_at "8"
    walk_at "69"
    walk_at "7"
    walk_at "79"
    walk_at "10"
    walk_at "57"
    walk_at "11"
    walk_at "9"
    walk_at "69"
    walk_at "10"
    walk_at "77"
    walk_at "70"
    obtain ⟨a, ha, ea⟩ := at_refs (as := as) (i := d0 % ((as.map V.ref).length : Int)) (Int.emod_nonneg _ (by omega)) (Int.emod_lt_of_pos _ (by omega))
    refine v_ix_l (sql hl2) ea ?_
    obtain ⟨k0, t0, pa0, pl0, v0, ha0, hpa0, hln0, ht0, hpl0, hv0⟩ := hr2 a ha
    walk_at "6"
    walk_at "0"
    walk_at "1"
    walk_at "51"
    walk_at "38"
    walk_at "69"
    walk_at "88"
    refine ⟨⟨_, sql hl2⟩, ?_⟩
    refine' b_lstF (fun x => decide (d5 < 6) || decide (kindH H2 x = .int k0)) (fun y => ∃ b ∈ as, y = .ref b) (sql hl2) ?hn (fun x => ?hw) ?ht ?hb ?hk
    case hn => omega
    case hw => rfl
    case ht =>
      intro x H' hx xx R hR
      obtain ⟨b, hb, rfl⟩ := List.mem_map.mp hx
      obtain ⟨kb, tb, pb, plb, vb, eb, _⟩ := hr2 b hb
      have eb' := xx _ _ eb
      have e2' := xx _ _ e2
      have ha' := xx _ _ ha0
      rw [kindH_eq eb] at hR
      have i0 : atI [V.int kb, .str tb, .ref pb, .str vb] 0 = some (.int kb) := rfl
      have i1 : atI [V.int k0, .str t0, .ref pa0, .str v0] 0 = some (.int k0) := rfl
      walk_at "18"
      walk_at "14"
      walk_at "8"
      walk_at "8"
      walk_at "69"
      walk_at "7"
      walk_at "79"
      walk_at "7"
      walk_at "55"
      walk_at "88"
      refine k_if (fun g => ?_) (fun g => ?_)
      · rw [decide_eq_true g] at hR
        exact hR
      · rw [decide_eq_false g] at hR
        walk_at "14"
        walk_at "8"
        walk_at "8"
        walk_at "69"
        walk_at "7"
        walk_at "79"
        walk_at "8"
        walk_at "69"
        walk_at "7"
        walk_at "79"
        walk_at "75"
        walk_at "88"
        exact hR
    case hb =>
      intro x H' hx xx R hR
      obtain ⟨b, hb, rfl⟩ := List.mem_map.mp hx
      walk_at "69"
      exact hR _ _ (xrefl _) ⟨b, hb, rfl⟩
    case hk =>
      intro D ys H3 hD hyl hP x3 e3
      have hyp : 0 < ys.length := by
        rw [hyl]
        refine List.length_pos_iff.mpr fun e => ?_
        have hm : V.ref a ∈ (as.map V.ref).filter (fun x => decide (d5 < 6) || decide (kindH H2 x = .int k0)) := List.mem_filter.mpr ⟨List.mem_map.mpr ⟨a, ha, rfl⟩, by rw [kindH_eq ha0]; simp⟩
        rw [e] at hm
        cases hm
      have hyq : ys.length ≤ 1000 := by rw [hyl]; exact Nat.le_trans (List.length_filter_le _ _) hle
      have e23 := x3 _ _ e2
      have hr3 := hr2.mono x3
      walk_at "6"
      walk_at "0"
      walk_at "1"
      walk_at "8"
      walk_at "69"
      walk_at "8"
      walk_at "11"
      walk_at "9"
      walk_at "8"
      walk_at "69"
      walk_at "7"
      walk_at "79"
      walk_at "10"
      walk_at "57"
      walk_at "11"
      walk_at "9"
      walk_at "69"
      walk_at "10"
      walk_at "77"
      walk_at "70"
      obtain ⟨y, ⟨b, hb, rfl⟩, eb⟩ := at_pr (ys := ys) (i := d4 % (ys.length : Int)) hP (Int.emod_nonneg _ (by omega)) (Int.emod_lt_of_pos _ (by omega))
      refine v_ix_l (sql e3) eb ?_
      obtain ⟨kb, tb, pb, plb, vb, hb0, hpb0, hlnb, htb, hplb, hvb⟩ := hr3 b hb
      have i1 : atI [V.int kb, .str tb, .ref pb, .str vb] 1 = some (.str tb) := rfl
      walk_at "6"
      walk_at "0"
      walk_at "1"
      walk_at "8"
      walk_at "34"
      walk_at "9"
      walk_at "8"
      walk_at "69"
      walk_at "7"
      walk_at "79"
      walk_at "9"
      walk_at "7"
      walk_at "9"
      walk_at "7"
      walk_at "9"
      walk_at "8"
      walk_at "8"
      walk_at "69"
      walk_at "7"
      walk_at "79"
      walk_at "7"
      walk_at "91"
      walk_at "9"
      walk_at "48"
      walk_at "8"
      walk_at "69"
      walk_at "7"
      walk_at "79"
      walk_at "49"
      walk_at "50"
      walk_at "13"
      walk_at "7"
      walk_at "58"
      walk_at "88"
      walk_at "92"
      walk_at "9"
      walk_at "7"
      walk_at "9"
      walk_at "7"
      walk_at "9"
      walk_at "8"
      walk_at "8"
      walk_at "69"
      walk_at "7"
      walk_at "79"
      walk_at "7"
      walk_at "91"
      walk_at "10"
      walk_at "82"
      intro p4 H4 n4 x4 e4
      have e24 := x4 _ _ e23
      walk_at "8"
      walk_at "69"
      walk_at "7"
      walk_at "79"
      refine ix_okS (n := n + 20) (m := 8) e4 ?_ rfl a5 b5 fun z tz => ?_
      · walk_at "alls"
      have X4 : Xt H H4 := xtr x12 (xtr x3 x4)
      have tz' : Tx (2 * n + 60) z := tz.le (by omega)
      have hp4 : SqL K H4 p (ds.map V.int) := sql e24
      walk_at "6"
      clear e4 x4 e24 e23 x3 e3 eb hyp hyq hP hyl hb0 hpb0 hlnb htb hplb hvb i1 n4 hr3 ha0 hpa0 hln0 ht0 hpl0 hv0 ea hl2 hr2 hl x12 e2 x2 x1 n1 hpos hle hne hal
      refine k_cut (SpMid K as H rl a D b p c z ds (2 * n + 60)) ?_ ?_
      · have hr' := (rws.mono X4)
        have hx' : Xs as H H4 := Xs.of X4
        have hm0 : SpMid K as H rl a D b p c z ds (2 * n + 60) [some (.ref rl), some (.int c), some (.ref p), some (.ref a), some (.ref D), some (.ref b), some (.str z), none, none, none] H4 := ⟨none, rfl, hx', hr'.le (by omega), hp4⟩
        have hp' := hp4
        obtain ⟨k1, t1, pa1, pl1, v1, ha1, hpa1, hln1, ht1, hpl1, hv1⟩ := hr' a ha
        have j0 : atI [V.int k1, .str t1, .ref pa1, .str v1] 0 = some (.int k1) := rfl
        have j1 : atI [V.int k1, .str t1, .ref pa1, .str v1] 1 = some (.str t1) := rfl
        have j2 : atI [V.int k1, .str t1, .ref pa1, .str v1] 2 = some (.ref pa1) := rfl
        have j3 : atI [V.int k1, .str t1, .ref pa1, .str v1] 3 = some (.str v1) := rfl
        have go : tAsg (tCall (sp__law_bad T) [] E0 (tCons (tOp (rIx K) (tVar 3) (tC (V.int 1))) (tCons (tOp (rIx K) (tVar 2) (tC (V.int 2))) tNil))) (gSub (tVar 3) (tC (V.int 1)) rSetL) ({ nx := SpMid K as H rl a D b p c z ds (2 * n + 60), rt := ({ nx := fun x H' => Q V.non H', rt := Q } : Ends).rt } : Ends) [some (.ref rl), some (.int c), some (.ref p), some (.ref a), some (.ref D), some (.ref b), some (.str z), none, none, none] H4 := by
          walk_at "1"
          walk_at "12"
          walk_at "9"
          walk_at "8"
          walk_at "69"
          walk_at "7"
          walk_at "79"
          walk_at "9"
          walk_at "8"
          walk_at "69"
          walk_at "7"
          walk_at "79"
          walk_at "10"
          refine ⟨t1, n, d2, rfl, ht1, hn, ⟨a2, by omega⟩, fun z5 H5 x5 tz5 => ?_⟩
          refine k_gsub ?_
          walk_at "69"
          walk_at "7"
          refine v_setl (x5 _ _ ha1) (i := 1) rfl ?_
          exact spmid_upd (y7 := none) (hx'.tr (Xs.of x5)) ((hr'.mono x5).le (by omega)) (xl x5 hp') ha (x5 _ _ ha1) (x5 _ _ hpa1) hln1 tz5 (fun s hs => (hpl1 s hs).le (by omega)) (hv1.le (by omega))
        walk_at "4"
        walk_at "18"
        walk_at "14"
        walk_at "8"
        walk_at "8"
        walk_at "69"
        walk_at "7"
        walk_at "79"
        walk_at "7"
        walk_at "75"
        walk_at "88"
        refine k_if (fun g => go) (fun g => ?_)
        walk_at "14"
        walk_at "8"
        walk_at "8"
        walk_at "69"
        walk_at "7"
        walk_at "79"
        walk_at "7"
        walk_at "75"
        walk_at "88"
        refine k_if (fun g => go) (fun g => ?_)
        exact hm0
      rintro σ' H' ⟨y7, rfl, hx', hr', hp'⟩
      have hm0 : SpMid K as H rl a D b p c z ds (2 * n + 60) [some (.ref rl), some (.int c), some (.ref p), some (.ref a), some (.ref D), some (.ref b), some (.str z), y7, none, none] H' := ⟨y7, rfl, hx', hr', hp'⟩
      refine k_cut (SpMid K as H rl a D b p c z ds (2 * n + 60)) ?_ ?_
      · obtain ⟨k1, t1, pa1, pl1, v1, ha1, hpa1, hln1, ht1, hpl1, hv1⟩ := hr' a ha
        have j0 : atI [V.int k1, .str t1, .ref pa1, .str v1] 0 = some (.int k1) := rfl
        have j1 : atI [V.int k1, .str t1, .ref pa1, .str v1] 1 = some (.str t1) := rfl
        have j2 : atI [V.int k1, .str t1, .ref pa1, .str v1] 2 = some (.ref pa1) := rfl
        have j3 : atI [V.int k1, .str t1, .ref pa1, .str v1] 3 = some (.str v1) := rfl
        obtain ⟨kb, tb, pb, plb, vb, hb0, hpb0, hlnb, htb, hplb, hvb⟩ := hr' b hb
        have i1 : atI [V.int kb, .str tb, .ref pb, .str vb] 1 = some (.str tb) := rfl
        have go : tAsg (tOp (rIx K) (tVar 5) (tC (V.int 1))) (gSub (tVar 3) (tC (V.int 1)) rSetL) ({ nx := SpMid K as H rl a D b p c z ds (2 * n + 60), rt := ({ nx := fun x H' => Q V.non H', rt := Q } : Ends).rt } : Ends) [some (.ref rl), some (.int c), some (.ref p), some (.ref a), some (.ref D), some (.ref b), some (.str z), y7, none, none] H' := by
          walk_at "1"
          walk_at "8"
          walk_at "69"
          walk_at "7"
          walk_at "79"
          refine k_gsub ?_
          walk_at "69"
          walk_at "7"
          refine v_setl ha1 (i := 1) rfl ?_
          exact spmid_upd (y7 := y7) hx' hr' hp' ha ha1 hpa1 hln1 htb hpl1 hv1
        walk_at "4"
        walk_at "18"
        walk_at "14"
        walk_at "8"
        walk_at "8"
        walk_at "69"
        walk_at "7"
        walk_at "79"
        walk_at "7"
        walk_at "75"
        walk_at "88"
        refine k_if (fun g => go) (fun g => ?_)
        walk_at "14"
        walk_at "8"
        walk_at "8"
        walk_at "69"
        walk_at "7"
        walk_at "79"
        walk_at "7"
        walk_at "75"
        walk_at "88"
        refine k_if (fun g => go) (fun g => ?_)
        exact hm0
      clear hm0 hp' hr' hx'
      clear y7 H'
      rintro σ' H' ⟨y7, rfl, hx', hr', hp'⟩
      have hm0 : SpMid K as H rl a D b p c z ds (2 * n + 60) [some (.ref rl), some (.int c), some (.ref p), some (.ref a), some (.ref D), some (.ref b), some (.str z), y7, none, none] H' := ⟨y7, rfl, hx', hr', hp'⟩
      refine k_cut (SpMid K as H rl a D b p c z ds (2 * n + 60)) ?_ ?_
      · obtain ⟨k1, t1, pa1, pl1, v1, ha1, hpa1, hln1, ht1, hpl1, hv1⟩ := hr' a ha
        have j0 : atI [V.int k1, .str t1, .ref pa1, .str v1] 0 = some (.int k1) := rfl
        have j1 : atI [V.int k1, .str t1, .ref pa1, .str v1] 1 = some (.str t1) := rfl
        have j2 : atI [V.int k1, .str t1, .ref pa1, .str v1] 2 = some (.ref pa1) := rfl
        have j3 : atI [V.int k1, .str t1, .ref pa1, .str v1] 3 = some (.str v1) := rfl
        walk_at "4"
        walk_at "14"
        walk_at "8"
        walk_at "8"
        walk_at "69"
        walk_at "7"
        walk_at "79"
        walk_at "7"
        walk_at "75"
        walk_at "88"
        refine k_if (fun g => ?_) (fun g => ?_)
        · walk_at "1"
          walk_at "12"
          walk_at "9"
          walk_at "8"
          walk_at "11"
          walk_at "9"
          walk_at "8"
          walk_at "69"
          walk_at "7"
          walk_at "79"
          walk_at "10"
          walk_at "57"
          walk_at "7"
          walk_at "70"
          walk_at "10"
          refine ⟨d2 % 12, rfl, ⟨Int.emod_nonneg _ (by decide), Int.emod_lt_of_pos _ (by decide)⟩, fun z5 H5 x5 tz5 => ?_⟩
          refine k_gsub ?_
          walk_at "69"
          walk_at "7"
          refine v_setl (x5 _ _ ha1) (i := 1) rfl ?_
          exact spmid_upd (y7 := y7) (hx'.tr (Xs.of x5)) (hr'.mono x5) (xl x5 hp') ha (x5 _ _ ha1) (x5 _ _ hpa1) hln1 (tz5.le (by omega)) hpl1 hv1
        · walk_at "5"
          exact hm0
      clear hm0 hp' hr' hx'
      clear y7 H'
      rintro σ' H' ⟨y7, rfl, hx', hr', hp'⟩
      have hm0 : SpMid K as H rl a D b p c z ds (2 * n + 60) [some (.ref rl), some (.int c), some (.ref p), some (.ref a), some (.ref D), some (.ref b), some (.str z), y7, none, none] H' := ⟨y7, rfl, hx', hr', hp'⟩
      refine k_cut (SpMid K as H rl a D b p c z ds (2 * n + 60)) ?_ ?_
      · obtain ⟨k1, t1, pa1, pl1, v1, ha1, hpa1, hln1, ht1, hpl1, hv1⟩ := hr' a ha
        have j0 : atI [V.int k1, .str t1, .ref pa1, .str v1] 0 = some (.int k1) := rfl
        have j1 : atI [V.int k1, .str t1, .ref pa1, .str v1] 1 = some (.str t1) := rfl
        have j2 : atI [V.int k1, .str t1, .ref pa1, .str v1] 2 = some (.ref pa1) := rfl
        have j3 : atI [V.int k1, .str t1, .ref pa1, .str v1] 3 = some (.str v1) := rfl
        apply share
        case g2 =>
          intro go
          walk_at "4"
          walk_at "18"
          walk_at "14"
          walk_at "8"
          walk_at "8"
          walk_at "69"
          walk_at "7"
          walk_at "79"
          walk_at "7"
          walk_at "75"
          walk_at "88"
          refine k_if (fun g => go.out) (fun g => ?_)
          walk_at "14"
          walk_at "8"
          walk_at "8"
          walk_at "69"
          walk_at "7"
          walk_at "79"
          walk_at "7"
          walk_at "55"
          walk_at "88"
          refine k_if (fun g => go.out) (fun g => ?_)
          exact hm0
        case g1 =>
          clear hm0
          apply share
          case g2 =>
            intro go2
            walk_at "90"
            walk_at "4"
            walk_at "17"
            walk_at "14"
            walk_at "8"
            walk_at "11"
            walk_at "9"
            walk_at "8"
            walk_at "69"
            walk_at "7"
            walk_at "79"
            walk_at "10"
            walk_at "77"
            walk_at "7"
            walk_at "75"
            walk_at "88"
            refine k_if (fun g1 => ?_) (fun g1 => go2.out)
            walk_at "14"
            walk_at "8"
            walk_at "8"
            walk_at "69"
            walk_at "7"
            walk_at "79"
            walk_at "7"
            walk_at "55"
            walk_at "88"
            refine k_if (fun g2 => ?_) (fun g2 => go2.out)
            clear go2
            walk_at "1"
            walk_at "34"
            walk_at "9"
            walk_at "69"
            walk_at "10"
            walk_at "82"
            intro p5 H5 n5 x5 e5
            refine k_gsub ?_
            walk_at "69"
            walk_at "7"
            refine v_setl (x5 _ _ ha1) (i := 2) rfl ?_
            exact spmid_upd (pl := [z]) (y7 := y7) (hx'.tr (Xs.of x5)) (hr'.mono x5) (xl x5 hp') ha (x5 _ _ ha1) e5 (Nat.le_of_ble_eq_true rfl) ht1 (fun s hs => by cases List.mem_singleton.mp hs; exact tz') hv1
          case g1 =>
            walk_at "89"
            walk_at "4"
            walk_at "14"
            walk_at "8"
            walk_at "11"
            walk_at "9"
            walk_at "8"
            walk_at "69"
            walk_at "7"
            walk_at "79"
            walk_at "10"
            walk_at "77"
            walk_at "7"
            walk_at "55"
            walk_at "88"
            refine k_if (fun g3 => ?_) (fun g3 => ?_)
            · walk_at "0"
              walk_at "1"
              walk_at "8"
              walk_at "11"
              walk_at "9"
              walk_at "8"
              walk_at "69"
              walk_at "7"
              walk_at "79"
              walk_at "10"
              walk_at "57"
              walk_at "11"
              walk_at "9"
              walk_at "8"
              walk_at "69"
              walk_at "7"
              walk_at "79"
              walk_at "10"
              walk_at "77"
              walk_at "70"
              walk_at "6"
              walk_at "1"
              walk_at "8"
              walk_at "8"
              walk_at "48"
              walk_at "8"
              walk_at "69"
              walk_at "7"
              walk_at "79"
              walk_at "49"
              walk_at "50"
              walk_at "69"
              walk_at "88"
              have hlp : (pl1.map V.str).length = pl1.length := List.length_map _
              have u0 := Int.emod_nonneg d3 (show ((pl1.map V.str).length : Int) ≠ 0 by omega)
              have u1 := Int.emod_lt_of_pos d3 g3
              obtain ⟨q1, eq1, lq1, mq1⟩ := cut_to pl1 (i := d3 % ((pl1.map V.str).length : Int)) u0 (by omega)
              obtain ⟨q2, eq2, lq2, mq2⟩ := cut_fr pl1 (i := d3 % ((pl1.map V.str).length : Int) + 1) (by omega) (by omega)
              refine v_sl_l (sql hpa1) fun p5 H5 n5 x5 e5 => ?_
              rw [eq1] at e5
              have ha5 := x5 _ _ ha1
              have hpa5 := x5 _ _ hpa1
              walk_at "34"
              walk_at "9"
              walk_at "69"
              walk_at "10"
              walk_at "82"
              intro p6 H6 n6 x6 e6
              refine v_plus_lst (x6 _ _ e5) e6 (szL (by rw [List.length_map, lq1]; show _ + 1 ≤ _; omega)) fun p7 H7 n7 x7 e7 => ?_
              have x67 := xtr x6 x7
              have ha7 := x67 _ _ ha5
              have hpa7 := x67 _ _ hpa5
              walk_at "48"
              walk_at "8"
              walk_at "69"
              walk_at "7"
              walk_at "79"
              walk_at "50"
              walk_at "8"
              walk_at "69"
              walk_at "7"
              walk_at "56"
              walk_at "88"
              walk_at "49"
              refine v_sl_l (sql hpa7) fun p8 H8 n8 x8 e8 => ?_
              rw [eq2] at e8
              refine v_plus_lst (x8 _ _ e7) e8 (szL (by rw [List.length_append, List.length_map, List.length_map, lq1, lq2]; show _ + 1 + _ ≤ _; omega)) fun p9 H9 n9 x9 e9 => ?_
              have x89 := xtr x8 x9
              refine k_gsub ?_
              walk_at "69"
              walk_at "7"
              have X := xtr x5 (xtr x67 x89)
              rw [show q1.map V.str ++ [V.str z] ++ q2.map V.str = (q1 ++ [z] ++ q2).map V.str by rw [List.map_append, List.map_append]; rfl] at e9
              refine v_setl (X _ _ ha1) (i := 2) rfl ?_
              refine spmid_upd (pl := q1 ++ [z] ++ q2) (y7 := some (.int (d3 % ((pl1.map V.str).length : Int)))) (hx'.tr (Xs.of X)) (hr'.mono X) (xl X hp') ha (X _ _ ha1) e9 ?_ ht1 (fun s hs => ?_) hv1
              · rw [List.length_append, List.length_append, lq1, lq2]; show _ + 1 + _ ≤ _; omega
              · rcases List.mem_append.mp hs with hs | hs
                · rcases List.mem_append.mp hs with hs | hs
                  · exact hpl1 s (mq1 s hs)
                  · cases List.mem_singleton.mp hs; exact tz'
                · exact hpl1 s (mq2 s hs)
            · walk_at "5"
              exact ⟨y7, rfl, hx', hr', hp'⟩
      clear hm0 hp' hr' hx'
      clear y7 H'
      rintro σ' H' ⟨y7, rfl, hx', hr', hp'⟩
      have hm0 : SpMid K as H rl a D b p c z ds (2 * n + 60) [some (.ref rl), some (.int c), some (.ref p), some (.ref a), some (.ref D), some (.ref b), some (.str z), y7, none, none] H' := ⟨y7, rfl, hx', hr', hp'⟩
      refine k_cut (SpMid K as H rl a D b p c z ds (2 * n + 60)) ?_ ?_
      · obtain ⟨k1, t1, pa1, pl1, v1, ha1, hpa1, hln1, ht1, hpl1, hv1⟩ := hr' a ha
        have j0 : atI [V.int k1, .str t1, .ref pa1, .str v1] 0 = some (.int k1) := rfl
        have j1 : atI [V.int k1, .str t1, .ref pa1, .str v1] 1 = some (.str t1) := rfl
        have j2 : atI [V.int k1, .str t1, .ref pa1, .str v1] 2 = some (.ref pa1) := rfl
        have j3 : atI [V.int k1, .str t1, .ref pa1, .str v1] 3 = some (.str v1) := rfl
        walk_at "4"
        walk_at "14"
        walk_at "8"
        walk_at "8"
        walk_at "69"
        walk_at "7"
        walk_at "79"
        walk_at "7"
        walk_at "75"
        walk_at "88"
        refine k_if (fun g => ?_) (fun g => ?_)
        · walk_at "1"
          walk_at "69"
          refine k_gsub ?_
          walk_at "69"
          walk_at "7"
          refine v_setl ha1 (i := 3) rfl ?_
          exact spmid_upd (y7 := y7) hx' hr' hp' ha ha1 hpa1 hln1 ht1 hpl1 tz'
        · walk_at "5"
          exact hm0
      clear hm0 hp' hr' hx'
      clear y7 H'
      rintro σ' H' ⟨y7, rfl, hx', hr', hp'⟩
      have hm0 : SpMid K as H rl a D b p c z ds (2 * n + 60) [some (.ref rl), some (.int c), some (.ref p), some (.ref a), some (.ref D), some (.ref b), some (.str z), y7, none, none] H' := ⟨y7, rfl, hx', hr', hp'⟩
      obtain ⟨k1, t1, pa1, pl1, v1, ha1, hpa1, hln1, ht1, hpl1, hv1⟩ := hr' a ha
      have j0 : atI [V.int k1, .str t1, .ref pa1, .str v1] 0 = some (.int k1) := rfl
      have j1 : atI [V.int k1, .str t1, .ref pa1, .str v1] 1 = some (.str t1) := rfl
      have j2 : atI [V.int k1, .str t1, .ref pa1, .str v1] 2 = some (.ref pa1) := rfl
      have j3 : atI [V.int k1, .str t1, .ref pa1, .str v1] 3 = some (.str v1) := rfl
      walk_at "4"
      walk_at "14"
      walk_at "8"
      walk_at "8"
      walk_at "69"
      walk_at "7"
      walk_at "79"
      walk_at "7"
      walk_at "75"
      walk_at "88"
      refine k_if (fun g => ?_) (fun g => ?_)
      · have hlp : (pl1.map V.str).length = pl1.length := List.length_map _
        walk_at "0"
        walk_at "1"
        walk_at "8"
        walk_at "11"
        walk_at "9"
        walk_at "8"
        walk_at "69"
        walk_at "7"
        walk_at "79"
        walk_at "10"
        walk_at "57"
        walk_at "8"
        walk_at "11"
        walk_at "9"
        walk_at "8"
        walk_at "69"
        walk_at "7"
        walk_at "79"
        walk_at "10"
        walk_at "77"
        walk_at "7"
        walk_at "56"
        walk_at "70"
        walk_at "6"
        walk_at "0"
        walk_at "1"
        walk_at "8"
        walk_at "48"
        walk_at "8"
        walk_at "69"
        walk_at "7"
        walk_at "79"
        walk_at "49"
        walk_at "50"
        walk_at "69"
        walk_at "88"
        have u0 := Int.emod_nonneg d3 (show (((pl1.map V.str).length : Int) + 1) ≠ 0 by omega)
        have u1 := Int.emod_lt_of_pos d3 (show (0 : Int) < ((pl1.map V.str).length : Int) + 1 by omega)
        obtain ⟨q1, eq1, lq1, mq1⟩ := cut_to pl1 (i := d3 % (((pl1.map V.str).length : Int) + 1)) u0 (by omega)
        generalize ew : d3 % (((pl1.map V.str).length : Int) + 1) = at7 at *
        refine v_sl_l (sql hpa1) fun p5 H5 n5 x5 e5 => ?_
        rw [eq1] at e5
        have ha5 := x5 _ _ ha1
        have hpa5 := x5 _ _ hpa1
        walk_at "51"
        walk_at "42"
        walk_at "9"
        walk_at "8"
        walk_at "11"
        walk_at "9"
        walk_at "8"
        walk_at "69"
        walk_at "7"
        walk_at "79"
        walk_at "10"
        walk_at "77"
        walk_at "69"
        walk_at "55"
        walk_at "10"
        walk_at "88"
        refine ⟨by omega, by omega, ?_⟩
        refine' b_rng (fun _ y => ∃ s : Str, y = .str s ∧ Tx (2 * n + 60) s) ?hn (fun x => ?hw) ?hb ?hk
        case hn => omega
        case hw => rfl
        case hb =>
          intro i H6 hi xi R hR
          have ti := str_small i (by omega)
          walk_at "8"
          walk_at "69"
          walk_at "11"
          walk_at "9"
          walk_at "69"
          walk_at "10"
          walk_at "88"
          refine ⟨?_, ?_⟩
          · obtain rfl | rfl | rfl : i = 0 ∨ i = 1 ∨ i = 2 := by omega
            · decide +kernel
            · decide +kernel
            · decide +kernel
          refine vT_plus tz ti (by omega) fun ts => ?_
          exact hR _ _ (xrefl _) ⟨_, rfl, ts.le (by omega)⟩
        case hk =>
          intro D6 ys6 H6 hD6 hyl6 hP6 x6 e6
          obtain ⟨q6, rfl, mq6⟩ : ∃ ql : List Str, ys6 = ql.map V.str ∧ ∀ s ∈ ql, Tx (2 * n + 60) s := strs_of fun y hy => by
            obtain ⟨i, hi⟩ := List.getElem?_of_mem hy
            exact hP6 i y hi
          rw [List.length_map] at hyl6
          refine v_plus_lst (x6 _ _ e5) e6 (szL (by rw [List.length_map, List.length_map, lq1]; omega)) fun p7 H7 n7 x7 e7 => ?_
          have X := xtr x5 (xtr x6 x7)
          rw [← List.map_append] at e7
          refine k_gsub ?_
          walk_at "69"
          walk_at "7"
          refine v_setl (X _ _ ha1) (i := 2) rfl ?_
          obtain ⟨y8, e8, hx8, hr8, hp8⟩ := spmid_upd (rl := rl) (q := D) (b := b) (c := c) (z := z) (k2 := k1) (pl := q1 ++ q6) (y7 := some (.int at7)) (hx'.tr (Xs.of X)) (hr'.mono X) (xl X hp') ha (X _ _ ha1) e7 (by rw [List.length_append, lq1]; omega) ht1 (fun s hs => by
            rcases List.mem_append.mp hs with hs | hs
            · exact hpl1 s (mq1 s hs)
            · exact mq6 s hs) hv1
          dsimp only
          refine k_asg ?_
          refine k_op ?_
          refine k_var rfl ?_
          refine k_c ?_
          refine vT_plus tz (Tx.lit (z := "x") (by decide +kernel)) (by omega) fun ts => ?_
          refine k_gsub ?_
          walk_at "69"
          walk_at "7"
          obtain ⟨k9, t9, pa9, pl9, v9, ha9, hpa9, hln9, ht9, hpl9, hv9⟩ := hr8 a ha
          refine v_setl ha9 (i := 3) rfl ?_
          obtain ⟨u1, u2⟩ := row_upd (k2 := k9) hr8 ha ha9 hpa9 hln9 ht9 hpl9 (ts.le (by omega) : Tx (2 * n + 60) _)
          exact q _ (hx8.tr u2) u1
      · exact q _ hx' hr'


theorem ok__law_spoil_behind (T : Top0 P K mg) : FnOk P w K mg base CX0 3 T.f__law_spoil_behind T.fd__law_spoil_behind ["rows", "cell"] (sp__law_spoil_behind T) := by
  refine T.F__law_spoil_behind.ok sc__law_spoil_behind (fun vs H Q E h => ?_) (fun cdv A outer s H vs Q E hr h => ?_)
  · obtain ⟨rl, as, c, rfl, hl, hal, rws, q⟩ := h
    rfl
  · obtain ⟨rl, as, c, rfl, hl, hal, rws, q⟩ := h
    refine ⟨_, (pss_cons (ps_set (i := 2) sc__law_spoil_behind.nd rfl (Or.inl rfl) (pe_call (ok__law_digits T) (hr.mono (by first | decide | exact Nat.le_refl _ | omega | (show _ ≤ _ + n; omega))) (by rfl) T.g__law_digits T.F__law_digits.kp T.b__law_digits .nil pass0 (pa_cons (pv 1) (pa_cons (pe_lst (pa_cons pe_int (pa_cons pe_int (pa_cons pe_int (pa_cons pe_int (pa_cons pe_int pa_nil)))))) pa_nil))))
      (pss_cons (ps_setLc (i := 3) (own := [("one", 7)]) (g := gName 7) rfl sc__law_spoil_behind.nd rfl rfl (sw_true rfl rfl rfl (by decide +kernel)) (pi_list (pv 0)) (blkOk_by (N := N__law_spoil_behind) (sc := defScope s__law_spoil_behind) (by decide +kernel)) (fun _ _ _ _ _ => (pg_name (i := 7) sc__law_spoil_behind.nd rfl (Or.inl rfl))) (fun _ _ _ _ _ => pts_one (pt_cmpR (r := rEqU K) (op_eqU hr) (pe_ix (r := rIx K) ix_seq (pv 7) pe_int (fun _ _ => rfl)) pe_int (nomark _))) (fun _ _ _ _ _ => (pv 7)))
      (pss_cons (ps_setLc (i := 4) (own := [("one", 7)]) (g := gName 7) rfl sc__law_spoil_behind.nd rfl rfl (sw_true rfl rfl rfl (by decide +kernel)) (pi_list (pv 0)) (blkOk_by (N := N__law_spoil_behind) (sc := defScope s__law_spoil_behind) (by decide +kernel)) (fun _ _ _ _ _ => (pg_name (i := 7) sc__law_spoil_behind.nd rfl (Or.inl rfl))) (fun _ _ _ _ _ => pts_one (pt_cmpR (r := rEqU K) (op_eqU hr) (pe_ix (r := rIx K) ix_seq (pv 7) pe_int (fun _ _ => rfl)) pe_int (nomark _))) (fun _ _ _ _ _ => (pv 7)))
      (pss_cons (ps_if (PW.pt (pw_or (pt_cmpR (r := rEqU K) (op_eqU hr) (pe_callB (r := rLenU K) call_lenU (by rfl) T.n_len PySem.boot_len (pa_cons (pv 3) pa_nil)) pe_int (nomark _)) (pw_or1 (pt_cmpR op_lt (pe_callB (r := rLenU K) call_lenU (by rfl) T.n_len PySem.boot_len (pa_cons (pv 4) pa_nil)) pe_int (nomark _))))) (pss_one ps_retN) pss_nil)
      (pss_cons (ps_set (i := 5) sc__law_spoil_behind.nd rfl (Or.inl rfl) (pe_op op_mod (pe_callTy call_intU (by rfl) T.n_int PyProof.Rows.boot_int (pa_cons (pe_ix (r := rIx K) ix_seq (pv 2) pe_int (fun _ _ => rfl)) pa_nil)) (pe_op op_sub (pe_callB (r := rLenU K) call_lenU (by rfl) T.n_len PySem.boot_len (pa_cons (pv 4) pa_nil)) pe_int)))
      (pss_cons (ps_set (i := 6) sc__law_spoil_behind.nd rfl (Or.inl rfl) (pe_ix (r := rIx K) ix_seq (pv 4) (pe_op (r := rPlus K) op_plus (pe_op (r := rPlus K) op_plus (pv 5) pe_int) (pe_op op_mod (pe_callTy call_intU (by rfl) T.n_int PyProof.Rows.boot_int (pa_cons (pe_ix (r := rIx K) ix_seq (pv 2) pe_int (fun _ _ => rfl)) pa_nil)) (pe_op op_sub (pe_op op_sub (pe_callB (r := rLenU K) call_lenU (by rfl) T.n_len PySem.boot_len (pa_cons (pv 4) pa_nil)) pe_int) (pv 5)))) (fun _ _ => rfl)))
      (pss_cons (ps_asg (pe_ix (r := rIx K) ix_seq (pe_ix (r := rIx K) ix_seq (pv 3) (pe_op op_mod (pe_callTy call_intU (by rfl) T.n_int PyProof.Rows.boot_int (pa_cons (pe_ix (r := rIx K) ix_seq (pv 2) pe_int (fun _ _ => rfl)) pa_nil)) (pe_callB (r := rLenU K) call_lenU (by rfl) T.n_len PySem.boot_len (pa_cons (pv 3) pa_nil))) (fun _ _ => rfl)) pe_int (fun _ _ => rfl)) (pg_sub (pe_ix (r := rIx K) ix_seq (pv 4) (pv 5) (fun _ _ => rfl)) pe_int set_list))
      (Evl.pss_cut (ps_if (pt_cmpR (r := rEqU K) (op_eqU hr) (pe_ix (r := rIx K) ix_seq (pv 2) pe_int (fun _ _ => rfl)) pe_int (nomark _)) (pss_one (ps_asg (pe_call (ok__law_bad T) (hr.mono (by first | decide | exact Nat.le_refl _ | omega | (show _ ≤ _ + n; omega))) (by rfl) T.g__law_bad T.F__law_bad.kp T.b__law_bad .nil pass0 (pa_cons (pe_ix (r := rIx K) ix_seq (pv 6) pe_int (fun _ _ => rfl)) (pa_cons (pe_ix (r := rIx K) ix_seq (pv 2) pe_int (fun _ _ => rfl)) pa_nil))) (pg_sub (pv 6) pe_int set_list))) pss_nil)
      (Evl.pss_cut (ps_if (pt_cmpR (r := rEqU K) (op_eqU hr) (pe_ix (r := rIx K) ix_seq (pv 2) pe_int (fun _ _ => rfl)) pe_int (nomark _)) (pss_one (ps_asg (pe_op (r := rPlus K) op_plus (pe_ix (r := rIx K) ix_seq (pv 6) pe_int (fun _ _ => rfl)) pe_str) (pg_sub (pv 6) pe_int set_list))) pss_nil)
      (pss_one (ps_if (pt_cmpR (r := rEqU K) (op_eqU hr) (pe_ix (r := rIx K) ix_seq (pv 2) pe_int (fun _ _ => rfl)) pe_int (nomark _)) (pss_one (ps_asg (pe_ix (r := rIx K) ix_seq (pe_ix (r := rIx K) ix_seq (pv 0) pe_int (fun _ _ => rfl)) pe_int (fun _ _ => rfl)) (pg_sub (pv 6) pe_int set_list))) pss_nil))))))))))), ?_⟩
    have hle : (as.map V.ref).length ≤ 1000 := by rw [List.length_map]; exact hal
    walk_at "0"
    walk_at "1"
    walk_at "12"
    walk_at "9"
    walk_at "69"
    walk_at "9"
    walk_at "34"
    walk_at "9"
    walk_at "7"
    walk_at "9"
    walk_at "7"
    walk_at "9"
    walk_at "7"
    walk_at "9"
    walk_at "7"
    walk_at "9"
    walk_at "7"
    walk_at "10"
    walk_at "82"
    intro p1 H1 n1 x1 e1
    walk_at "10"
    refine ⟨c, p1, [60, 60, 60, 4, 25], rfl, sql e1, by decide, by decide, fun p H2 ds x2 e2 hd => ?_⟩
    have x12 := xtr x1 x2
    have hl2 := x12 _ _ hl
    have hr2 := rws.mono x12
    obtain ⟨d0, g0, a0, b0⟩ := hd.get 0 (0 : Int) rfl rfl
    obtain ⟨d1, g1, a1, b1⟩ := hd.get 1 (1 : Int) rfl rfl
    obtain ⟨d2, g2, a2, b2⟩ := hd.get 2 (2 : Int) rfl rfl
    obtain ⟨d3, g3, a3, b3⟩ := hd.get 3 (3 : Int) rfl rfl
    obtain ⟨d4, g4, a4, b4⟩ := hd.get 4 (4 : Int) rfl rfl
    clear e1
    walk_at "6"
    walk_at "0"
    walk_at "1"
    walk_at "51"
    walk_at "38"
    walk_at "69"
    walk_at "88"
    refine ⟨⟨_, sql hl2⟩, ?_⟩
    refine' b_lstF (fun x => decide (kindH H2 x = .int 2)) (fun y => ∃ b ∈ as, y = .ref b) (sql hl2) ?hn (fun x => ?hw) ?ht ?hb ?hk
    case hn => omega
    case hw => rfl
    case ht =>
      intro x H' hx xx R hR
      obtain ⟨b, hb, rfl⟩ := List.mem_map.mp hx
      obtain ⟨kb, tb, pb, plb, vb, eb, _⟩ := hr2 b hb
      have eb' := xx _ _ eb
      rw [kindH_eq eb] at hR
      have i0 : atI [V.int kb, .str tb, .ref pb, .str vb] 0 = some (.int kb) := rfl
      walk_at "14"
      walk_at "8"
      walk_at "8"
      walk_at "69"
      walk_at "7"
      walk_at "79"
      walk_at "7"
      walk_at "75"
      walk_at "88"
      exact hR
    case hb =>
      intro x H' hx xx R hR
      obtain ⟨b, hb, rfl⟩ := List.mem_map.mp hx
      walk_at "69"
      exact hR _ _ (xrefl _) ⟨b, hb, rfl⟩
    case hk =>
      intro D ys H3 hD hyl hP x3 e3
      have hl3 := x3 _ _ hl2
      have hr3 := hr2.mono x3
      walk_at "6"
      walk_at "0"
      walk_at "1"
      walk_at "51"
      walk_at "38"
      walk_at "69"
      walk_at "88"
      refine ⟨⟨_, sql hl3⟩, ?_⟩
      refine' b_lstF (fun x => decide (kindH H3 x = .int 3)) (fun y => ∃ b ∈ as, y = .ref b) (sql hl3) ?hn (fun x => ?hw) ?ht ?hb ?hk
      case hn => omega
      case hw => rfl
      case ht =>
        intro x H' hx xx R hR
        obtain ⟨b, hb, rfl⟩ := List.mem_map.mp hx
        obtain ⟨kb, tb, pb, plb, vb, eb, _⟩ := hr3 b hb
        have eb' := xx _ _ eb
        rw [kindH_eq eb] at hR
        have i0 : atI [V.int kb, .str tb, .ref pb, .str vb] 0 = some (.int kb) := rfl
        walk_at "14"
        walk_at "8"
        walk_at "8"
        walk_at "69"
        walk_at "7"
        walk_at "79"
        walk_at "7"
        walk_at "75"
        walk_at "88"
        exact hR
      case hb =>
        intro x H' hx xx R hR
        obtain ⟨b, hb, rfl⟩ := List.mem_map.mp hx
        walk_at "69"
        exact hR _ _ (xrefl _) ⟨b, hb, rfl⟩
      case hk =>
        intro D4 zs H4 hD4 hzl hP4 x4 e4
        have X4 := xtr x12 (xtr x3 x4)
        have hl4 := x4 _ _ hl3
        have e24 := x4 _ _ (x3 _ _ e2)
        have e34 := x4 _ _ e3
        have hr4 := hr3.mono x4
        have hy1 : ys.length ≤ as.length := by rw [hyl]; exact Nat.le_trans (List.length_filter_le _ _) (by rw [List.length_map]; exact Nat.le_refl _)
        have hz1 : zs.length ≤ as.length := by rw [hzl]; exact Nat.le_trans (List.length_filter_le _ _) (by rw [List.length_map]; exact Nat.le_refl _)
        clear hyl hzl e2 e3 x12 hl2 hr2 x3 x4 hl3 hr3 hD hD4 x1 x2 hl
        have hdone : Q V.non H4 := q _ (Xs.of X4) ((rws.mono X4).le (by decide))
        walk_at "6"
        walk_at "0"
        walk_at "4"
        walk_at "18"
        walk_at "14"
        walk_at "8"
        walk_at "11"
        walk_at "9"
        walk_at "69"
        walk_at "10"
        walk_at "77"
        walk_at "7"
        walk_at "75"
        walk_at "88"
        refine k_if (fun u1 => ?_) (fun u1 => ?_)
        · walk_at "90"
          exact hdone
        walk_at "14"
        walk_at "8"
        walk_at "11"
        walk_at "9"
        walk_at "69"
        walk_at "10"
        walk_at "77"
        walk_at "7"
        walk_at "55"
        walk_at "88"
        refine k_if (fun u2 => ?_) (fun u2 => ?_)
        · skip
          exact hdone
        clear hdone
        have u1' : 0 < ys.length := by
          rcases Nat.eq_zero_or_pos ys.length with h | h
          · rw [h] at u1; exact absurd rfl u1
          · exact h
        have v0 := Int.emod_nonneg d0 (show (zs.length : Int) - 1 ≠ 0 by omega)
        have v1 := Int.emod_lt_of_pos d0 (show (0 : Int) < (zs.length : Int) - 1 by omega)
        walk_at "5"
        walk_at "0"
        walk_at "1"
        walk_at "8"
        walk_at "11"
        walk_at "9"
        walk_at "8"
        walk_at "69"
        walk_at "7"
        walk_at "79"
        walk_at "10"
        walk_at "57"
        walk_at "8"
        walk_at "11"
        walk_at "9"
        walk_at "69"
        walk_at "10"
        walk_at "77"
        walk_at "7"
        walk_at "55"
        walk_at "70"
        walk_at "6"
        walk_at "0"
        walk_at "1"
        walk_at "8"
        walk_at "69"
        walk_at "8"
        walk_at "8"
        walk_at "69"
        walk_at "7"
        walk_at "56"
        walk_at "8"
        walk_at "11"
        walk_at "9"
        walk_at "8"
        walk_at "69"
        walk_at "7"
        walk_at "79"
        walk_at "10"
        walk_at "57"
        walk_at "8"
        walk_at "8"
        walk_at "11"
        walk_at "9"
        walk_at "69"
        walk_at "10"
        walk_at "77"
        walk_at "7"
        walk_at "55"
        walk_at "69"
        walk_at "55"
        walk_at "70"
        walk_at "56"
        generalize d0 % ((zs.length : Int) - 1) = k5 at v0 v1 ⊢
        have w0 := Int.emod_nonneg d1 (show (zs.length : Int) - 1 - k5 ≠ 0 by omega)
        have w1 := Int.emod_lt_of_pos d1 (show (0 : Int) < (zs.length : Int) - 1 - k5 by omega)
        skip
        generalize d1 % ((zs.length : Int) - 1 - k5) = k6 at w0 w1 ⊢
        obtain ⟨_, ⟨bh, hbh, rfl⟩, ebh⟩ := at_pr (ys := zs) (i := k5 + 1 + k6) hP4 (by omega) (by omega)
        obtain ⟨_, ⟨fa, hfa, rfl⟩, efa⟩ := at_pr (ys := zs) (i := k5) hP4 (by omega) (by omega)
        obtain ⟨_, ⟨pr, hpr, rfl⟩, epr⟩ := at_pr (ys := ys) (i := d2 % (ys.length : Int)) hP (Int.emod_nonneg _ (by omega)) (Int.emod_lt_of_pos _ (by omega))
        obtain ⟨k7, t7, pa7, pl7, w7, h7, hpa7, hln7, ht7, hpl7, hv7⟩ := hr4 fa hfa
        obtain ⟨k8, t8, pa8, pl8, w8, h8, hpa8, hln8, ht8, hpl8, hv8⟩ := hr4 pr hpr
        have i8 : atI [V.int k8, .str t8, .ref pa8, .str w8] 1 = some (.str t8) := rfl
        walk_at "79"
        walk_at "6"
        walk_at "0"
        walk_at "1"
        walk_at "8"
        walk_at "8"
        walk_at "69"
        walk_at "8"
        walk_at "11"
        walk_at "9"
        walk_at "8"
        walk_at "69"
        walk_at "7"
        walk_at "79"
        walk_at "10"
        walk_at "57"
        walk_at "11"
        walk_at "9"
        walk_at "69"
        walk_at "10"
        walk_at "77"
        walk_at "70"
        walk_at "79"
        walk_at "7"
        walk_at "79"
        refine k_gsub ?_
        walk_at "8"
        walk_at "69"
        walk_at "69"
        walk_at "79"
        walk_at "7"
        refine v_setl h7 (i := 1) rfl ?_
        obtain ⟨y1, y2⟩ := row_upd (k2 := k7) hr4 hfa h7 hpa7 hln7 ht8 hpl7 hv7
        have hp5 := xs_ints (K := K) hr4 y2 (sql e24)
        have hl5 := xs_refs hr4 y2 hl4
        have x5 := (Xs.of (as := as) X4).tr y2
        show Evl.tCut _ _ _ _ (upd H4 fa (.lst [.int k7, .str t8, .ref pa7, .str w7]))
        generalize upd H4 fa (.lst [.int k7, .str t8, .ref pa7, .str w7]) = H5 at y1 y2 hp5 hl5 x5 ⊢
        have as1 : 0 < (as.map V.ref).length := by rw [List.length_map]; omega
        clear h7 hpa7 h8 hpa8 hr4 hl4 e24 e34 e4 X4 y2 hP4 hP ebh efa epr i8 u1' u2 u1 v0 v1 w0 w1 hz1 hy1 hln7 ht7 hpl7 hv7 hln8 ht8 hpl8 hv8
        refine k_cut (fun σ' H' => σ' = [some (.ref rl), some (.int c), some (.ref p), some (.ref D), some (.ref D4), some (.int k5), some (.ref bh), none] ∧ Xs as H H' ∧ RwsOk 100 H' as ∧ SqL K H' p (ds.map V.int) ∧ H' rl = some (.lst (as.map V.ref))) ?_ ?_
        · have hr' := y1
          obtain ⟨kb, tb, pb, plb, vb, hb1, hpb, hlnb, htb, hplb, hvb⟩ := hr' bh hbh
          have i0 : atI [V.int kb, .str tb, .ref pb, .str vb] 0 = some (.int kb) := rfl
          have i1 : atI [V.int kb, .str tb, .ref pb, .str vb] 1 = some (.str tb) := rfl
          walk_at "4"
          walk_at "14"
          walk_at "8"
          walk_at "8"
          walk_at "69"
          walk_at "7"
          walk_at "79"
          walk_at "7"
          walk_at "75"
          walk_at "88"
          refine k_if (fun g => ?_) (fun g => ?_)
          · walk_at "1"
            walk_at "12"
            walk_at "9"
            walk_at "8"
            walk_at "69"
            walk_at "7"
            walk_at "79"
            walk_at "9"
            walk_at "8"
            walk_at "69"
            walk_at "7"
            walk_at "79"
            walk_at "10"
            refine ⟨tb, 20, d4, rfl, htb, by decide, ⟨a4, b4⟩, fun z6 H6 x6 tz6 => ?_⟩
            refine k_gsub ?_
            walk_at "69"
            walk_at "7"
            refine v_setl (x6 _ _ hb1) (i := 1) rfl ?_
            obtain ⟨y3, y4⟩ := row_upd (k2 := kb) ((y1.mono x6).le (show 20 ≤ 100 by decide)) hbh (x6 _ _ hb1) (x6 _ _ hpb) hlnb tz6 (fun s hs => (hplb s hs).le (by decide)) (hvb.le (by decide))
            exact ⟨rfl, x5.tr ((Xs.of x6).tr y4), y3, xs_ints (y1.mono x6) y4 (xl x6 hp5), xs_refs (y1.mono x6) y4 (x6 _ _ hl5)⟩
          · walk_at "5"
            exact ⟨rfl, x5, y1.le (by decide), hp5, hl5⟩
        clear hp5 hl5 x5 y1
        rintro σ' H' ⟨rfl, hx', hr', hp', hl'⟩
        refine k_cut (fun σ' H' => σ' = [some (.ref rl), some (.int c), some (.ref p), some (.ref D), some (.ref D4), some (.int k5), some (.ref bh), none] ∧ Xs as H H' ∧ RwsOk 120 H' as ∧ SqL K H' p (ds.map V.int) ∧ H' rl = some (.lst (as.map V.ref))) ?_ ?_
        · obtain ⟨kb, tb, pb, plb, vb, hb1, hpb, hlnb, htb, hplb, hvb⟩ := hr' bh hbh
          have i0 : atI [V.int kb, .str tb, .ref pb, .str vb] 0 = some (.int kb) := rfl
          have i1 : atI [V.int kb, .str tb, .ref pb, .str vb] 1 = some (.str tb) := rfl
          walk_at "4"
          walk_at "14"
          walk_at "8"
          walk_at "8"
          walk_at "69"
          walk_at "7"
          walk_at "79"
          walk_at "7"
          walk_at "75"
          walk_at "88"
          refine k_if (fun g => ?_) (fun g => ?_)
          · have hz9 : Tx 120 (tb ++ "x") := htb.app (Tx.lit (z := "x") (by decide +kernel)) (by decide)
            walk_at "1"
            walk_at "8"
            walk_at "8"
            walk_at "69"
            walk_at "7"
            walk_at "79"
            walk_at "7"
            refine v_plus_str (szL (by have := htb.len; have : (Str.ofString "x").length = 1 := rfl; omega)) ?_
            refine k_gsub ?_
            walk_at "69"
            walk_at "7"
            refine v_setl hb1 (i := 3) rfl ?_
            obtain ⟨y3, y4⟩ := row_upd (k2 := kb) (hr'.le (show 100 ≤ 120 by decide)) hbh hb1 hpb hlnb (htb.le (by decide)) (fun s hs => (hplb s hs).le (by decide)) hz9
            exact ⟨rfl, hx'.tr y4, y3, xs_ints hr' y4 hp', xs_refs hr' y4 hl'⟩
          · walk_at "5"
            exact ⟨rfl, hx', hr'.le (by decide), hp', hl'⟩
        clear hp' hl' hx' hr' H'
        rintro σ' H' ⟨rfl, hx', hr', hp', hl'⟩
        obtain ⟨kb, tb, pb, plb, vb, hb1, hpb, hlnb, htb, hplb, hvb⟩ := hr' bh hbh
        have i0 : atI [V.int kb, .str tb, .ref pb, .str vb] 0 = some (.int kb) := rfl
        have i1 : atI [V.int kb, .str tb, .ref pb, .str vb] 1 = some (.str tb) := rfl
        obtain ⟨ar, har, ear⟩ := at_refs (as := as) (i := 0) (by omega) (by omega)
        obtain ⟨k9, t9, pa9, pl9, v9, h9, hpa9, hln9, ht9, hpl9, hv9⟩ := hr' ar har
        have i9 : atI [V.int k9, .str t9, .ref pa9, .str v9] 1 = some (.str t9) := rfl
        walk_at "4"
        walk_at "14"
        walk_at "8"
        walk_at "8"
        walk_at "69"
        walk_at "7"
        walk_at "79"
        walk_at "7"
        walk_at "75"
        walk_at "88"
        refine k_if (fun g => ?_) (fun g => ?_)
        · walk_at "1"
          walk_at "8"
          walk_at "8"
          walk_at "69"
          walk_at "7"
          walk_at "79"
          walk_at "7"
          walk_at "79"
          refine k_gsub ?_
          walk_at "69"
          walk_at "7"
          refine v_setl hb1 (i := 1) rfl ?_
          obtain ⟨y3, y4⟩ := row_upd (k2 := kb) hr' hbh hb1 hpb hlnb ht9 hplb hvb
          exact q _ (hx'.tr y4) (y3.le (by decide))
        · exact q _ hx' (hr'.le (by decide))


theorem ok__law_fits (T : Top0 P K mg) : FnOk P w K mg base CX0 3 T.f__law_fits T.fd__law_fits ["vocabulary", "sort_names", "function_rows", "predicate_rows", "probes"] (sp__law_fits T) := by
  refine T.F__law_fits.ok sc__law_fits (fun vs H Q E h => ?_) (fun cdv A outer s H vs Q E hr h => ?_)
  · obtain ⟨a, v1, v2, v3, pp, x, zs, rfl, hV, hv1, hv2, hv3, hpp, hzl, ok, hc, q⟩ := h
    rfl
  · obtain ⟨a, v1, v2, v3, pp, x, zs, rfl, hV, hv1, hv2, hv3, hpp, hzl, ok, hc, q⟩ := h
    refine ⟨_, (pss_cons (ps_if (PW.pt (pw_or (pt_not (pt_val (pe_callB (r := rIsi K) call_isi (by rfl) T.n_isinstance PyProof.Rows.boot_isinstance (pa_cons (pv 0) (pa_cons (pe_glob (v := .ref T.C_Vocabulary) (by rfl) T.g_Vocabulary rfl) pa_nil))))) (pw_or1 (pt_not (pt_val (pe_callB (r := rIsi K) call_isi (by rfl) T.n_isinstance PyProof.Rows.boot_isinstance (pa_cons (show PE _ _ (tFld K _ _) from pe_fld (pv 0) rfl) (pa_cons (pe_bltn (v := .ty "tuple") (by rfl) T.n_tuple (by decide +kernel) rfl) pa_nil)))))))) (pss_one (ps_ret pe_bl)) pss_nil)
      (pss_cons (ps_if (PW.pt (pw_or (pt_cmpR (r := rNeU K) (op_neU hr) (show PE _ _ (tFld K _ _) from pe_fld (pv 0) rfl) (pe_callTy (r := rTup K) call_tupU (by rfl) T.n_tuple (by decide +kernel) (pa_cons (pv 1) pa_nil)) (nomark _)) (pw_or1 (pt_cmpR (r := rNeU K) (op_neU hr) (show PE _ _ (tFld K _ _) from pe_fld (pv 0) rfl) (pe_callTy (r := rTup K) call_tupU (by rfl) T.n_tuple (by decide +kernel) (pa_cons (pv 2) pa_nil)) (nomark _))))) (pss_one (ps_ret pe_bl)) pss_nil)
      (pss_cons (ps_if (pt_cmpR (r := rNeU K) (op_neU hr) (show PE _ _ (tFld K _ _) from pe_fld (pv 0) rfl) (pe_callTy (r := rTup K) call_tupU (by rfl) T.n_tuple (by decide +kernel) (pa_cons (pv 3) pa_nil)) (nomark _)) (pss_one (ps_ret pe_bl)) pss_nil)
      (pss_cons (ps_for PassesOwn.never rfl (pi_list (pv 4)) (pg_name (i := 5) sc__law_fits.nd rfl (Or.inr rfl)) (pss_cons (ps_setLc (i := 6) (own := [("item", 9)]) (g := gName 9) rfl sc__law_fits.nd rfl rfl (sw_true rfl rfl rfl (by decide +kernel)) (pi_list (pe_op (r := rPlus K) op_plus (pv 2) (pv 3))) (blkOk_by (N := N__law_fits) (sc := defScope s__law_fits) (by decide +kernel)) (fun _ _ _ _ _ => (pg_name (i := 9) sc__law_fits.nd rfl (Or.inl rfl))) (fun _ _ _ _ _ => pts_one (pt_cmpR (r := rEqU K) (op_eqU hr) (pe_ix (r := rIx K) ix_seq (pv 9) pe_int (fun _ _ => rfl)) (pv 5) (nomark _))) (fun _ _ _ _ _ => (pv 9)))
      (pss_cons (ps_if (pt_cmpR (r := rNeU K) (op_neU hr) (pe_cmpR (r := rInO T.C_Vocabulary (sp_Vocabulary___contains__ T)) (op_inO T.cl_Vocabulary T.m_Vocabulary___contains__ (ok_Vocabulary___contains__ T) (hr.mono (by first | decide | exact Nat.le_refl _ | omega | (show _ ≤ _ + n; omega))) T.b_Vocabulary___contains__ pass0) (pv 5) (pv 0) (by with_unfolding_all rfl)) (pe_or (pe_cmpR (r := rInV K) (op_inV hr) (pv 5) (pv 1) (by with_unfolding_all rfl)) (pe_one (pe_cmpR op_gt (pe_callB (r := rLenU K) call_lenU (by rfl) T.n_len PySem.boot_len (pa_cons (pv 6) pa_nil)) pe_int (nomark _)))) (nomark _)) (pss_one (ps_ret pe_bl)) pss_nil)
      (pss_cons (ps_set (i := 7) sc__law_fits.nd rfl (Or.inl rfl) (pe_meth (pv 0) T.cl_Vocabulary T.m_Vocabulary_arguments (ok_Vocabulary_arguments T) (hr.mono (by first | decide | exact Nat.le_refl _ | omega | (show _ ≤ _ + n; omega))) T.b_Vocabulary_arguments .nil pass0 (pa_cons (pv 5) pa_nil)))
      (pss_cons (ps_set (i := 8) sc__law_fits.nd rfl (Or.inl rfl) (pe_meth (pv 0) T.cl_Vocabulary T.m_Vocabulary_value_sort (ok_Vocabulary_value_sort T) (hr.mono (by first | decide | exact Nat.le_refl _ | omega | (show _ ≤ _ + n; omega))) T.b_Vocabulary_value_sort .nil pass0 (pa_cons (pv 5) pa_nil)))
      (pss_cons (ps_if (PW.pt (pw_or (pt_cmpR (r := rNeU K) (op_neU hr) (pe_methN (pv 0) T.cl_Vocabulary T.m_Vocabulary_arguments (ok_Vocabulary_arguments T) (hr.mono (by first | decide | exact Nat.le_refl _ | omega | (show _ ≤ _ + n; omega))) T.kb_Vocabulary_arguments pass0 (pk_cons (pv 5) pk_nil)) (pv 7) (nomark _)) (pw_or1 (pt_cmpR (r := rNeU K) (op_neU hr) (pe_methN (pv 0) T.cl_Vocabulary T.m_Vocabulary_value_sort (ok_Vocabulary_value_sort T) (hr.mono (by first | decide | exact Nat.le_refl _ | omega | (show _ ≤ _ + n; omega))) T.kb_Vocabulary_value_sort pass0 (pk_cons (pv 5) pk_nil)) (pv 8) (nomark _))))) (pss_one (ps_ret pe_bl)) pss_nil)
      (pss_one (ps_if (pt_cmpR (r := rEqU K) (op_eqU hr) (pe_callB (r := rLenU K) call_lenU (by rfl) T.n_len PySem.boot_len (pa_cons (pv 6) pa_nil)) pe_int (nomark _)) (pss_one (ps_if (PW.pt (pw_or (pt_cmpR op_notN1 (pv 7) pe_non (nomark _)) (pw_or1 (pt_cmpR op_notN1 (pv 8) pe_non (nomark _))))) (pss_one (ps_ret pe_bl)) pss_nil)) (pss_one (ps_if (PW.pt (pw_or (pt_cmpR (r := rNeU K) (op_neU hr) (pv 7) (pe_ix (r := rIx K) ix_seq (pe_ix (r := rIx K) ix_seq (pv 6) pe_int (fun _ _ => rfl)) pe_int (fun _ _ => rfl)) (nomark _)) (pw_or1 (pt_cmpR (r := rNeU K) (op_neU hr) (pv 8) (pe_ix (r := rIx K) ix_seq (pe_op (r := rPlus K) op_plus (pe_callTy (r := rLst K) call_lstU (by rfl) T.n_list (by decide +kernel) (pa_cons (pe_ix (r := rIx K) ix_seq (pv 6) pe_int (fun _ _ => rfl)) pa_nil)) (pe_lst (pa_cons pe_str pa_nil))) pe_int (fun _ _ => rfl)) (nomark _))))) (pss_one (ps_ret pe_bl)) pss_nil))))))))))
      (pss_one (ps_ret pe_bl)))))), ?_⟩
    obtain ⟨dx, fs, s, f, p, dN, dA, dS, kN, kA, kS, h1, hs, hf, hp, hn, ha, hvs, hm⟩ := id hV
    have ic := T_ins T
    walk_at "0"
    walk_at "4"
    walk_at "18"
    walk_at "16"
    walk_at "15"
    walk_at "11"
    walk_at "9"
    walk_at "69"
    walk_at "9"
    walk_at "7"
    walk_at "10"
    refine ⟨.ref a, .ref T.C_Vocabulary, _, _, true, rfl, .own _, .base (TyOf.ins h1 ic.cl ic.ha ic.hn ic.htk ic.hm), ic.me, ?_⟩
    walk_at "88"
    walk_at "89"
    walk_at "16"
    walk_at "15"
    walk_at "11"
    walk_at "9"
    walk_at "25"
    walk_at "69"
    refine v_fld h1 T.cl_Vocabulary T.na_Vocabulary_sorts hs.1 ?_
    walk_at "9"
    walk_at "7"
    walk_at "10"
    refine d_isTup hs.2 (d := .tuple (x.S.map PyData.str)) (by show ImAll _ = true; exact imStrs _) ?_
    walk_at "88"
    walk_at "89"
    walk_at "5"
    walk_at "0"
    walk_at "4"
    walk_at "18"
    walk_at "14"
    walk_at "8"
    walk_at "25"
    walk_at "69"
    refine v_fld h1 T.cl_Vocabulary T.na_Vocabulary_sorts hs.1 ?_
    walk_at "11"
    walk_at "9"
    walk_at "69"
    walk_at "10"
    refine d_tupl hv1.dp fun w1 H1 x1 hw1 => ?_
    skip
    refine d_neq (Dp.mono x1 hs.2) hw1 (ShD.tup (sh_S ok)) (by decide) ?_
    walk_at "88"
    walk_at "89"
    walk_at "14"
    walk_at "8"
    walk_at "25"
    walk_at "69"
    refine v_fld (x1 _ _ h1) T.cl_Vocabulary T.na_Vocabulary_functions hf.1 ?_
    walk_at "11"
    walk_at "9"
    walk_at "69"
    walk_at "10"
    refine d_tupl (hv2.mono x1).dp fun w2 H2 x2 hw2 => ?_
    skip
    have x12 := xtr x1 x2
    refine d_neq (Dp.mono x12 hf.2) hw2 (ShD.tup (sh_F ok)) (by decide) ?_
    walk_at "88"
    walk_at "89"
    walk_at "5"
    walk_at "0"
    walk_at "4"
    walk_at "14"
    walk_at "8"
    walk_at "25"
    walk_at "69"
    refine v_fld (x12 _ _ h1) T.cl_Vocabulary T.na_Vocabulary_predicates hp.1 ?_
    walk_at "11"
    walk_at "9"
    walk_at "69"
    walk_at "10"
    refine d_tupl (hv3.mono x12).dp fun w3 H3 x3 hw3 => ?_
    skip
    have x13 := xtr x12 x3
    refine d_neq (Dp.mono x13 hp.2) hw3 (ShD.tup (sh_P ok)) (by decide) ?_
    walk_at "88"
    walk_at "89"
    walk_at "5"
    walk_at "0"
    walk_at "37"
    walk_at "38"
    walk_at "69"
    walk_at "88"
    clear hw1 hw2 hw3 hs hf hp hn ha hvs
    have hle := ok.le
    unfold Lex.rows at hle
    simp only [List.length_append, List.length_map] at hle
    obtain ⟨b1, ys1, rfl, eb1, db1⟩ := hv1
    obtain ⟨b2, ys2, rfl, eb2, db2⟩ := hv2
    obtain ⟨b3, ys3, rfl, eb3, db3⟩ := hv3
    cases DpAll.strs_inv db1
    refine ⟨⟨_, sql (x13 _ _ hpp)⟩, for_list (xs := zs.map V.str) (fun i σ' H' => ∃ y5 y6 y7 y8, σ' = [some (.ref a), some (.ref b1), some (.ref b2), some (.ref b3), some (.ref pp), y5, y6, y7, y8, none] ∧ Xt H H') ⟨_, _, _, _, rfl, x13⟩ ?_ ?_ ?_⟩
    · rintro i σ' H' hi ⟨y5, y6, y7, y8, rfl, xx⟩
      exact sql (xx _ _ hpp)
    · clear x13 x3 x12 x2 x1
      rintro i y σ' H' hy ⟨y5, y6, y7, y8, rfl, xx⟩
      rw [List.getElem?_map] at hy
      cases hq : zs[i]? with
      | none => rw [hq] at hy; cases hy
      | some z =>
        rw [hq] at hy
        cases hy
        have l2 := db2.len
        have l3 := db3.len
        rw [List.length_map] at l2 l3
        walk_at "6"
        walk_at "0"
        walk_at "1"
        walk_at "51"
        walk_at "38"
        walk_at "8"
        walk_at "69"
        walk_at "69"
        refine v_plus_lst (xx _ _ eb2) (xx _ _ eb3) (szL (by omega)) fun p4 H4 n4 x4 e4 => ?_
        have X4 := xtr xx x4
        have dall := DpAll.app (DpAll.mono X4 db2) (DpAll.mono X4 db3)
        refine ⟨p4, rfl, ⟨_, sql e4⟩, ?_⟩
        refine b_datF walk_list (fun H' x => xl x (sql e4)) dall (hasHead z) (fun d => d) ?_ ?_ ?_ ?_
        · intro d hd
          rcases List.mem_append.mp hd with hd | hd
          · obtain ⟨r, _, rfl⟩ := List.mem_map.mp hd; exact im_fD r
          · obtain ⟨r, _, rfl⟩ := List.mem_map.mp hd; exact im_pD r
        · rw [List.length_append, List.length_map, List.length_map]; omega
        · intro v d H' hv hd xd R R0 hT hF
          have key : ∀ {Q : VK}, Q (.str (headS d)) H' → rIx K v (.int 0) H' Q := fun {Q} q => by
            rcases List.mem_append.mp hd with hd | hd
            · obtain ⟨r, _, rfl⟩ := List.mem_map.mp hd
              exact d_ix hv (atI_nat (j := 0) rfl) fun w hw => by cases Dp.str_inv hw; exact q
            · obtain ⟨r, _, rfl⟩ := List.mem_map.mp hd
              exact d_ix hv (atI_nat (j := 0) rfl) fun w hw => by cases Dp.str_inv hw; exact q
          walk_at "6"
          refine ⟨rfl, ?_⟩
          walk_at "14"
          walk_at "8"
          walk_at "8"
          walk_at "69"
          walk_at "7"
          refine key ?_
          walk_at "69"
          walk_at "75"
          walk_at "88"
          refine k_if (fun g => ?_) (fun g => ?_)
          · walk_at "69"
            exact hT (decide_eq_true (by injection g)) v H' (xrefl _) hv
          · exact hF (decide_eq_false (fun q => g (by rw [q]))) H' (xrefl _)
        · intro D ys H5 hD x5 e5 d5
          rw [List.map_id'] at d5
          have X5 := xtr X4 x5
          have d5 : DpAll K H5 ys (places x z) := d5
          have hpl := d5.len
          have hV5 := hV.mono X5
          have hpi := places_in x z
          clear dall e4 x4 X4 x5 n4
          walk_at "6"
          walk_at "0"
          walk_at "4"
          walk_at "14"
          walk_at "8"
          walk_at "8"
          walk_at "69"
          walk_at "69"
          refine ⟨a, dx, fs, rfl, X5 _ _ h1, ⟨a, z, x, rfl, hV5, ?_⟩⟩
          walk_at "88"
          walk_at "20"
          walk_at "8"
          walk_at "69"
          walk_at "69"
          refine in_strs (X5 _ _ eb1) ?_
          apply share
          case g2 =>
            intro go
            walk_at "88"
            refine k_if (fun g1 => ?_) (fun g1 => ?_)
            · walk_at "76"
              walk_at "88"
              refine k_ifn (fun g => absurd (congrArg V.bl ?_) g) (fun _ => go.out)
              rw [hpi, decide_eq_true g1, Bool.true_or]
            · walk_at "8"
              walk_at "11"
              walk_at "9"
              walk_at "69"
              walk_at "10"
              walk_at "77"
              walk_at "7"
              walk_at "55"
              walk_at "76"
              walk_at "88"
              refine k_ifn (fun g => absurd (congrArg V.bl ?_) g) (fun _ => go.out)
              rw [hpi, decide_eq_false g1, Bool.false_or, ← hpl]
              exact decide_eq_decide.mpr (by omega)
          case g1 =>
            obtain ⟨dx9, fs9, s9, f9, p9, dN9, dA9, dS9, kN9, kA9, kS9, h19, _, _, _, _, _, _, hm9⟩ := id hV5
            walk_at "5"
            walk_at "0"
            walk_at "1"
            walk_at "30"
            walk_at "69"
            refine ⟨a, dx9, fs9, rfl, h19, hm9 _ (by decide), ?_⟩
            walk_at "9"
            walk_at "69"
            walk_at "10"
            refine ⟨a, z, x, rfl, hV5, fun u1 hu1 => ?_⟩
            walk_at "6"
            walk_at "0"
            walk_at "1"
            walk_at "30"
            walk_at "69"
            refine ⟨a, dx9, fs9, rfl, h19, hm9 _ (by decide), ?_⟩
            walk_at "9"
            walk_at "69"
            walk_at "10"
            refine ⟨a, z, x, rfl, hV5, fun u2 hu2 => ?_⟩
            walk_at "6"
            walk_at "0"
            walk_at "4"
            walk_at "18"
            walk_at "14"
            walk_at "8"
            refine k_methN ?_
            walk_at "69"
            refine ⟨a, dx9, fs9, rfl, h19, hm9 _ (by decide), ?_⟩
            walk_at "9"
            walk_at "69"
            walk_at "10"
            refine ⟨rfl, ?_⟩
            refine ⟨a, z, x, rfl, hV5, fun u3 hu3 => ?_⟩
            walk_at "69"
            refine d_neq hu3 hu1 (sh_args ok z) (by decide) ?_
            walk_at "88"
            walk_at "89"
            walk_at "14"
            walk_at "8"
            refine k_methN ?_
            walk_at "69"
            refine ⟨a, dx9, fs9, rfl, h19, hm9 _ (by decide), ?_⟩
            walk_at "9"
            walk_at "69"
            walk_at "10"
            refine ⟨rfl, ?_⟩
            refine ⟨a, z, x, rfl, hV5, fun u4 hu4 => ?_⟩
            walk_at "69"
            refine d_neq hu4 hu2 (sh_sort ok z) (by decide) ?_
            walk_at "88"
            walk_at "89"
            walk_at "5"
            walk_at "4"
            walk_at "14"
            walk_at "8"
            walk_at "11"
            walk_at "9"
            walk_at "69"
            walk_at "10"
            walk_at "77"
            walk_at "7"
            walk_at "75"
            walk_at "88"
            refine k_if (fun g2 => ?_) (fun g2 => ?_)
            · have hp0 : (places x z).length = 0 := by
                rw [← hpl]
                injection g2 with g2; omega
              obtain ⟨ta, ts⟩ := places_nil hp0
              rw [ta] at hu1
              rw [ts] at hu2
              cases Dp.non_inv hu1
              cases Dp.non_inv hu2
              walk_at "4"
              walk_at "18"
              walk_at "14"
              walk_at "8"
              walk_at "69"
              walk_at "7"
              walk_at "64"
              walk_at "88"
              walk_at "89"
              walk_at "14"
              walk_at "8"
              walk_at "69"
              walk_at "7"
              walk_at "64"
              walk_at "88"
              walk_at "89"
              walk_at "5"
              exact ⟨_, _, _, _, rfl, X5⟩
            · have hp0 : 0 < (places x z).length := by
                rcases Nat.eq_zero_or_pos (places x z).length with h | h
                · rw [← hpl] at h; exact absurd (by rw [h]; rfl) g2
                · exact h
              have hd0 : (places x z)[0]? = some ((places x z)[0]'hp0) := List.getElem?_eq_getElem hp0
              generalize (places x z)[0]'hp0 = d0 at hd0
              obtain ⟨v0, hv0, dv0⟩ := DpAll.get d5 hd0
              have ea0 : atI ys 0 = some v0 := atI_nat (j := 0) hv0
              rcases places_fst hc hd0 with ⟨r, hr5, rfl, ta, ts⟩ | ⟨r, hr5, rfl, ta, ts⟩
              · have sa := sh_args ok z
                have ss := sh_sort ok z
                rw [ta] at hu1 sa
                rw [ts] at hu2 ss
                walk_at "4"
                walk_at "18"
                walk_at "14"
                walk_at "8"
                walk_at "69"
                walk_at "8"
                walk_at "8"
                walk_at "69"
                walk_at "7"
                walk_at "79"
                walk_at "7"
                refine d_ix dv0 (atI_nat (j := 1) rfl) fun w6 hw6 => ?_
                skip
                refine d_neq hu1 hw6 sa (by decide) ?_
                walk_at "88"
                walk_at "89"
                walk_at "14"
                walk_at "8"
                walk_at "69"
                walk_at "8"
                walk_at "8"
                walk_at "11"
                walk_at "9"
                walk_at "8"
                walk_at "69"
                walk_at "7"
                walk_at "79"
                walk_at "10"
                refine d_lstl (.inr dv0) fun p6 ys6 H6 n6 x6 e6 hd6 => ?_
                obtain ⟨z1, r1, rfl, q1, hr1⟩ := DpAll.cons_inv hd6
                obtain ⟨z2, r2, rfl, q2, hr2⟩ := DpAll.cons_inv hr1
                obtain ⟨z3, r3, rfl, q3, hr3⟩ := DpAll.cons_inv hr2
                cases DpAll.nil_inv hr3
                walk_at "34"
                walk_at "9"
                walk_at "7"
                walk_at "10"
                walk_at "82"
                intro p7 H7 n7 x7 e7
                refine v_plus_lst (x7 _ _ e6) e7 (szL (Nat.le_of_ble_eq_true rfl)) fun p8 H8 n8 x8 e8 => ?_
                walk_at "7"
                refine v_ix_l (sql e8) (v := z3) rfl ?_
                have X8 := xtr x6 (xtr x7 x8)
                refine d_neq (Dp.mono X8 hu2) (Dp.mono (xtr x7 x8) q3) ss (by decide) ?_
                walk_at "88"
                walk_at "89"
                walk_at "5"
                exact ⟨_, _, _, _, rfl, xtr X5 X8⟩
              · have sa := sh_args ok z
                have ss := sh_sort ok z
                rw [ta] at hu1 sa
                rw [ts] at hu2 ss
                walk_at "4"
                walk_at "18"
                walk_at "14"
                walk_at "8"
                walk_at "69"
                walk_at "8"
                walk_at "8"
                walk_at "69"
                walk_at "7"
                walk_at "79"
                walk_at "7"
                refine d_ix dv0 (atI_nat (j := 1) rfl) fun w6 hw6 => ?_
                skip
                refine d_neq hu1 hw6 sa (by decide) ?_
                walk_at "88"
                walk_at "89"
                walk_at "14"
                walk_at "8"
                walk_at "69"
                walk_at "8"
                walk_at "8"
                walk_at "11"
                walk_at "9"
                walk_at "8"
                walk_at "69"
                walk_at "7"
                walk_at "79"
                walk_at "10"
                refine d_lstl (.inr dv0) fun p6 ys6 H6 n6 x6 e6 hd6 => ?_
                obtain ⟨z1, r1, rfl, q1, hr1⟩ := DpAll.cons_inv hd6
                obtain ⟨z2, r2, rfl, q2, hr2⟩ := DpAll.cons_inv hr1
                cases DpAll.nil_inv hr2
                walk_at "34"
                walk_at "9"
                walk_at "7"
                walk_at "10"
                walk_at "82"
                intro p7 H7 n7 x7 e7
                refine v_plus_lst (x7 _ _ e6) e7 (szL (Nat.le_of_ble_eq_true rfl)) fun p8 H8 n8 x8 e8 => ?_
                walk_at "7"
                refine v_ix_l (sql e8) (v := .str "truth") rfl ?_
                have X8 := xtr x6 (xtr x7 x8)
                refine d_neq (Dp.mono X8 hu2) (Dp.str _) ss (by decide) ?_
                walk_at "88"
                walk_at "89"
                walk_at "5"
                exact ⟨_, _, _, _, rfl, xtr X5 X8⟩
    · rintro σ' H' ⟨y5, y6, y7, y8, rfl, xx⟩
      walk_at "2"
      walk_at "7"
      exact q H' xx


theorem ok_Vocabulary___init__ (T : Top0 P K mg) : FnOk P w K mg base (L2.CX P w) 4 T.f_Vocabulary___init__ T.fd_Vocabulary___init__ ["self", "sorts", "functions", "predicates"] (sp_Vocabulary___init__ T) := by
  refine T.F_Vocabulary___init__.okX sc_Vocabulary___init__ (fun vs H Q E h => ?_) (fun cdv A outer s H vs Q E hr h => ?_)
  · obtain ⟨a, dx, v1, v2, v3, x, rfl, hA, hv1, hv2, hv3, ok, q1, q2⟩ := h
    rfl
  · obtain ⟨a, dx, v1, v2, v3, x, rfl, hA, hv1, hv2, hv3, ok, q1, q2⟩ := h
    refine ⟨_, (pss_cons (ps_fld (pv 0) (pe_callTy (r := rTup K) call_tupU (by rfl) T.n_tuple (by decide +kernel) (pa_cons (pv 1) pa_nil)) rfl)
      (pss_cons (ps_fld (pv 0) (pe_callTy (r := rTup K) call_tupU (by rfl) T.n_tuple (by decide +kernel) (pa_cons (pe_lc (own := [("name", 4), ("arguments", 10), ("sort", 5)]) (g := gTup K 3 (gCons (gName 4) (gCons (gName 10) (gCons (gName 5) gNil)))) rfl sc_Vocabulary___init__.nd (pi_seq (pv 2)) (blkOk_by (N := N_Vocabulary___init__) (sc := defScope s_Vocabulary___init__) (by decide +kernel)) (fun _ _ _ _ _ => (pg_tup rfl (pgs_cons (pg_name (i := 4) sc_Vocabulary___init__.nd rfl (Or.inl rfl)) (pgs_cons (pg_name (i := 10) sc_Vocabulary___init__.nd rfl (Or.inl rfl)) (pgs_cons (pg_name (i := 5) sc_Vocabulary___init__.nd rfl (Or.inl rfl)) pgs_nil))))) (fun _ _ _ _ _ => pts_nil) (fun _ _ _ _ _ => (pe_tup (pa_cons (pv 4) (pa_cons (pe_callTy (r := rTup K) call_tupU (by rfl) T.n_tuple (by decide +kernel) (pa_cons (pv 10) pa_nil)) (pa_cons (pv 5) pa_nil)))))) pa_nil)) rfl)
      (pss_cons (ps_fld (pv 0) (pe_callTy (r := rTup K) call_tupU (by rfl) T.n_tuple (by decide +kernel) (pa_cons (pe_lc (own := [("name", 4), ("arguments", 10)]) (g := gTup K 2 (gCons (gName 4) (gCons (gName 10) gNil))) rfl sc_Vocabulary___init__.nd (pi_seq (pv 3)) (blkOk_by (N := N_Vocabulary___init__) (sc := defScope s_Vocabulary___init__) (by decide +kernel)) (fun _ _ _ _ _ => (pg_tup rfl (pgs_cons (pg_name (i := 4) sc_Vocabulary___init__.nd rfl (Or.inl rfl)) (pgs_cons (pg_name (i := 10) sc_Vocabulary___init__.nd rfl (Or.inl rfl)) pgs_nil)))) (fun _ _ _ _ _ => pts_nil) (fun _ _ _ _ _ => (pe_tup (pa_cons (pv 4) (pa_cons (pe_callTy (r := rTup K) call_tupU (by rfl) T.n_tuple (by decide +kernel) (pa_cons (pv 10) pa_nil)) pa_nil))))) pa_nil)) rfl)
      (pss_cons (ps_setLc (i := 6) (own := [("name", 4)]) (g := gName 4) rfl sc_Vocabulary___init__.nd rfl rfl (sw_true rfl rfl rfl (by decide +kernel)) (pi_tup (show PE _ _ (tFld K _ _) from pe_fld (pv 0) rfl)) (blkOk_by (N := N_Vocabulary___init__) (sc := defScope s_Vocabulary___init__) (by decide +kernel)) (fun _ _ _ _ _ => (pg_name (i := 4) sc_Vocabulary___init__.nd rfl (Or.inl rfl))) (fun _ _ _ _ _ => pts_nil) (fun _ _ _ _ _ => (pe_tup (pa_cons (pv 4) (pa_cons (pe_tup pa_nil) pa_nil)))))
      (pss_cons (ps_expr (pe_bm PySem.F.plainAttrs_list PySem.F.slot_list_extend PySem.F.type_list_extend mt_extU (pv 6) (pa_cons (pe_lc (own := [("name", 4), ("arguments", 10), ("sort", 5)]) (g := gTup K 3 (gCons (gName 4) (gCons (gName 10) (gCons (gName 5) gNil)))) rfl sc_Vocabulary___init__.nd (pi_tup (show PE _ _ (tFld K _ _) from pe_fld (pv 0) rfl)) (blkOk_by (N := N_Vocabulary___init__) (sc := defScope s_Vocabulary___init__) (by decide +kernel)) (fun _ _ _ _ _ => (pg_tup rfl (pgs_cons (pg_name (i := 4) sc_Vocabulary___init__.nd rfl (Or.inl rfl)) (pgs_cons (pg_name (i := 10) sc_Vocabulary___init__.nd rfl (Or.inl rfl)) (pgs_cons (pg_name (i := 5) sc_Vocabulary___init__.nd rfl (Or.inl rfl)) pgs_nil))))) (fun _ _ _ _ _ => pts_nil) (fun _ _ _ _ _ => (pe_tup (pa_cons (pv 4) (pa_cons (pe_op (r := rPlus K) op_plus (pv 10) (pe_tup (pa_cons (pv 5) pa_nil))) pa_nil))))) pa_nil)))
      (pss_cons (ps_expr (pe_bm PySem.F.plainAttrs_list PySem.F.slot_list_extend PySem.F.type_list_extend mt_extU (pv 6) (pa_cons (show PE _ _ (tFld K _ _) from pe_fld (pv 0) rfl) pa_nil)))
      (pss_cons (ps_expr (pe_callS (ok__check_rows T) (hr.mono (by first | decide | exact Nat.le_refl _ | omega | (show _ ≤ _ + n; omega))) (by rfl) T.g__check_rows T.F__check_rows.kp T.b__check_rows (fun σ => passAt (takes_of rfl rfl rfl rfl) σ) (pa_cons (pv 6) (pa_cons (show PE _ _ (tFld K _ _) from pe_fld (pv 0) rfl) pa_nil))))
      (pss_cons (ps_fld (pv 0) (pe_dc (own := [("row", 9)]) (g := gName 9) rfl sc_Vocabulary___init__.nd (pi_list (pv 6)) (blkOk_by (N := N_Vocabulary___init__) (sc := defScope s_Vocabulary___init__) (by decide +kernel)) (fun _ _ _ _ _ => (pg_name (i := 9) sc_Vocabulary___init__.nd rfl (Or.inl rfl))) (fun _ _ _ _ _ => pts_nil) (fun _ _ _ _ _ => (pe_ix (r := rIx K) ix_seq (pv 9) pe_int (fun _ _ => rfl))) (fun _ _ _ _ _ => pe_bl)) rfl)
      (pss_cons (ps_fld (pv 0) (pe_dc (own := [("row", 9)]) (g := gName 9) rfl sc_Vocabulary___init__.nd (pi_tup (pe_op (r := rPlus K) op_plus (show PE _ _ (tFld K _ _) from pe_fld (pv 0) rfl) (show PE _ _ (tFld K _ _) from pe_fld (pv 0) rfl))) (blkOk_by (N := N_Vocabulary___init__) (sc := defScope s_Vocabulary___init__) (by decide +kernel)) (fun _ _ _ _ _ => (pg_name (i := 9) sc_Vocabulary___init__.nd rfl (Or.inl rfl))) (fun _ _ _ _ _ => pts_nil) (fun _ _ _ _ _ => (pe_ix (r := rIx K) ix_seq (pv 9) pe_int (fun _ _ => rfl))) (fun _ _ _ _ _ => (pe_ix (r := rIx K) ix_seq (pv 9) pe_int (fun _ _ => rfl)))) rfl)
      (pss_cons (ps_setDc (i := 8) (own := [("name", 4), ("_", 7)]) (g := gTup K 2 (gCons (gName 4) (gCons (gName 7) gNil))) rfl sc_Vocabulary___init__.nd rfl rfl (sw_trueD rfl rfl rfl (by decide +kernel)) (pi_tup (show PE _ _ (tFld K _ _) from pe_fld (pv 0) rfl)) (blkOk_by (N := N_Vocabulary___init__) (sc := defScope s_Vocabulary___init__) (by decide +kernel)) (fun _ _ _ _ _ => (pg_tup rfl (pgs_cons (pg_name (i := 4) sc_Vocabulary___init__.nd rfl (Or.inl rfl)) (pgs_cons (pg_name (i := 7) sc_Vocabulary___init__.nd rfl (Or.inl rfl)) pgs_nil)))) (fun _ _ _ _ _ => pts_nil) (fun _ _ _ _ _ => (pv 4)) (fun _ _ _ _ _ => (pe_glob (v := .str "truth") (by rfl) T.c_TRUTH_SORT ⟨_, rfl⟩)))
      (pss_cons (ps_for (passes_of rfl) rfl (pi_tup (show PE _ _ (tFld K _ _) from pe_fld (pv 0) rfl)) (pg_tup rfl (pgs_cons (pg_name (i := 4) sc_Vocabulary___init__.nd rfl (Or.inl rfl)) (pgs_cons (pg_name (i := 7) sc_Vocabulary___init__.nd rfl (Or.inl rfl)) (pgs_cons (pg_name (i := 5) sc_Vocabulary___init__.nd rfl (Or.inl rfl)) pgs_nil)))) (pss_one (ps_dput (hu_of hr) (pv 8) (pv 4) (pv 5) rfl)))
      (pss_one (ps_fld (pv 0) (pv 8) rfl))))))))))))), ?_⟩
    have hlen := ok.le
    unfold Lex.rows at hlen
    rw [List.length_append, List.length_append, List.length_map, List.length_map] at hlen
    walk_at "0"
    walk_at "26"
    walk_at "11"
    walk_at "9"
    walk_at "69"
    walk_at "10"
    refine ds_tup hv1 fun s1 H1 x1 hs1 => ?_
    walk_at "69"
    refine v_sfld (x1 _ _ hA) T.cl_Vocabulary T.na_Vocabulary_sorts (by decide) ?_
    have i1 := x1 _ _ hA
    have hs1' := dpa i1 (xa_upd (o := .ins T.C_Vocabulary dx (putF "sorts" s1 []))) hs1
    have hv2' := (hv2.mono x1).to fun _ h => dpa i1 (xa_upd (o := .ins T.C_Vocabulary dx (putF "sorts" s1 []))) h
    have hv3' := (hv3.mono x1).to fun _ h => dpa i1 (xa_upd (o := .ins T.C_Vocabulary dx (putF "sorts" s1 []))) h
    have xa1 : Xa a H (upd H1 a (.ins T.C_Vocabulary dx (putF "sorts" s1 []))) := xa_tr (xa_of x1) xa_upd
    have i2 : (upd H1 a (.ins T.C_Vocabulary dx (putF "sorts" s1 []))) a = some (.ins T.C_Vocabulary dx (putF "sorts" s1 [])) := upd_same
    generalize upd H1 a (.ins T.C_Vocabulary dx (putF "sorts" s1 [])) = H2 at hs1' hv2' hv3' xa1 i2
    have l1 : (putF "sorts" s1 ([] : List (Str × V))).length = 1 := rfl
    have hk1 : ∀ g : Str, (putF "sorts" s1 ([] : List (Str × V))).lookup g = if g = "sorts" then some s1 else none := fun g => lookup_putF _ _ _ _
    generalize putF "sorts" s1 [] = F1 at i2 l1 hk1
    clear hs1 i1 x1 hA hv1 hv2 hv3
    walk_at "0"
    walk_at "26"
    walk_at "11"
    walk_at "9"
    walk_at "51"
    refine k_iseq ?_
    walk_at "69"
    refine ds_seq hv2' fun xs2 J2 G2 wk2 hG2 hd2 => b_dat wk2 hG2 hd2 (fun d => d) ?_ ?_ ?_ ?_ (gm_tup (gsm_cons (gsm_cons (gsm_cons gsm_nil))))
    · intro d hd
      obtain ⟨r, _, rfl⟩ := List.mem_map.mp hd
      exact im_fD r
    · rw [List.length_map]; omega
    · intro v d H' hv hd xx R hR
      obtain ⟨r, hr9, rfl⟩ := List.mem_map.mp hd
      refine k_gtup hv rfl fun ws hws => ?_
      refine k_gcons hws fun w1 ws1 hw1 hws1 => ?_
      refine k_gcons hws1 fun w2 ws2 hw2 hws2 => ?_
      refine k_gcons hws2 fun w3 ws3 hw3 hws3 => ?_
      refine k_gnil hws3 ⟨rfl, ?_⟩
      walk_at "35"
      walk_at "9"
      walk_at "69"
      walk_at "9"
      walk_at "11"
      walk_at "9"
      walk_at "69"
      walk_at "10"
      refine d_tupt hw2 ?_
      walk_at "9"
      walk_at "69"
      walk_at "10"
      walk_at "83"
      exact fun p'' H'' _ x'' e'' => hR _ _ x'' (.of_tup e'' (DpAll.mono x'' (.cons hw1 (.cons hw2 (.cons hw3 .nil)))))
    intro D2 ys2 H3 hD2 x3 e3 hys2
    rw [List.map_id'] at hys2
    walk_at "10"
    refine d_tupl (.of_lst e3 hys2) fun s2 H4 x4 hs2 => ?_
    walk_at "69"
    have x34 := xtr x3 x4
    have i4 := x34 _ _ i2
    refine v_sfld i4 T.cl_Vocabulary T.na_Vocabulary_functions (by omega) ?_
    have hs1'' := dpa i4 (xa_upd (o := .ins T.C_Vocabulary dx (putF "functions" s2 F1))) (Dp.mono x34 hs1')
    have hs2' := dpa i4 (xa_upd (o := .ins T.C_Vocabulary dx (putF "functions" s2 F1))) hs2
    have hv3'' := (hv3'.mono x34).to fun _ h => dpa i4 (xa_upd (o := .ins T.C_Vocabulary dx (putF "functions" s2 F1))) h
    have xa2 : Xa a H (upd H4 a (.ins T.C_Vocabulary dx (putF "functions" s2 F1))) := xa_tr xa1 (xa_tr (xa_of x34) xa_upd)
    have i5 : (upd H4 a (.ins T.C_Vocabulary dx (putF "functions" s2 F1))) a = some (.ins T.C_Vocabulary dx (putF "functions" s2 F1)) := upd_same
    generalize upd H4 a (.ins T.C_Vocabulary dx (putF "functions" s2 F1)) = H5 at hs1'' hs2' hv3'' xa2 i5
    have l2 : (putF "functions" s2 F1).length ≤ 2 := by
      have := putF_len "functions" s2 F1; omega
    have hk2 : ∀ g : Str, (putF "functions" s2 F1).lookup g = if g = "functions" then some s2 else if g = "sorts" then some s1 else none := fun g => by rw [lookup_putF, hk1]
    generalize putF "functions" s2 F1 = F2 at i5 l2 hk2
    clear hs2 i4 x34 x4 x3 e3 hys2 hs1' hd2 hG2 wk2 hv2' hv3' i2 xa1 hD2
    walk_at "0"
    walk_at "26"
    walk_at "11"
    walk_at "9"
    walk_at "51"
    refine k_iseq ?_
    walk_at "69"
    refine ds_seq hv3'' fun xs3 J3 G3 wk3 hG3 hd3' => b_dat wk3 hG3 hd3' (fun d => d) ?_ ?_ ?_ ?_ (gm_tup (gsm_cons (gsm_cons gsm_nil)))
    · intro d hd
      obtain ⟨r, _, rfl⟩ := List.mem_map.mp hd
      exact im_pD r
    · rw [List.length_map]; omega
    · intro v d H' hv hd xx R hR
      obtain ⟨r, hr9, rfl⟩ := List.mem_map.mp hd
      refine k_gtup hv rfl fun ws hws => ?_
      refine k_gcons hws fun w1 ws1 hw1 hws1 => ?_
      refine k_gcons hws1 fun w2 ws2 hw2 hws2 => ?_
      refine k_gnil hws2 ⟨rfl, ?_⟩
      walk_at "35"
      walk_at "9"
      walk_at "69"
      walk_at "9"
      walk_at "11"
      walk_at "9"
      walk_at "69"
      walk_at "10"
      refine d_tupt hw2 ?_
      walk_at "10"
      walk_at "83"
      exact fun p'' H'' _ x'' e'' => hR _ _ x'' (.of_tup e'' (DpAll.mono x'' (.cons hw1 (.cons hw2 .nil))))
    intro D3 ys3 H6 hD3 x6 e6 hys3
    rw [List.map_id'] at hys3
    walk_at "10"
    refine d_tupl (.of_lst e6 hys3) fun s3 H7 x7 hs3 => ?_
    walk_at "69"
    have x67 := xtr x6 x7
    have i7 := x67 _ _ i5
    refine v_sfld i7 T.cl_Vocabulary T.na_Vocabulary_predicates (by omega) ?_
    have hs1 := dpa i7 (xa_upd (o := .ins T.C_Vocabulary dx (putF "predicates" s3 F2))) (Dp.mono x67 hs1'')
    have hs2 := dpa i7 (xa_upd (o := .ins T.C_Vocabulary dx (putF "predicates" s3 F2))) (Dp.mono x67 hs2')
    have hs3' := dpa i7 (xa_upd (o := .ins T.C_Vocabulary dx (putF "predicates" s3 F2))) hs3
    have xa3 : Xa a H (upd H7 a (.ins T.C_Vocabulary dx (putF "predicates" s3 F2))) := xa_tr xa2 (xa_tr (xa_of x67) xa_upd)
    have i8 : (upd H7 a (.ins T.C_Vocabulary dx (putF "predicates" s3 F2))) a = some (.ins T.C_Vocabulary dx (putF "predicates" s3 F2)) := upd_same
    generalize upd H7 a (.ins T.C_Vocabulary dx (putF "predicates" s3 F2)) = H8 at hs1 hs2 hs3' xa3 i8
    have l3 : (putF "predicates" s3 F2).length ≤ 3 := by
      have := putF_len "predicates" s3 F2; omega
    have hk3 : ∀ g : Str, (putF "predicates" s3 F2).lookup g = if g = "predicates" then some s3 else if g = "functions" then some s2 else if g = "sorts" then some s1 else none := fun g => by rw [lookup_putF, hk2]
    generalize putF "predicates" s3 F2 = F3 at i8 l3 hk3
    clear hs3 i7 x67 x7 x6 e6 hys3 hd3' hG3 wk3 hv3'' hs1'' hs2' i5 xa2 hD3 hk1 hk2 l1 l2
    have k3s : F3.lookup ("sorts" : Str) = some s1 := by rw [hk3]; rfl
    have k3f : F3.lookup ("functions" : Str) = some s2 := by rw [hk3]; rfl
    have k3p : F3.lookup ("predicates" : Str) = some s3 := by rw [hk3]; rfl
    obtain ⟨b1, ys1, rfl, hT1, hc1⟩ := Dp.tup_inv hs1
    walk_at "0"
    walk_at "1"
    walk_at "51"
    walk_at "39"
    walk_at "25"
    walk_at "69"
    refine v_fld i8 T.cl_Vocabulary T.na_Vocabulary_sorts k3s ?_
    walk_at "88"
    refine ⟨⟨_, hT1⟩, b_dat walk_tup (fun H' x' => xt x' hT1) hc1 rowS ?_ ?_ ?_ ?_ gm_name⟩
    · intro d hd
      obtain ⟨z, _, rfl⟩ := List.mem_map.mp hd
      rfl
    · rw [List.length_map]; have := ok.slen; omega
    · intro v d H' hv hd xx R hR
      obtain ⟨z, _, rfl⟩ := List.mem_map.mp hd
      cases Dp.str_inv hv
      walk_at "6"
      refine ⟨rfl, ?_⟩
      walk_at "35"
      walk_at "9"
      walk_at "69"
      walk_at "9"
      walk_at "35"
      walk_at "10"
      walk_at "83"
      intro p9 H9 _ x9 e9
      have hv9 : Dp K H9 (.ref p9) (.tuple []) := .of_tup e9 .nil
      walk_at "10"
      walk_at "83"
      exact fun p'' H'' _ x'' e'' => hR _ _ (xtr x9 x'') (.of_tup e'' (DpAll.mono x'' (.cons (.str z) (.cons hv9 .nil))))
    intro rw_ ysr H9 hDr x9 er hysr
    have i9 := x9 _ _ i8
    have hs2 := Dp.mono x9 hs2
    obtain ⟨b2, ys2', rfl, hT2, hc2⟩ := Dp.tup_inv hs2
    walk_at "6"
    walk_at "0"
    walk_at "3"
    walk_at "36"
    walk_at "69"
    refine ⟨ty_l er, ?_⟩
    walk_at "9"
    walk_at "51"
    walk_at "39"
    walk_at "25"
    walk_at "69"
    refine v_fld i9 T.cl_Vocabulary T.na_Vocabulary_functions k3f ?_
    walk_at "88"
    refine ⟨⟨_, hT2⟩, b_dat walk_tup (fun H' x' => xt x' hT2) hc2 rowF ?_ ?_ ?_ ?_ (gm_tup (gsm_cons (gsm_cons (gsm_cons gsm_nil))))⟩
    · intro d hd
      obtain ⟨r, _, rfl⟩ := List.mem_map.mp hd
      have h := imStrs r.2.1
      show Im (.tuple [.str r.1, .tuple (r.2.1.map PyData.str ++ [.str r.2.2])]) = true
      have := im_pD (r.1, r.2.1 ++ [r.2.2])
      unfold pD at this
      rw [List.map_append] at this
      exact this
    · rw [List.length_map]; omega
    · intro v d H' hv hd xx R hR
      obtain ⟨r, hr9, rfl⟩ := List.mem_map.mp hd
      refine k_gtup hv rfl fun ws hws => ?_
      refine k_gcons hws fun w1 ws1 hw1 hws1 => ?_
      refine k_gcons hws1 fun w2 ws2 hw2 hws2 => ?_
      refine k_gcons hws2 fun w3 ws3 hw3 hws3 => ?_
      refine k_gnil hws3 ⟨rfl, ?_⟩
      walk_at "35"
      walk_at "9"
      walk_at "69"
      walk_at "9"
      walk_at "8"
      walk_at "69"
      walk_at "35"
      walk_at "9"
      walk_at "69"
      walk_at "10"
      walk_at "83"
      intro p9 H9 _ x9 e9
      have hv9 : Dp K H9 (.ref p9) (.tuple [.str r.2.2]) := .of_tup e9 (DpAll.mono x9 (.cons hw3 .nil))
      skip
      refine d_plus (Dp.mono x9 hw2) hv9 ?_ fun v4 H10 x10 hv10 => ?_
      · have := ok.wl (r.1, r.2.1 ++ [r.2.2]) (by unfold Lex.rows; exact List.mem_append_left _ (List.mem_append_right _ (List.mem_map.mpr ⟨r, by assumption, rfl⟩)))
        simp only [List.length_append, List.length_cons, List.length_nil, List.length_map] at this ⊢
        omega
      walk_at "10"
      walk_at "83"
      exact fun p'' H'' _ x'' e'' => hR _ _ (xtr (xtr x9 x10) x'') (.of_tup e'' (DpAll.mono x'' (.cons (Dp.mono (xtr x9 x10) hw1) (.cons hv10 .nil))))
    intro De yse H10 hDe x10 ee hyse
    walk_at "10"
    have er10 := x10 _ _ er
    have hysr10 := DpAll.mono x10 hysr
    have hlr := hysr.len
    have hle := hyse.len
    rw [List.length_map, List.length_map] at hlr hle
    have hsl := ok.slen
    refine v_extU er10 ee (by omega) ?_
    have imr : ImAll ((x.S.map PyData.str).map rowS ++ (x.F.map fD).map rowF ++ x.P.map pD) = true := by
      rw [rows_map]
      exact imAll_iff.mpr fun d hd => by
        obtain ⟨r, _, rfl⟩ := List.mem_map.mp hd
        exact im_pD r
    have imr2 : ImAll ((x.S.map PyData.str).map rowS ++ (x.F.map fD).map rowF) = true := imAll_iff.mpr fun d hd => imAll_iff.mp imr d (List.mem_append_left _ hd)
    have hr11 : DpAll K (upd H10 rw_ (.lst (ysr ++ yse))) (ysr ++ yse) ((x.S.map PyData.str).map rowS ++ (x.F.map fD).map rowF) := DpAll.im (fun _ _ h => SqT.upd er10 h) imr2 (DpAll.app hysr10 hyse)
    have er11 : (upd H10 rw_ (.lst (ysr ++ yse))) rw_ = some (.lst (ysr ++ yse)) := upd_same
    have xa11 : Xa a H (upd H10 rw_ (.lst (ysr ++ yse))) := xa_mut (xa_tr xa3 (xa_of (xtr x9 x10))) (xa_free xa3 i8 hDr)
    have sp11 : ∀ p xs, SqT K H8 p xs → SqT K (upd H10 rw_ (.lst (ysr ++ yse))) p xs := fun p xs h => SqT.upd er10 (xt (xtr x9 x10) h)
    have i11 : (upd H10 rw_ (.lst (ysr ++ yse))) a = some (.ins T.C_Vocabulary dx F3) := by
      rw [upd_ne (fun h => by have := x9 _ _ i8; rw [h, er] at this; cases this)]
      exact x10 _ _ i9
    have hs1_11 := Dp.im (H' := upd H10 rw_ (.lst (ysr ++ yse))) sp11 (by show ImAll _ = true; exact imStrs _) hs1
    have hs2_11 := Dp.im (H' := upd H10 rw_ (.lst (ysr ++ yse))) (fun p xs h => SqT.upd er10 (xt x10 h)) (by show ImAll _ = true; exact imAll_iff.mpr fun d hd => by obtain ⟨r, _, rfl⟩ := List.mem_map.mp hd; exact im_fD r) hs2
    have hs3_11 := Dp.im (H' := upd H10 rw_ (.lst (ysr ++ yse))) sp11 (by show ImAll _ = true; exact imAll_iff.mpr fun d hd => by obtain ⟨r, _, rfl⟩ := List.mem_map.mp hd; exact im_pD r) hs3'
    have hrf : H rw_ = none := xa_free xa3 i8 hDr
    generalize upd H10 rw_ (.lst (ysr ++ yse)) = H11 at hr11 er11 xa11 i11 hs1_11 hs2_11 hs3_11
    walk_at "0"
    walk_at "3"
    walk_at "36"
    walk_at "69"
    refine ⟨ty_l er11, ?_⟩
    walk_at "9"
    walk_at "25"
    walk_at "69"
    refine v_fld i11 T.cl_Vocabulary T.na_Vocabulary_predicates k3p ?_
    walk_at "10"
    obtain ⟨b3, ys3', rfl, hT3, hc3⟩ := Dp.tup_inv hs3_11
    have hc3l := hc3.len
    rw [List.length_map] at hc3l
    refine v_extT er11 hT3 (by rw [List.length_append]; omega) ?_
    have hr12 : DpAll K (upd H11 rw_ (.lst (ysr ++ yse ++ ys3'))) (ysr ++ yse ++ ys3') (x.rows.map pD) := by
      rw [← rows_map]
      exact DpAll.im (fun _ _ h => SqT.upd er11 h) imr (DpAll.app hr11 hc3)
    have er12 : (upd H11 rw_ (.lst (ysr ++ yse ++ ys3'))) rw_ = some (.lst (ysr ++ yse ++ ys3')) := upd_same
    have xa12 : Xa a H (upd H11 rw_ (.lst (ysr ++ yse ++ ys3'))) := xa_mut xa11 hrf
    have i12 : (upd H11 rw_ (.lst (ysr ++ yse ++ ys3'))) a = some (.ins T.C_Vocabulary dx F3) := by
      rw [upd_ne (fun h => by rw [h, er11] at i11; cases i11)]
      exact i11
    have hs1_12 := Dp.im (H' := upd H11 rw_ (.lst (ysr ++ yse ++ ys3'))) (fun p xs h => SqT.upd er11 h) (by show ImAll _ = true; exact imStrs _) hs1_11
    have hs2_12 := Dp.im (H' := upd H11 rw_ (.lst (ysr ++ yse ++ ys3'))) (fun p xs h => SqT.upd er11 h) (by show ImAll _ = true; exact imAll_iff.mpr fun d hd => by obtain ⟨r, _, rfl⟩ := List.mem_map.mp hd; exact im_fD r) hs2_11
    have hs3_12 := Dp.im (H' := upd H11 rw_ (.lst (ysr ++ yse ++ ys3'))) (fun p xs h => SqT.upd er11 h) (by show ImAll _ = true; exact imAll_iff.mpr fun d hd => by obtain ⟨r, _, rfl⟩ := List.mem_map.mp hd; exact im_pD r) hs3_11
    generalize upd H11 rw_ (.lst (ysr ++ yse ++ ys3')) = H12 at hr12 er12 xa12 i12 hs1_12 hs2_12 hs3_12
    walk_at "0"
    walk_at "3"
    show tCons _ _ _ _ _
    walk_at "9"
    walk_at "69"
    walk_at "9"
    walk_at "25"
    walk_at "69"
    refine v_fld i12 T.cl_Vocabulary T.na_Vocabulary_sorts k3s ?_
    walk_at "10"
    refine ⟨.ref rw_, _, x.S, x.rows, rfl, .of_lst er12 hr12, hs1_12, ok.tx, ok.le, fun hck H13 x13 => ?_, fun k z hck d H13 x13 e13 => q2 k z hck d H13 (xa_tr xa12 (xa_of x13)) e13⟩
    have hr13 := DpAll.mono x13 hr12
    have er13 := x13 _ _ er12
    have i13 := x13 _ _ i12
    have hs1_13 := Dp.mono x13 hs1_12
    have hs2_13 := Dp.mono x13 hs2_12
    have hs3_13 := Dp.mono x13 hs3_12
    have xa13 : Xa a H H13 := xa_tr xa12 (xa_of x13)
    clear hs1_12 hs2_12 hs3_12 hr12 er12 i12 x13 xa12 hs1_11 hs2_11 hs3_11 hr11 er11 i11 xa11
    have hrl : x.rows.length ≤ 1000 := ok.le
    walk_at "0"
    walk_at "26"
    walk_at "32"
    walk_at "38"
    walk_at "69"
    walk_at "88"
    refine ⟨⟨_, sql er13⟩, b_dic walk_list (fun H' x' => xl x' (sql er13)) hr13 headS (fun _ => .bool true) ?_ ?_ ?_ ?_ gm_name⟩
    · intro d _; rfl
    · rw [List.length_map]; omega
    · intro v d H' hv hd xx R hR
      obtain ⟨r, _, rfl⟩ := List.mem_map.mp hd
      walk_at "6"
      refine ⟨rfl, ?_⟩
      walk_at "8"
      walk_at "69"
      walk_at "7"
      refine d_ix hv (atI_nat (j := 0) rfl) fun w hw => ?_
      cases Dp.str_inv hw
      walk_at "7"
      exact hR _ _ (xrefl _) (.bl true)
    intro D7 kv7 H14 hD7 x14 e14 hl14 hD14
    walk_at "69"
    have i14 := x14 _ _ i13
    refine v_sfld i14 T.cl_Vocabulary T.na_Vocabulary__names (by omega) ?_
    have hs1_15 := dpa i14 (xa_upd (o := .ins T.C_Vocabulary dx (putF "_names" (.ref D7) F3))) (Dp.mono x14 hs1_13)
    have hs2_15 := dpa i14 (xa_upd (o := .ins T.C_Vocabulary dx (putF "_names" (.ref D7) F3))) (Dp.mono x14 hs2_13)
    have hs3_15 := dpa i14 (xa_upd (o := .ins T.C_Vocabulary dx (putF "_names" (.ref D7) F3))) (Dp.mono x14 hs3_13)
    have hnN : D7 ≠ a := fun h => by rw [h, i14] at e14; cases e14
    have hDN15 := HasD.im (xat i14 (xa_upd (o := .ins T.C_Vocabulary dx (putF "_names" (.ref D7) F3)))) hD14
    have eN15 : (upd H14 a (.ins T.C_Vocabulary dx (putF "_names" (.ref D7) F3))) D7 = some (.dK kv7) := by rw [upd_ne hnN]; exact e14
    have xa15 : Xa a H (upd H14 a (.ins T.C_Vocabulary dx (putF "_names" (.ref D7) F3))) := xa_tr xa13 (xa_tr (xa_of x14) xa_upd)
    have i15 : (upd H14 a (.ins T.C_Vocabulary dx (putF "_names" (.ref D7) F3))) a = some (.ins T.C_Vocabulary dx (putF "_names" (.ref D7) F3)) := upd_same
    generalize upd H14 a (.ins T.C_Vocabulary dx (putF "_names" (.ref D7) F3)) = H15 at hs1_15 hs2_15 hs3_15 xa15 i15 hDN15 eN15
    have l4 : (putF "_names" (.ref D7) F3).length ≤ 4 := by
      have := putF_len "_names" (.ref D7) F3; omega
    have hk4 : ∀ g : Str, (putF "_names" (.ref D7) F3).lookup g = if g = "_names" then some (.ref D7) else F3.lookup g := fun g => by rw [lookup_putF]
    generalize putF "_names" (.ref D7) F3 = F4 at i15 l4 hk4
    have k4f : F4.lookup ("functions" : Str) = some (.ref b2) := by rw [hk4, if_neg (by decide)]; exact k3f
    have k4p : F4.lookup ("predicates" : Str) = some (.ref b3) := by rw [hk4, if_neg (by decide)]; exact k3p
    clear hs1_13 hs2_13 hs3_13 hr13 er13 i13 xa13 i14 x14 e14 hD14 hl14 hD7
    walk_at "0"
    walk_at "26"
    walk_at "32"
    walk_at "39"
    walk_at "8"
    walk_at "25"
    walk_at "69"
    refine v_fld i15 T.cl_Vocabulary T.na_Vocabulary_functions k4f ?_
    walk_at "25"
    walk_at "69"
    refine v_fld i15 T.cl_Vocabulary T.na_Vocabulary_predicates k4p ?_
    refine d_plus hs2_15 hs3_15 (by rw [List.length_map, List.length_map]; omega) fun v16 H16 x16 hv16 => ?_
    obtain ⟨b16, ys16, rfl, hT16, hc16⟩ := Dp.tup_inv hv16
    walk_at "88"
    refine ⟨⟨_, hT16⟩, b_dic walk_tup (fun H' x' => xt x' hT16) hc16 headS sndD ?_ ?_ ?_ ?_ gm_name⟩
    · intro d hd
      rcases List.mem_append.mp hd with hd | hd
      · obtain ⟨r, _, rfl⟩ := List.mem_map.mp hd
        show ImAll _ = true; exact imStrs _
      · obtain ⟨r, _, rfl⟩ := List.mem_map.mp hd
        show ImAll _ = true; exact imStrs _
    · rw [List.length_append, List.length_map, List.length_map]; omega
    · intro v d H' hv hd xx R hR
      rcases List.mem_append.mp hd with hd | hd
      · obtain ⟨r, _, rfl⟩ := List.mem_map.mp hd
        walk_at "6"
        refine ⟨rfl, ?_⟩
        walk_at "8"
        walk_at "69"
        walk_at "7"
        refine d_ix hv (atI_nat (j := 0) rfl) fun w hw => ?_
        cases Dp.str_inv hw
        walk_at "8"
        walk_at "69"
        walk_at "7"
        refine d_ix hv (atI_nat (j := 1) rfl) fun w hw => ?_
        exact hR _ _ (xrefl _) hw
      · obtain ⟨r, _, rfl⟩ := List.mem_map.mp hd
        walk_at "6"
        refine ⟨rfl, ?_⟩
        walk_at "8"
        walk_at "69"
        walk_at "7"
        refine d_ix hv (atI_nat (j := 0) rfl) fun w hw => ?_
        cases Dp.str_inv hw
        walk_at "8"
        walk_at "69"
        walk_at "7"
        refine d_ix hv (atI_nat (j := 1) rfl) fun w hw => ?_
        exact hR _ _ (xrefl _) hw
    intro dA kA H17 hdA x17 eA hlA hDA
    rw [args_map] at hDA
    walk_at "69"
    have x1617 := xtr x16 x17
    have i17 := x1617 _ _ i15
    refine v_sfld i17 T.cl_Vocabulary T.na_Vocabulary__argument_sorts (by omega) ?_
    have hnA : dA ≠ a := fun h => by rw [h, i17] at eA; cases eA
    have hs1_18 := dpa i17 (xa_upd (o := .ins T.C_Vocabulary dx (putF "_argument_sorts" (.ref dA) F4))) (Dp.mono x1617 hs1_15)
    have hs2_18 := dpa i17 (xa_upd (o := .ins T.C_Vocabulary dx (putF "_argument_sorts" (.ref dA) F4))) (Dp.mono x1617 hs2_15)
    have hs3_18 := dpa i17 (xa_upd (o := .ins T.C_Vocabulary dx (putF "_argument_sorts" (.ref dA) F4))) (Dp.mono x1617 hs3_15)
    have hDA18 := HasD.im (xat i17 (xa_upd (o := .ins T.C_Vocabulary dx (putF "_argument_sorts" (.ref dA) F4)))) hDA
    have eA18 : (upd H17 a (.ins T.C_Vocabulary dx (putF "_argument_sorts" (.ref dA) F4))) dA = some (.dK kA) := by rw [upd_ne hnA]; exact eA
    have hDN18 := HasD.im (xat i17 (xa_upd (o := .ins T.C_Vocabulary dx (putF "_argument_sorts" (.ref dA) F4)))) (hDN15.mono x1617)
    have eN18 : (upd H17 a (.ins T.C_Vocabulary dx (putF "_argument_sorts" (.ref dA) F4))) D7 = some (.dK kv7) := by rw [upd_ne hnN]; exact x1617 _ _ eN15
    have xa18 : Xa a H (upd H17 a (.ins T.C_Vocabulary dx (putF "_argument_sorts" (.ref dA) F4))) := xa_tr xa15 (xa_tr (xa_of x1617) xa_upd)
    have i18 : (upd H17 a (.ins T.C_Vocabulary dx (putF "_argument_sorts" (.ref dA) F4))) a = some (.ins T.C_Vocabulary dx (putF "_argument_sorts" (.ref dA) F4)) := upd_same
    generalize upd H17 a (.ins T.C_Vocabulary dx (putF "_argument_sorts" (.ref dA) F4)) = H18 at hs1_18 hs2_18 hs3_18 hDA18 eA18 xa18 i18 hDN18 eN18
    have l5 : (putF "_argument_sorts" (.ref dA) F4).length ≤ 5 := by
      have := putF_len "_argument_sorts" (.ref dA) F4; omega
    have hk5 : ∀ g : Str, (putF "_argument_sorts" (.ref dA) F4).lookup g = if g = "_argument_sorts" then some (.ref dA) else F4.lookup g := fun g => by rw [lookup_putF]
    generalize putF "_argument_sorts" (.ref dA) F4 = F5 at i18 l5 hk5
    have k5f : F5.lookup ("functions" : Str) = some (.ref b2) := by rw [hk5, if_neg (by decide)]; exact k4f
    have k5p : F5.lookup ("predicates" : Str) = some (.ref b3) := by rw [hk5, if_neg (by decide)]; exact k4p
    clear hs1_15 hs2_15 hs3_15 hv16 hT16 hc16 x16 x17 x1617 i17 i15 xa15 eA hDA hdA
    obtain ⟨_, ysp, ep, hTp, hcp⟩ := Dp.tup_inv hs3_18
    cases ep
    walk_at "0"
    walk_at "1"
    walk_at "32"
    walk_at "39"
    walk_at "25"
    walk_at "69"
    refine v_fld i18 T.cl_Vocabulary T.na_Vocabulary_predicates k5p ?_
    walk_at "88"
    refine ⟨⟨_, hTp⟩, b_dic walk_tup (fun H' x' => xt x' hTp) hcp headS (fun _ => .str "truth") ?_ ?_ ?_ ?_ (gm_tup (gsm_cons (gsm_cons gsm_nil)))⟩
    · intro d _; rfl
    · rw [List.length_map]; omega
    · intro v d H' hv hd xx R hR
      obtain ⟨r, _, rfl⟩ := List.mem_map.mp hd
      refine k_gtup hv rfl fun ws hws => ?_
      refine k_gcons hws fun w1 ws1 hw1 hws1 => ?_
      refine k_gcons hws1 fun w2 ws2 hw2 hws2 => ?_
      refine k_gnil hws2 ⟨rfl, ?_⟩
      cases Dp.str_inv hw1
      walk_at "69"
      walk_at "7"
      exact hR _ _ (xrefl _) (.str _)
    intro dS kS0 H19 hdS x19 eS hlS hDS
    rw [List.length_map] at hlS
    have i19 := x19 _ _ i18
    obtain ⟨_, ysf, ef, hTf18, hcf⟩ := Dp.tup_inv hs2_18
    cases ef
    have hTf := xt x19 hTf18
    have hfl := hcf.len
    rw [List.length_map] at hfl
    walk_at "6"
    walk_at "0"
    walk_at "37"
    walk_at "39"
    walk_at "25"
    walk_at "69"
    refine v_fld i19 T.cl_Vocabulary T.na_Vocabulary_functions k5f ?_
    walk_at "88"
    refine ⟨⟨_, hTf⟩, for_tup (xs := ysf) (fun i σ' H' => ∃ y4 y5 y7 kvs, σ' = [some (.ref a), some v1, some v2, some v3, y4, y5, some (.ref rw_), y7, some (.ref dS), none, none] ∧ Xt H18 H' ∧ H' dS = some (.dK kvs) ∧ kvs.length ≤ x.P.length + i ∧ HasD K H' kvs (tabF (((x.P.map pD).map fun d => (headS d, PyData.str "truth")) ++ ((x.F.map fD).map fun d => (headS d, trdD d)).take i))) ⟨_, _, _, _, rfl, x19, eS, by omega, by rw [List.take_zero, List.append_nil]; exact hDS⟩ ?_ ?_ ?_⟩
    · rintro i σ' H' hi ⟨y4, y5, y7, kvs, rfl, xx, _⟩
      exact xt xx hTf18
    · rintro i xv σ' H' hx ⟨y4, y5, y7, kvs, rfl, xx, ed, hk, hD⟩
      obtain ⟨d, hdx, hdp⟩ := DpAll.getV (DpAll.mono xx hcf) hx
      rw [List.getElem?_map] at hdx
      cases hr : x.F[i]? with
      | none => rw [hr] at hdx; cases hdx
      | some r =>
        rw [hr] at hdx
        cases hdx
        have hi : i < x.F.length := (List.getElem?_eq_some_iff.mp hr).1
        refine k_gtup hdp rfl fun vs hvs => ?_
        refine k_gcons hvs fun w1 ws1 hw1 hws1 => ?_
        refine k_gcons hws1 fun w2 ws2 hw2 hws2 => ?_
        refine k_gcons hws2 fun w3 ws3 hw3 hws3 => ?_
        refine k_gnil hws3 ?_
        cases Dp.str_inv hw1
        cases Dp.str_inv hw3
        walk_at "29"
        walk_at "69"
        walk_at "69"
        walk_at "69"
        refine v_dput ed (by omega) ?_
        skip
        refine ⟨_, _, _, _, rfl, xmut xx hdS, upd_same, ?_, ?_⟩
        · unfold putK
          split
          · rw [List.length_map]; omega
          · rw [List.length_append, List.length_singleton]; omega
        · have et2 : ((x.F.map fD).map fun d => (headS d, trdD d)).take (i + 1) = ((x.F.map fD).map fun d => (headS d, trdD d)).take i ++ [(r.1, PyData.str r.2.2)] := by rw [List.take_add_one, List.getElem?_map, List.getElem?_map, hr]; rfl
          rw [et2, ← List.append_assoc, tabF_snoc]
          exact HasD.im (fun a zs h => SqT.updD ed h) (hD.put rfl (.str _))
    · rintro σ' H' ⟨y4, y5, y7, kvs, rfl, xx, ed, hk, hD⟩
      rw [List.take_of_length_le (by rw [List.length_map, List.length_map]; omega), sort_map] at hD
      have iF := xx _ _ i18
      have hnS : dS ≠ a := fun h => by rw [h, iF] at ed; cases ed
      walk_at "26"
      walk_at "69"
      walk_at "69"
      refine v_sfld iF T.cl_Vocabulary T.na_Vocabulary__value_sorts (by omega) ?_
      have hkF : ∀ g : Str, (putF "_value_sorts" (.ref dS) F5).lookup g = if g = "_value_sorts" then some (.ref dS) else F5.lookup g := fun g => by rw [lookup_putF]
      refine q1 hck _ (xa_tr xa18 (xa_tr (xa_of xx) xa_upd)) ⟨dx, putF "_value_sorts" (.ref dS) F5, .ref b1, .ref b2, .ref b3, D7, dA, dS, kv7, kA, kvs, upd_same, ⟨?_, dpa iF xa_upd (Dp.mono xx hs1_18)⟩, ⟨?_, dpa iF xa_upd (Dp.mono xx hs2_18)⟩, ⟨?_, dpa iF xa_upd (Dp.mono xx hs3_18)⟩, ⟨?_, ?_, ?_⟩, ⟨?_, ?_, ?_⟩, ⟨?_, ?_, ?_⟩, ?_⟩
      · rw [hkF, if_neg (by decide), hk5, if_neg (by decide), hk4, if_neg (by decide)]; exact k3s
      · rw [hkF, if_neg (by decide)]; exact k5f
      · rw [hkF, if_neg (by decide)]; exact k5p
      · rw [hkF, if_neg (by decide), hk5, if_neg (by decide), hk4, if_pos rfl]
      · rw [upd_ne hnN]; exact xx _ _ eN18
      · exact HasD.im (xat iF xa_upd) (names_map x ▸ hDN18.mono xx)
      · rw [hkF, if_neg (by decide), hk5, if_pos rfl]
      · rw [upd_ne hnA]; exact xx _ _ eA18
      · exact HasD.im (xat iF xa_upd) (hDA18.mono xx)
      · rw [hkF, if_pos rfl]
      · rw [upd_ne hnS]; exact ed
      · exact HasD.im (xat iF xa_upd) hD
      · intro m hm
        simp only [List.mem_cons, List.not_mem_nil, or_false] at hm
        rcases hm with rfl | rfl | rfl | rfl <;> rw [hkF, if_neg (by decide), hk5, if_neg (by decide), hk4, if_neg (by decide), hk3, if_neg (by decide), if_neg (by decide), if_neg (by decide)]


theorem ok__law_spoil_sorts (T : Top0 P K mg) : FnOk P w K mg base CX0 4 T.f__law_spoil_sorts T.fd__law_spoil_sorts ["script", "rows", "turns"] (sp__law_spoil_sorts T) := by
  refine T.F__law_spoil_sorts.ok sc__law_spoil_sorts (fun vs H Q E h => ?_) (fun cdv A outer s H vs Q E hr h => ?_)
  · obtain ⟨l, rl, ns, as, t, rfl, hS, hns, hl, hne, hal, rws, ht, q⟩ := h
    rfl
  · obtain ⟨l, rl, ns, as, t, rfl, hS, hns, hl, hne, hal, rws, ht, q⟩ := h
    refine ⟨_, (pss_cons (ps_if (PW.pt (pw_and (pt_cmpR (r := rEqU K) (op_eqU hr) (pv 2) pe_int (nomark _)) (pw_and1 (pt_cmpR op_gt (pe_callB (r := rLenU K) call_lenU (by rfl) T.n_len PySem.boot_len (pa_cons (pv 1) pa_nil)) pe_int (nomark _))))) (pss_cons (ps_asg (pe_ix (r := rIx K) ix_seq (pe_ix (r := rIx K) ix_seq (pv 1) pe_int (fun _ _ => rfl)) pe_int (fun _ _ => rfl)) (pg_sub (pe_ix (r := rIx K) ix_seq (pv 1) (pe_op op_sub (pe_callB (r := rLenU K) call_lenU (by rfl) T.n_len PySem.boot_len (pa_cons (pv 1) pa_nil)) pe_int) (fun _ _ => rfl)) pe_int set_list))
      (pss_cons (ps_asg (pe_call (ok__law_bad T) (hr.mono (by first | decide | exact Nat.le_refl _ | omega | (show _ ≤ _ + n; omega))) (by rfl) T.g__law_bad T.F__law_bad.kp T.b__law_bad .nil pass0 (pa_cons (pe_ix (r := rIx K) ix_seq (pe_ix (r := rIx K) ix_seq (pv 1) pe_int (fun _ _ => rfl)) pe_int (fun _ _ => rfl)) (pa_cons (pe_op op_mod (pe_callTy call_intU (by rfl) T.n_int PyProof.Rows.boot_int (pa_cons (pe_call (ok__law_cell T) (hr.mono (by first | decide | exact Nat.le_refl _ | omega | (show _ ≤ _ + n; omega))) (by rfl) T.g__law_cell T.F__law_cell.kp T.b__law_cell .nil pass0 (pa_cons (pv 0) (pa_cons pe_int pa_nil))) pa_nil)) pe_int) pa_nil))) (pg_sub (pe_ix (r := rIx K) ix_seq (pv 1) (pe_op op_sub (pe_callB (r := rLenU K) call_lenU (by rfl) T.n_len PySem.boot_len (pa_cons (pv 1) pa_nil)) pe_int) (fun _ _ => rfl)) pe_int set_list))
      (pss_one ps_retN))) pss_nil)
      (pss_one (ps_for PassesOwn.never rfl (pi_range1 (by rfl) T.n_range (pa_cons (pv 2) pa_nil)) (pg_name (i := 3) sc__law_spoil_sorts.nd rfl (Or.inl rfl)) (pss_one (ps_expr (pe_call (ok__law_spoil T) (hr.mono (by first | decide | exact Nat.le_refl _ | omega | (show _ ≤ _ + n; omega))) (by rfl) T.g__law_spoil T.F__law_spoil.kp T.b__law_spoil .nil pass0 (pa_cons (pv 1) (pa_cons (pe_call (ok__law_cell T) (hr.mono (by first | decide | exact Nat.le_refl _ | omega | (show _ ≤ _ + n; omega))) (by rfl) T.g__law_cell T.F__law_cell.kp T.b__law_cell .nil pass0 (pa_cons (pv 0) (pa_cons (pe_op (r := rPlus K) op_plus pe_int (pv 3)) pa_nil))) pa_nil)))))))), ?_⟩
    have hpos : 0 < (as.map V.ref).length := by rw [List.length_map]; exact List.length_pos_iff.mpr hne
    have hle : (as.map V.ref).length ≤ 1000 := by rw [List.length_map]; exact hal
    apply share
    case g2 =>
      intro go
      walk_at "0"
      walk_at "4"
      walk_at "17"
      walk_at "14"
      walk_at "8"
      walk_at "69"
      walk_at "7"
      walk_at "75"
      walk_at "88"
      refine k_if (fun g1 => ?_) (fun g1 => ?_)
      · walk_at "14"
        walk_at "8"
        walk_at "11"
        walk_at "9"
        walk_at "69"
        walk_at "10"
        walk_at "77"
        walk_at "7"
        walk_at "55"
        walk_at "88"
        refine k_if (fun g2 => ?_) (fun g2 => ?_)
        · clear go
          obtain ⟨a0, ha0, ea0⟩ := at_refs (as := as) (i := 0) (by omega) (by omega)
          obtain ⟨k0, t0, pa0, pl0, v0, hh0, hpa0, hln0, ht0, hpl0, hv0⟩ := rws a0 ha0
          have i1 : atI [V.int k0, .str t0, .ref pa0, .str v0] 1 = some (.str t0) := rfl
          obtain ⟨a1, ha1, ea1⟩ := at_refs (as := as) (i := ((as.map V.ref).length : Int) - 2) (by omega) (by omega)
          obtain ⟨k1, t1, pa1, pl1, v1, hh1, hpa1, hln1, ht1, hpl1, hv1⟩ := rws a1 ha1
          walk_at "0"
          walk_at "1"
          walk_at "8"
          walk_at "8"
          walk_at "69"
          walk_at "7"
          walk_at "79"
          walk_at "7"
          walk_at "79"
          refine k_gsub ?_
          walk_at "8"
          walk_at "69"
          walk_at "8"
          walk_at "11"
          walk_at "9"
          walk_at "69"
          walk_at "10"
          walk_at "77"
          walk_at "7"
          walk_at "55"
          walk_at "79"
          walk_at "7"
          refine v_setl hh1 (i := 1) rfl ?_
          obtain ⟨u1, u2⟩ := row_upd (k2 := k1) rws ha1 hh1 hpa1 hln1 ht0 hpl1 hv1
          have hl2 := xs_refs rws u2 hl
          have hS2 := xs_ints rws u2 hS
          show tSeq _ _ _ _ (upd H a1 (.lst [.int k1, .str t0, .ref pa1, .str v1]))
          generalize upd H a1 (.lst [.int k1, .str t0, .ref pa1, .str v1]) = H2 at u1 u2 hl2 hS2 ⊢
          clear hl hS hh0 hpa0 hh1 hpa1
          obtain ⟨k3, t3, pa3, pl3, v3, hh3, hpa3, hln3, ht3, hpl3, hv3⟩ := u1 a0 ha0
          have i3 : atI [V.int k3, .str t3, .ref pa3, .str v3] 1 = some (.str t3) := rfl
          obtain ⟨a4, ha4, ea4⟩ := at_refs (as := as) (i := ((as.map V.ref).length : Int) - 1) (by omega) (by omega)
          walk_at "0"
          walk_at "0"
          walk_at "1"
          walk_at "12"
          walk_at "9"
          walk_at "8"
          walk_at "8"
          walk_at "69"
          walk_at "7"
          walk_at "79"
          walk_at "7"
          walk_at "79"
          walk_at "9"
          walk_at "8"
          walk_at "11"
          walk_at "9"
          walk_at "12"
          walk_at "9"
          walk_at "69"
          walk_at "9"
          walk_at "7"
          walk_at "10"
          refine ⟨l, ns, 36, rfl, hS2, hns, by decide, fun cv => ?_⟩
          walk_at "10"
          walk_at "57"
          walk_at "7"
          walk_at "70"
          walk_at "10"
          refine ⟨t3, 20, cv % 25, rfl, ht3, by decide, ⟨Int.emod_nonneg _ (by decide), Int.emod_lt_of_pos _ (by decide)⟩, fun z5 H5 x5 tz5 => ?_⟩
          have hl5 := x5 _ _ hl2
          have u5 := u1.mono x5
          obtain ⟨k6, t6, pa6, pl6, v6, hh6, hpa6, hln6, ht6, hpl6, hv6⟩ := u5 a4 ha4
          refine k_gsub ?_
          walk_at "8"
          walk_at "69"
          walk_at "8"
          walk_at "11"
          walk_at "9"
          walk_at "69"
          walk_at "10"
          walk_at "77"
          walk_at "7"
          walk_at "55"
          walk_at "79"
          walk_at "7"
          refine v_setl hh6 (i := 1) rfl ?_
          obtain ⟨w1, w2⟩ := row_upd (k2 := k6) (u5.le (show 20 ≤ 2 * 20 + 60 by decide)) ha4 hh6 hpa6 hln6 tz5 (fun s hs => (hpl6 s hs).le (by decide)) (hv6.le (by decide))
          exact q _ (u2.tr ((Xs.of x5).tr w2)) (w1.le (by decide))
        · exact go.out
      · exact go.out
    case g1 =>
      walk_at "5"
      walk_at "37"
      walk_at "42"
      walk_at "9"
      walk_at "69"
      walk_at "10"
      walk_at "88"
      refine ⟨by omega, by omega, ?_⟩
      refine for_range (fun i σ' H' => ∃ y, σ' = [some (.ref l), some (.ref rl), some (.int t), y] ∧ Xs as H H' ∧ RwsOk (bnd i) H' as) ⟨none, rfl, Xs.refl, rws⟩ ?_ ?_
      · rintro i σ' H' hi ⟨y, rfl, hx, hr'⟩
        have hS' := xs_ints rws hx hS
        have hl' := xs_refs rws hx hl
        walk_at "6"
        walk_at "3"
        walk_at "12"
        walk_at "9"
        walk_at "69"
        walk_at "9"
        walk_at "12"
        walk_at "9"
        walk_at "69"
        walk_at "9"
        walk_at "8"
        walk_at "7"
        walk_at "69"
        walk_at "56"
        walk_at "10"
        refine ⟨l, ns, 36 + (0 + (i : Int)), rfl, hS', hns, by omega, fun cv => ?_⟩
        walk_at "10"
        refine ⟨rl, as, cv, bnd i, rfl, hl', hne, hal, hr', bnd_le i (by omega), fun H2 x2 r2 => ?_⟩
        walk_at "88"
        exact ⟨hx.tr x2, r2⟩
      · rintro σ' H' ⟨y, rfl, hx, hr'⟩
        exact q _ hx (hr'.le (bnd_le5 _ (by omega)))


theorem ok_Vocabulary_extended (T : Top0 P K mg) : FnOk P w K mg base (L2.CX P w) 6 T.f_Vocabulary_extended T.fd_Vocabulary_extended ["self", "functions"] (sp_Vocabulary_extended T) := by
  refine T.F_Vocabulary_extended.okX sc_Vocabulary_extended (fun vs H Q E h => ?_) (fun cdv A outer s H vs Q E hr h => ?_)
  · obtain ⟨a, v, x, G, rfl, hV, hv, ok, q1, q2⟩ := h
    rfl
  · obtain ⟨a, v, x, G, rfl, hV, hv, ok, q1, q2⟩ := h
    refine ⟨_, (pss_one (ps_ret (pe_makeX T.mk_Vocabulary (ok_Vocabulary___init__ T) (hr.mono (by first | decide | exact Nat.le_refl _ | omega | (show _ ≤ _ + n; omega))) (by rfl) T.g_Vocabulary T.b_Vocabulary___init__ (fun σ => passAt (takes_of rfl rfl rfl rfl) σ) (pa_cons (show PE _ _ (tFld K _ _) from pe_fld (pv 0) rfl) (pa_cons (pe_op (r := rPlus K) op_plus (show PE _ _ (tFld K _ _) from pe_fld (pv 0) rfl) (pe_callTy (r := rTup K) call_tupU (by rfl) T.n_tuple (by decide +kernel) (pa_cons (pv 1) pa_nil))) (pa_cons (show PE _ _ (tFld K _ _) from pe_fld (pv 0) rfl) pa_nil)))))), ?_⟩
    obtain ⟨dx, fs, s, f, p, dN, dA, dS, kN, kA, kS, h1, hs, hf, hp, hn, ha, hvs, hm⟩ := id hV
    walk_at "2"
    show tCons _ _ _ _ _
    have hle := ok.le
    unfold Lex.rows at hle
    simp only [List.length_append, List.length_map] at hle
    walk_at "9"
    walk_at "25"
    walk_at "69"
    refine v_fld h1 T.cl_Vocabulary T.na_Vocabulary_sorts hs.1 ?_
    walk_at "9"
    walk_at "8"
    walk_at "25"
    walk_at "69"
    refine v_fld h1 T.cl_Vocabulary T.na_Vocabulary_functions hf.1 ?_
    walk_at "11"
    walk_at "9"
    walk_at "69"
    walk_at "10"
    refine ds_tup hv fun s1 H1 x1 hs1 => ?_
    refine d_plus (Dp.mono x1 hf.2) hs1 (by rw [List.length_map, List.length_map]; omega) fun s2 H2 x2 hs2 => ?_
    walk_at "9"
    walk_at "25"
    walk_at "69"
    have x12 := xtr x1 x2
    refine v_fld (x12 _ _ h1) T.cl_Vocabulary T.na_Vocabulary_predicates hp.1 ?_
    walk_at "10"
    intro b db hb hdb hne
    have xb : Xt H2 (upd (upd H2 db (.own b)) b (.ins T.C_Vocabulary db [])) := fun c o hc => by
      rw [upd_ne (fun e => by rw [e, hb] at hc; cases hc), upd_ne (fun e => by rw [e, hdb] at hc; cases hc)]; exact hc
    have xH := xtr x12 xb
    have hHb : H b = none := by
      cases e : H b with
      | none => rfl
      | some o => rw [x12 _ _ e] at hb; cases hb
    have xt2 : ∀ H', Xa b (upd (upd H2 db (.own b)) b (.ins T.C_Vocabulary db [])) H' → Xt H H' := fun H' xa c o hc => xa c o (fun e => by rw [e, hHb] at hc; cases hc) (xH c o hc)
    refine ⟨b, db, _, _, _, ⟨x.S, x.F ++ G, x.P⟩, rfl, upd_same, .inr (Dp.mono xH hs.2), .inr ?_, .inr (Dp.mono xH hp.2), ok, fun hc H' xa hV' => ⟨rfl, q1 hc b H' (xt2 H' xa) hV'⟩, fun k z hc d H' xa e => q2 k z hc d H' (xt2 H' xa) e⟩
    rw [List.map_append]
    exact Dp.mono xb hs2


theorem ok__law_raised (T : Top0 P K mg) : FnOk P w K mg base CX0 6 T.f__law_raised T.fd__law_raised ["sort_names", "function_rows", "predicate_rows"] (sp__law_raised T) := by
  refine T.F__law_raised.ok sc__law_raised (fun vs H Q E h => ?_) (fun cdv A outer s H vs Q E hr h => ?_)
  · obtain ⟨v1, v2, v3, x, rfl, h1, h2, h3, ok, q⟩ := h
    rfl
  · obtain ⟨v1, v2, v3, x, rfl, h1, h2, h3, ok, q⟩ := h
    refine ⟨_, (pss_cons (ps_try_as (i := 3) rfl rfl sc__law_raised.nd rfl rfl ⟨rfl, by decide, .inl T.g_ClaimError⟩ takes0 (fun W pn xe tk po => (pss_one (ps_expr (pe_makeX T.mk_Vocabulary (ok_Vocabulary___init__ T) (hr.mono (by first | decide | exact Nat.le_refl _ | omega | (show _ ≤ _ + n; omega))) (by rfl) T.g_Vocabulary T.b_Vocabulary___init__ (fun σ => passAt tk σ) (pa_cons (pv 0) (pa_cons (pv 1) (pa_cons (pv 2) pa_nil))))))) (fun a oe cls d pn hz hf => (pss_cons (ps_set (i := 4) sc__law_raised.nd rfl (Or.inl rfl) (pe_lst (pa_cons (pe_callB (r := rIsS K a cls d) (call_isS hz hf) (by rfl) T.n_isinstance PyProof.Rows.boot_isinstance (pa_cons (pv 3) (pa_cons (pe_glob (v := .ref T.C_BadName) (by rfl) T.g_BadName rfl) pa_nil))) (pa_cons (pe_callB (r := rIsS K a cls d) (call_isS hz hf) (by rfl) T.n_isinstance PyProof.Rows.boot_isinstance (pa_cons (pv 3) (pa_cons (pe_glob (v := .ref T.C_NameTaken) (by rfl) T.g_NameTaken rfl) pa_nil))) (pa_cons (pe_callB (r := rIsS K a cls d) (call_isS hz hf) (by rfl) T.n_isinstance PyProof.Rows.boot_isinstance (pa_cons (pv 3) (pa_cons (pe_glob (v := .ref T.C_NoSort) (by rfl) T.g_NoSort rfl) pa_nil))) (pa_cons (pe_callB (r := rIsS K a cls d) (call_isS hz hf) (by rfl) T.n_isinstance PyProof.Rows.boot_isinstance (pa_cons (pv 3) (pa_cons (pe_glob (v := .ref T.C_ReservedName) (by rfl) T.g_ReservedName rfl) pa_nil))) pa_nil))))))
      (pss_cons (ps_set (i := 4) sc__law_raised.nd rfl (Or.inl rfl) (pe_op (r := rPlus K) op_plus (pv 4) (pe_lst (pa_cons (pe_callB (r := rIsS K a cls d) (call_isS hz hf) (by rfl) T.n_isinstance PyProof.Rows.boot_isinstance (pa_cons (pv 3) (pa_cons (pe_glob (v := .ref T.C_NotSentence) (by rfl) T.g_NotSentence rfl) pa_nil))) (pa_cons (pe_callB (r := rIsS K a cls d) (call_isS hz hf) (by rfl) T.n_isinstance PyProof.Rows.boot_isinstance (pa_cons (pv 3) (pa_cons (pe_glob (v := .ref T.C_NoAxiom) (by rfl) T.g_NoAxiom rfl) pa_nil))) (pa_cons (pe_callB (r := rIsS K a cls d) (call_isS hz hf) (by rfl) T.n_isinstance PyProof.Rows.boot_isinstance (pa_cons (pv 3) (pa_cons (pe_glob (v := .ref T.C_BadTable) (by rfl) T.g_BadTable rfl) pa_nil))) pa_nil))))))
      (pss_cons (ps_set (i := 4) sc__law_raised.nd rfl (Or.inl rfl) (pe_op (r := rPlus K) op_plus (pv 4) (pe_lst (pa_cons (pe_callB (r := rIsS K a cls d) (call_isS hz hf) (by rfl) T.n_isinstance PyProof.Rows.boot_isinstance (pa_cons (pv 3) (pa_cons (pe_glob (v := .ref T.C_BadWeight) (by rfl) T.g_BadWeight rfl) pa_nil))) (pa_cons (pe_callB (r := rIsS K a cls d) (call_isS hz hf) (by rfl) T.n_isinstance PyProof.Rows.boot_isinstance (pa_cons (pv 3) (pa_cons (pe_glob (v := .ref T.C_TextError) (by rfl) T.g_TextError rfl) pa_nil))) (pa_cons (pe_not (pe_callB (r := rIsS K a cls d) (call_isS hz hf) (by rfl) T.n_isinstance PyProof.Rows.boot_isinstance (pa_cons (pv 3) (pa_cons (pe_bltn (v := .ty "ValueError") (by rfl) T.n_ValueError (by decide +kernel) rfl) pa_nil)))) pa_nil))))))
      (pss_cons (ps_if (PW.pt (pw_or (pt_cmpR (r := rNeU K) (op_neW (hus hr)) (show PE _ _ (tBM K "list" (rCntF K) _ _) from pe_bm PySem.F.plainAttrs_list PySem.F.slot_list_count PySem.F.type_list_count mt_countF (pv 4) (pa_cons pe_bl pa_nil)) pe_int (nomark _)) (pw_or1 (pt_cmpR op_gt (show PE _ _ (tBM K "list" (rIndex K) _ _) from pe_bm PySem.F.plainAttrs_list PySem.F.slot_list_index PySem.F.type_list_index mt_index (pv 4) (pa_cons pe_bl pa_nil)) pe_int (nomark _))))) (pss_one (ps_ret (pe_lst (pa_cons pe_int (pa_cons pe_str pa_nil))))) pss_nil)
      (pss_one (ps_ret (pe_lst (pa_cons (pe_op (r := rPlus K) op_plus pe_int (show PE _ _ (tBM K "list" (rIndex K) _ _) from pe_bm PySem.F.plainAttrs_list PySem.F.slot_list_index PySem.F.type_list_index mt_index (pv 4) (pa_cons pe_bl pa_nil))) (pa_cons (show PE _ _ (tXs K a cls d _ _) from pe_xs hz hf (pv 3)) pa_nil)))))))))))
      (pss_one (ps_ret (pe_lst (pa_cons pe_int (pa_cons pe_str pa_nil)))))), ?_⟩
    walk_at "0"
    walk_at "3"
    show tCons _ _ _ _ _
    walk_at "9"
    walk_at "69"
    walk_at "9"
    walk_at "69"
    walk_at "9"
    walk_at "69"
    walk_at "10"
    intro b db hb hdb hne
    have xb : Xt H (upd (upd H db (.own b)) b (.ins T.C_Vocabulary db [])) := fun c o hc => by
      rw [upd_ne (fun e => by rw [e, hb] at hc; cases hc), upd_ne (fun e => by rw [e, hdb] at hc; cases hc)]; exact hc
    have xt2 : ∀ H', Xa b (upd (upd H db (.own b)) b (.ins T.C_Vocabulary db [])) H' → Xt H H' := fun H' xa c o hc => xa c o (fun e => by rw [e, hb] at hc; cases hc) (xb c o hc)
    refine ⟨b, db, v1, v2, v3, x, rfl, upd_same, h1.mono xb, h2.mono xb, h3.mono xb, ok, fun hc H' xa hV' => ⟨rfl, ?_⟩, fun k z hc d H' xa e => ?_⟩
    · walk_at "2"
      walk_at "34"
      walk_at "9"
      walk_at "7"
      walk_at "9"
      walk_at "7"
      walk_at "10"
      walk_at "82"
      intro p1 H1 n1 x1 e1
      refine q p1 H1 (xtr (xt2 H' xa) x1) ?_
      unfold dueV
      rw [hc]
      exact e1
    · have hk := chk_range hc
      have hX := xt2 H' xa
      refine ⟨true, (err_at T hk).2.2, fun _ a ha => ?_, fun h => by cases h⟩
      walk_at "0"
      walk_at "1"
      walk_at "34"
      walk_at "9"
      walk_at "11"
      walk_at "9"
      walk_at "69"
      walk_at "9"
      walk_at "7"
      walk_at "10"
      refine is_at T hk (i := 0) rfl e ?_
      walk_at "9"
      walk_at "11"
      walk_at "9"
      walk_at "69"
      walk_at "9"
      walk_at "7"
      walk_at "10"
      refine is_at T hk (i := 1) rfl e ?_
      walk_at "9"
      walk_at "11"
      walk_at "9"
      walk_at "69"
      walk_at "9"
      walk_at "7"
      walk_at "10"
      refine is_at T hk (i := 2) rfl e ?_
      walk_at "9"
      walk_at "11"
      walk_at "9"
      walk_at "69"
      walk_at "9"
      walk_at "7"
      walk_at "10"
      refine is_at T hk (i := 3) rfl e ?_
      walk_at "10"
      walk_at "82"
      intro p1 H1 n1 x1 e1
      walk_at "6"
      walk_at "0"
      walk_at "1"
      walk_at "8"
      walk_at "69"
      walk_at "34"
      walk_at "9"
      walk_at "11"
      walk_at "9"
      walk_at "69"
      walk_at "9"
      walk_at "7"
      walk_at "10"
      refine is_at T hk (i := 4) rfl (x1 _ _ e) ?_
      walk_at "9"
      walk_at "11"
      walk_at "9"
      walk_at "69"
      walk_at "9"
      walk_at "7"
      walk_at "10"
      refine is_at T hk (i := 5) rfl (x1 _ _ e) ?_
      walk_at "9"
      walk_at "11"
      walk_at "9"
      walk_at "69"
      walk_at "9"
      walk_at "7"
      walk_at "10"
      refine is_at T hk (i := 6) rfl (x1 _ _ e) ?_
      walk_at "10"
      walk_at "82"
      intro p2 H2 n2 x2 e2
      skip
      refine v_plus_lst (x2 _ _ e1) e2 (szL (Nat.le_of_ble_eq_true rfl)) fun p3 H3 n3 x3 e3 => ?_
      have x13 := xtr x1 (xtr x2 x3)
      walk_at "6"
      walk_at "0"
      walk_at "1"
      walk_at "8"
      walk_at "69"
      walk_at "34"
      walk_at "9"
      walk_at "11"
      walk_at "9"
      walk_at "69"
      walk_at "9"
      walk_at "7"
      walk_at "10"
      refine is_at T hk (i := 7) rfl (x13 _ _ e) ?_
      walk_at "9"
      walk_at "11"
      walk_at "9"
      walk_at "69"
      walk_at "9"
      walk_at "7"
      walk_at "10"
      refine is_te T hk (x13 _ _ e) ?_
      walk_at "9"
      walk_at "21"
      walk_at "11"
      walk_at "9"
      walk_at "69"
      walk_at "9"
      walk_at "7"
      walk_at "10"
      refine is_ve T hk (x13 _ _ e) ?_
      walk_at "88"
      walk_at "10"
      walk_at "82"
      intro p4 H4 n4 x4 e4
      refine v_plus_lst (x4 _ _ e3) e4 (szL (Nat.le_of_ble_eq_true rfl)) fun p5 H5 n5 x5 e5 => ?_
      have e5 : H5 p5 = some (.lst (kindsV k)) := e5
      have eH := xtr x13 (xtr x4 x5) _ _ e
      walk_at "6"
      walk_at "0"
      walk_at "4"
      walk_at "18"
      walk_at "14"
      walk_at "8"
      walk_at "36"
      walk_at "69"
      refine ⟨ty_l e5, ?_⟩
      walk_at "9"
      walk_at "7"
      walk_at "10"
      refine v_cnt hk e5 ?_
      walk_at "7"
      walk_at "76"
      walk_at "88"
      walk_at "89"
      walk_at "14"
      walk_at "8"
      walk_at "36"
      walk_at "69"
      refine ⟨ty_l e5, ?_⟩
      walk_at "9"
      walk_at "7"
      walk_at "10"
      refine v_kidx hk e5 ?_
      walk_at "7"
      walk_at "55"
      walk_at "88"
      refine k_if (fun g => absurd g (by omega)) (fun _ => ?_)
      walk_at "5"
      walk_at "2"
      walk_at "34"
      walk_at "9"
      walk_at "8"
      walk_at "7"
      walk_at "36"
      walk_at "69"
      refine ⟨ty_l e5, ?_⟩
      walk_at "9"
      walk_at "7"
      walk_at "10"
      refine v_kidx hk e5 ?_
      walk_at "56"
      walk_at "9"
      show tVar 3 _ _ _
      walk_at "69"
      refine ⟨rfl, errC T k, d, _, _, rfl, (err_nm T hk).1, (err_nm T hk).2, rfl, eH, rfl, ?_⟩
      walk_at "10"
      walk_at "82"
      intro p6 H6 n6 x6 e6
      refine q p6 H6 (xtr hX (xtr x13 (xtr x4 (xtr x5 x6)))) ?_
      unfold dueV
      rw [hc, e6]
      rw [show (1 : Int) + ((k - 1 : Nat) : Int) = (k : Int) by omega]


theorem ok__law_raised_extended (T : Top0 P K mg) : FnOk P w K mg base CX0 8 T.f__law_raised_extended T.fd__law_raised_extended ["vocabulary", "function_rows"] (sp__law_raised_extended T) := by
  refine T.F__law_raised_extended.ok sc__law_raised_extended (fun vs H Q E h => ?_) (fun cdv A outer s H vs Q E hr h => ?_)
  · obtain ⟨a0, v, x, G, rfl, hV, hv, ok, q⟩ := h
    rfl
  · obtain ⟨a0, v, x, G, rfl, hV, hv, ok, q⟩ := h
    refine ⟨_, (pss_cons (ps_try_as (i := 2) rfl rfl sc__law_raised_extended.nd rfl rfl ⟨rfl, by decide, .inl T.g_ClaimError⟩ takes0 (fun W pn xe tk po => (pss_one (ps_expr (pe_methX (pv 0) T.cl_Vocabulary T.m_Vocabulary_extended (ok_Vocabulary_extended T) (hr.mono (by first | decide | exact Nat.le_refl _ | omega | (show _ ≤ _ + n; omega))) T.b_Vocabulary_extended (fun σ => passAt tk σ) (pa_cons (pv 1) pa_nil))))) (fun a oe cls d pn hz hf => (pss_cons (ps_set (i := 3) sc__law_raised_extended.nd rfl (Or.inl rfl) (pe_lst (pa_cons (pe_callB (r := rIsS K a cls d) (call_isS hz hf) (by rfl) T.n_isinstance PyProof.Rows.boot_isinstance (pa_cons (pv 2) (pa_cons (pe_glob (v := .ref T.C_BadName) (by rfl) T.g_BadName rfl) pa_nil))) (pa_cons (pe_callB (r := rIsS K a cls d) (call_isS hz hf) (by rfl) T.n_isinstance PyProof.Rows.boot_isinstance (pa_cons (pv 2) (pa_cons (pe_glob (v := .ref T.C_NameTaken) (by rfl) T.g_NameTaken rfl) pa_nil))) (pa_cons (pe_callB (r := rIsS K a cls d) (call_isS hz hf) (by rfl) T.n_isinstance PyProof.Rows.boot_isinstance (pa_cons (pv 2) (pa_cons (pe_glob (v := .ref T.C_NoSort) (by rfl) T.g_NoSort rfl) pa_nil))) (pa_cons (pe_callB (r := rIsS K a cls d) (call_isS hz hf) (by rfl) T.n_isinstance PyProof.Rows.boot_isinstance (pa_cons (pv 2) (pa_cons (pe_glob (v := .ref T.C_ReservedName) (by rfl) T.g_ReservedName rfl) pa_nil))) pa_nil))))))
      (pss_cons (ps_set (i := 3) sc__law_raised_extended.nd rfl (Or.inl rfl) (pe_op (r := rPlus K) op_plus (pv 3) (pe_lst (pa_cons (pe_callB (r := rIsS K a cls d) (call_isS hz hf) (by rfl) T.n_isinstance PyProof.Rows.boot_isinstance (pa_cons (pv 2) (pa_cons (pe_glob (v := .ref T.C_NotSentence) (by rfl) T.g_NotSentence rfl) pa_nil))) (pa_cons (pe_callB (r := rIsS K a cls d) (call_isS hz hf) (by rfl) T.n_isinstance PyProof.Rows.boot_isinstance (pa_cons (pv 2) (pa_cons (pe_glob (v := .ref T.C_NoAxiom) (by rfl) T.g_NoAxiom rfl) pa_nil))) (pa_cons (pe_callB (r := rIsS K a cls d) (call_isS hz hf) (by rfl) T.n_isinstance PyProof.Rows.boot_isinstance (pa_cons (pv 2) (pa_cons (pe_glob (v := .ref T.C_BadTable) (by rfl) T.g_BadTable rfl) pa_nil))) pa_nil))))))
      (pss_cons (ps_set (i := 3) sc__law_raised_extended.nd rfl (Or.inl rfl) (pe_op (r := rPlus K) op_plus (pv 3) (pe_lst (pa_cons (pe_callB (r := rIsS K a cls d) (call_isS hz hf) (by rfl) T.n_isinstance PyProof.Rows.boot_isinstance (pa_cons (pv 2) (pa_cons (pe_glob (v := .ref T.C_BadWeight) (by rfl) T.g_BadWeight rfl) pa_nil))) (pa_cons (pe_callB (r := rIsS K a cls d) (call_isS hz hf) (by rfl) T.n_isinstance PyProof.Rows.boot_isinstance (pa_cons (pv 2) (pa_cons (pe_glob (v := .ref T.C_TextError) (by rfl) T.g_TextError rfl) pa_nil))) (pa_cons (pe_not (pe_callB (r := rIsS K a cls d) (call_isS hz hf) (by rfl) T.n_isinstance PyProof.Rows.boot_isinstance (pa_cons (pv 2) (pa_cons (pe_bltn (v := .ty "ValueError") (by rfl) T.n_ValueError (by decide +kernel) rfl) pa_nil)))) pa_nil))))))
      (pss_cons (ps_if (PW.pt (pw_or (pt_cmpR (r := rNeU K) (op_neW (hus hr)) (show PE _ _ (tBM K "list" (rCntF K) _ _) from pe_bm PySem.F.plainAttrs_list PySem.F.slot_list_count PySem.F.type_list_count mt_countF (pv 3) (pa_cons pe_bl pa_nil)) pe_int (nomark _)) (pw_or1 (pt_cmpR op_gt (show PE _ _ (tBM K "list" (rIndex K) _ _) from pe_bm PySem.F.plainAttrs_list PySem.F.slot_list_index PySem.F.type_list_index mt_index (pv 3) (pa_cons pe_bl pa_nil)) pe_int (nomark _))))) (pss_one (ps_ret (pe_lst (pa_cons pe_int (pa_cons pe_str pa_nil))))) pss_nil)
      (pss_one (ps_ret (pe_lst (pa_cons (pe_op (r := rPlus K) op_plus pe_int (show PE _ _ (tBM K "list" (rIndex K) _ _) from pe_bm PySem.F.plainAttrs_list PySem.F.slot_list_index PySem.F.type_list_index mt_index (pv 3) (pa_cons pe_bl pa_nil))) (pa_cons (show PE _ _ (tXs K a cls d _ _) from pe_xs hz hf (pv 2)) pa_nil)))))))))))
      (pss_one (ps_ret (pe_lst (pa_cons pe_int (pa_cons pe_str pa_nil)))))), ?_⟩
    obtain ⟨dx, fs, s, f, p, dN, dA, dS, kN, kA, kS, h1, hs, hf, hp, hn, ha, hvs, hm⟩ := id hV
    walk_at "0"
    walk_at "3"
    show tVar 0 _ _ _
    walk_at "69"
    refine ⟨a0, dx, fs, rfl, h1, hm _ (by decide), ?_⟩
    walk_at "9"
    walk_at "69"
    walk_at "10"
    refine ⟨a0, v, x, G, rfl, hV, hv, ok, fun hc b H' hX hV' => ?_, fun k z hc d H' hX e => ?_⟩
    · walk_at "2"
      walk_at "34"
      walk_at "9"
      walk_at "7"
      walk_at "9"
      walk_at "7"
      walk_at "10"
      walk_at "82"
      intro p1 H1 n1 x1 e1
      refine q p1 H1 (xtr hX x1) ?_
      unfold dueV
      rw [hc]
      exact e1
    · have hk := chk_range hc
      refine ⟨true, (err_at T hk).2.2, fun _ a ha => ?_, fun h => by cases h⟩
      walk_at "0"
      walk_at "1"
      walk_at "34"
      walk_at "9"
      walk_at "11"
      walk_at "9"
      walk_at "69"
      walk_at "9"
      walk_at "7"
      walk_at "10"
      refine is_at T hk (i := 0) rfl e ?_
      walk_at "9"
      walk_at "11"
      walk_at "9"
      walk_at "69"
      walk_at "9"
      walk_at "7"
      walk_at "10"
      refine is_at T hk (i := 1) rfl e ?_
      walk_at "9"
      walk_at "11"
      walk_at "9"
      walk_at "69"
      walk_at "9"
      walk_at "7"
      walk_at "10"
      refine is_at T hk (i := 2) rfl e ?_
      walk_at "9"
      walk_at "11"
      walk_at "9"
      walk_at "69"
      walk_at "9"
      walk_at "7"
      walk_at "10"
      refine is_at T hk (i := 3) rfl e ?_
      walk_at "10"
      walk_at "82"
      intro p1 H1 n1 x1 e1
      walk_at "6"
      walk_at "0"
      walk_at "1"
      walk_at "8"
      walk_at "69"
      walk_at "34"
      walk_at "9"
      walk_at "11"
      walk_at "9"
      walk_at "69"
      walk_at "9"
      walk_at "7"
      walk_at "10"
      refine is_at T hk (i := 4) rfl (x1 _ _ e) ?_
      walk_at "9"
      walk_at "11"
      walk_at "9"
      walk_at "69"
      walk_at "9"
      walk_at "7"
      walk_at "10"
      refine is_at T hk (i := 5) rfl (x1 _ _ e) ?_
      walk_at "9"
      walk_at "11"
      walk_at "9"
      walk_at "69"
      walk_at "9"
      walk_at "7"
      walk_at "10"
      refine is_at T hk (i := 6) rfl (x1 _ _ e) ?_
      walk_at "10"
      walk_at "82"
      intro p2 H2 n2 x2 e2
      skip
      refine v_plus_lst (x2 _ _ e1) e2 (szL (Nat.le_of_ble_eq_true rfl)) fun p3 H3 n3 x3 e3 => ?_
      have x13 := xtr x1 (xtr x2 x3)
      walk_at "6"
      walk_at "0"
      walk_at "1"
      walk_at "8"
      walk_at "69"
      walk_at "34"
      walk_at "9"
      walk_at "11"
      walk_at "9"
      walk_at "69"
      walk_at "9"
      walk_at "7"
      walk_at "10"
      refine is_at T hk (i := 7) rfl (x13 _ _ e) ?_
      walk_at "9"
      walk_at "11"
      walk_at "9"
      walk_at "69"
      walk_at "9"
      walk_at "7"
      walk_at "10"
      refine is_te T hk (x13 _ _ e) ?_
      walk_at "9"
      walk_at "21"
      walk_at "11"
      walk_at "9"
      walk_at "69"
      walk_at "9"
      walk_at "7"
      walk_at "10"
      refine is_ve T hk (x13 _ _ e) ?_
      walk_at "88"
      walk_at "10"
      walk_at "82"
      intro p4 H4 n4 x4 e4
      refine v_plus_lst (x4 _ _ e3) e4 (szL (Nat.le_of_ble_eq_true rfl)) fun p5 H5 n5 x5 e5 => ?_
      have e5 : H5 p5 = some (.lst (kindsV k)) := e5
      have eH := xtr x13 (xtr x4 x5) _ _ e
      walk_at "6"
      walk_at "0"
      walk_at "4"
      walk_at "18"
      walk_at "14"
      walk_at "8"
      walk_at "36"
      walk_at "69"
      refine ⟨ty_l e5, ?_⟩
      walk_at "9"
      walk_at "7"
      walk_at "10"
      refine v_cnt hk e5 ?_
      walk_at "7"
      walk_at "76"
      walk_at "88"
      walk_at "89"
      walk_at "14"
      walk_at "8"
      walk_at "36"
      walk_at "69"
      refine ⟨ty_l e5, ?_⟩
      walk_at "9"
      walk_at "7"
      walk_at "10"
      refine v_kidx hk e5 ?_
      walk_at "7"
      walk_at "55"
      walk_at "88"
      refine k_if (fun g => absurd g (by omega)) (fun _ => ?_)
      walk_at "5"
      walk_at "2"
      walk_at "34"
      walk_at "9"
      walk_at "8"
      walk_at "7"
      walk_at "36"
      walk_at "69"
      refine ⟨ty_l e5, ?_⟩
      walk_at "9"
      walk_at "7"
      walk_at "10"
      refine v_kidx hk e5 ?_
      walk_at "56"
      walk_at "9"
      show tVar 2 _ _ _
      walk_at "69"
      refine ⟨rfl, errC T k, d, _, _, rfl, (err_nm T hk).1, (err_nm T hk).2, rfl, eH, rfl, ?_⟩
      walk_at "10"
      walk_at "82"
      intro p6 H6 n6 x6 e6
      refine q p6 H6 (xtr hX (xtr x13 (xtr x4 (xtr x5 x6)))) ?_
      unfold dueV
      rw [hc, e6]
      rw [show (1 : Int) + ((k - 1 : Nat) : Int) = (k : Int) by omega]


theorem law_tail_ok (T : Top0 P K mg) {l hp bp mp cp rl b1 b2 b3 b4 p6 pp pq du vo p1 p2 p3 p4 : Addr} {v : V} {y8 : Option V} {x : Lex} {Gf : List (Str × List Str × Str)} {zs : List Str} {Q : VK} {σ : L2.St} {H : Hp} (q : ∀ H', Q (.bl true) H') (hc : chkF x.S x.rows [] = none) (hm : LawMid T l hp bp mp cp rl b1 b2 b3 b4 p6 pp pq du vo p1 p2 p3 p4 v y8 x Gf zs σ H) : law_tail T { nx := fun _ H' => Q .non H', rt := Q } σ H := by
  obtain ⟨wd, th, y20, y21, G2, rfl, B5, hV, hU, LT, nth, okU, hcU⟩ := hm
  unfold law_tail
  have ia0 : atI [V.ref p1, .ref p2, .ref p3, .ref p4] 0 = some (.ref p1) := rfl
  have ia1 : atI [V.ref p1, .ref p2, .ref p3, .ref p4] 1 = some (.ref p2) := rfl
  have ia2 : atI [V.ref p1, .ref p2, .ref p3, .ref p4] 2 = some (.ref p3) := rfl
  have ia3 : atI [V.ref p1, .ref p2, .ref p3, .ref p4] 3 = some (.ref p4) := rfl
  walk_at "0"
  walk_at "4"
  walk_at "14"
  walk_at "8"
  walk_at "69"
  walk_at "34"
  walk_at "9"
  walk_at "69"
  walk_at "9"
  walk_at "69"
  walk_at "9"
  walk_at "69"
  walk_at "9"
  walk_at "69"
  walk_at "10"
  walk_at "82"
  intro pz G12 m12 w12 h12
  replace B5 := B5.mono w12
  replace hV := hV.mono w12
  replace hU := hU.mono w12
  replace LT := LT.mono w12
  refine d_neq B5.pqs (B5.lss h12) B5.sh (by decide) ?_
  clear h12 m12 w12
  obtain ⟨z1, e1, d1⟩ := B5.M1.lst
  obtain ⟨z2, e2, d2⟩ := B5.M2.lst
  obtain ⟨z3, e3, d3⟩ := B5.M3.lst
  obtain ⟨z4, e4, d4⟩ := B5.M4.lst
  have h5 := B5.h5
  have l1 := d1.len
  have l2 := d2.len
  have l4 := d4.len
  rw [List.length_map] at l1 l2 l4
  have s1 := B5.ok.slen
  have s2 := B5.ok.le
  have s4 := B5.lG
  unfold Lex.rows at s2
  simp only [List.length_append, List.length_map] at s2
  clear d1 d2 d3 d4
  walk_at "88"
  walk_at "89"
  walk_at "5"
  walk_at "0"
  walk_at "3"
  walk_at "36"
  walk_at "8"
  walk_at "69"
  walk_at "7"
  walk_at "79"
  refine ⟨ty_l e1, ?_⟩
  walk_at "9"
  walk_at "7"
  walk_at "10"
  refine v_app e1 (by omega) ?_
  have X1 : Xm [p1, p2, p3, p4] G12 (upd G12 p1 (.lst (z1 ++ [V.str "zz"]))) := Xm.upd (List.mem_cons_self ..)
  have e2' : (upd G12 p1 (.lst (z1 ++ [V.str "zz"]))) p2 = some (.lst z2) := by rw [upd_ne B5.n12.symm]; exact e2
  have e3' : (upd G12 p1 (.lst (z1 ++ [V.str "zz"]))) p3 = some (.lst z3) := by rw [upd_ne B5.n13.symm]; exact e3
  have e4' : (upd G12 p1 (.lst (z1 ++ [V.str "zz"]))) p4 = some (.lst z4) := by rw [upd_ne B5.n14.symm]; exact e4
  generalize upd G12 p1 (.lst (z1 ++ [V.str "zz"])) = U1 at X1 e2' e3' e4' ⊢
  replace h5 := X1 _ _ B5.h5 B5.n6
  clear e1 e2 e3 e4
  walk_at "0"
  walk_at "3"
  walk_at "36"
  walk_at "8"
  walk_at "69"
  walk_at "7"
  walk_at "79"
  refine ⟨ty_l e2', ?_⟩
  walk_at "9"
  walk_at "35"
  walk_at "9"
  walk_at "7"
  walk_at "9"
  walk_at "35"
  walk_at "10"
  walk_at "83"
  intro t1 V1 nt1 xt1 et1
  walk_at "9"
  walk_at "7"
  walk_at "10"
  walk_at "83"
  intro t2 V2 nt2 xt2 et2
  walk_at "10"
  have x12 := xtr xt1 xt2
  refine v_app (x12 _ _ e2') (by omega) ?_
  have X2 : Xm [p1, p2, p3, p4] V2 (upd V2 p2 (.lst (z2 ++ [V.ref t2]))) := Xm.upd (List.mem_cons_of_mem _ (List.mem_cons_self ..))
  have e3 : (upd V2 p2 (.lst (z2 ++ [V.ref t2]))) p3 = some (.lst z3) := by rw [upd_ne B5.n23.symm]; exact x12 _ _ e3'
  have e4 : (upd V2 p2 (.lst (z2 ++ [V.ref t2]))) p4 = some (.lst z4) := by rw [upd_ne B5.n24.symm]; exact x12 _ _ e4'
  replace X1 := X1.tr ((Xm.of x12).tr X2)
  generalize upd V2 p2 (.lst (z2 ++ [V.ref t2])) = U2 at X1 X2 e3 e4 ⊢
  replace h5 := X1 _ _ B5.h5 B5.n6
  clear e2' e3' e4' X2 x12 xt1 xt2 et1 et2 nt1 nt2
  walk_at "0"
  walk_at "3"
  walk_at "33"
  walk_at "8"
  walk_at "69"
  walk_at "7"
  walk_at "79"
  refine ⟨ty_l e3, ?_⟩
  skip
  refine ⟨p3, z3, rfl, rfl, e3, ?_⟩
  have X3 : Xm [p1, p2, p3, p4] U2 (upd U2 p3 (.lst [])) := Xm.upd (List.mem_cons_of_mem _ (List.mem_cons_of_mem _ (List.mem_cons_self ..)))
  have e4' : (upd U2 p3 (.lst [])) p4 = some (.lst z4) := by rw [upd_ne B5.n34.symm]; exact e4
  replace X1 := X1.tr X3
  generalize upd U2 p3 (.lst []) = U3 at X1 X3 e4' ⊢
  replace h5 := X1 _ _ B5.h5 B5.n6
  clear e3 e4 X3
  walk_at "0"
  walk_at "3"
  walk_at "36"
  walk_at "8"
  walk_at "69"
  walk_at "7"
  walk_at "79"
  refine ⟨ty_l e4', ?_⟩
  walk_at "9"
  walk_at "35"
  walk_at "9"
  walk_at "7"
  walk_at "9"
  walk_at "35"
  walk_at "10"
  walk_at "83"
  intro t3 V3 nt3 xt3 et3
  walk_at "9"
  walk_at "7"
  walk_at "10"
  walk_at "83"
  intro t4 V4 nt4 xt4 et4
  walk_at "10"
  have x34 := xtr xt3 xt4
  refine v_app (x34 _ _ e4') (by omega) ?_
  replace X1 := X1.tr ((Xm.of x34).tr (Xm.upd (H := V4) (a := p4) (o := .lst (z4 ++ [V.ref t4])) (List.mem_cons_of_mem _ (List.mem_cons_of_mem _ (List.mem_cons_of_mem _ (List.mem_cons_self ..))))))
  generalize upd V4 p4 (.lst (z4 ++ [V.ref t4])) = U4 at X1 ⊢
  have hV' := X1.voc B5.lsts hV
  have hU' := X1.voc B5.lsts hU
  have L1' := X1.la B5.lsts B5.L1 im_S B5.n1
  have L2' := X1.la B5.lsts B5.L2 im_F B5.n2
  have L3' := X1.la B5.lsts B5.L3 im_P B5.n3
  have LT' := X1.la B5.lsts LT im_F nth
  have hz' := X1 _ _ B5.hz B5.n5
  clear X1 e4' x34 xt3 xt4 et3 et4 nt3 nt4 h5
  walk_at "2"
  walk_at "19"
  walk_at "12"
  walk_at "9"
  walk_at "69"
  walk_at "9"
  walk_at "69"
  walk_at "9"
  walk_at "69"
  walk_at "9"
  walk_at "69"
  walk_at "9"
  walk_at "69"
  walk_at "10"
  refine ⟨vo, .ref b1, .ref b2, .ref b3, pp, x, zs, rfl, hV', L1', L2', L3', hz', B5.zl, B5.ok, hc, fun W1 xw1 => ?_⟩
  walk_at "88"
  walk_at "90"
  walk_at "12"
  walk_at "9"
  walk_at "69"
  walk_at "9"
  walk_at "69"
  walk_at "9"
  walk_at "69"
  walk_at "9"
  walk_at "69"
  walk_at "9"
  walk_at "69"
  walk_at "10"
  refine ⟨wd, .ref b1, .ref th, .ref b3, pp, ⟨x.S, x.F ++ G2, x.P⟩, zs, rfl, hU'.mono xw1, L1'.mono xw1, LT'.mono xw1, L3'.mono xw1, xw1 _ _ hz', B5.zl, okU, hcU, fun W2 xw2 => ?_⟩
  exact q _

theorem law_none_ok (T : Top0 P K mg) {l hp bp mp cp rl b1 b2 b3 b4 p6 pp pq du vo p1 p2 p3 p4 : Addr} {v : V} {y8 : Option V} {x : Lex} {Gf : List (Str × List Str × Str)} {zs : List Str} {R : VK} {G : Hp} {y18 y19 y20 y21 : Option V} (B5 : Big K G b1 b2 b3 b4 p1 p2 p3 p4 pq pp x Gf zs) (hV : VocX K T.C_Vocabulary G vo x) (hc2 : chkF x.S (Lex.rows ⟨x.S, x.F ++ Gf, x.P⟩) [] = none) : law_none T { nx := LawMid T l hp bp mp cp rl b1 b2 b3 b4 p6 pp pq du vo p1 p2 p3 p4 v y8 x Gf zs, rt := R } [some (.ref l), some (.ref hp), some (.ref bp), some (.str smallS), some (v), some (.ref mp), some (.ref cp), some (.ref rl), y8, some (.ref b1), some (.ref b2), some (.ref b3), some (.ref b4), some (.ref p6), some (.ref pp), some (.ref pq), some (.ref du), some (.ref vo), y18, y19, y20, y21, none, none] G := by
  have okF := B5.okF
  have lex := okF.le
  unfold Lex.rows at lex
  simp only [List.length_append, List.length_map] at lex
  obtain ⟨q2, f2, dd2⟩ := B5.L2.lst
  obtain ⟨q4, f4, dd4⟩ := B5.L4.lst
  have ly2 := dd2.len
  have ly4 := dd4.len
  rw [List.length_map] at ly2 ly4
  unfold law_none
  have ia0 : atI [V.ref p1, .ref p2, .ref p3, .ref p4] 0 = some (.ref p1) := rfl
  have ia1 : atI [V.ref p1, .ref p2, .ref p3, .ref p4] 1 = some (.ref p2) := rfl
  have ia2 : atI [V.ref p1, .ref p2, .ref p3, .ref p4] 2 = some (.ref p3) := rfl
  have ia3 : atI [V.ref p1, .ref p2, .ref p3, .ref p4] 3 = some (.ref p4) := rfl
  walk_at "0"
  walk_at "1"
  walk_at "8"
  walk_at "69"
  walk_at "69"
  refine v_plus_lst f2 f4 (szL (by omega)) fun t2 G1 n1 x1 e1 => ?_
  have nth := B5.fresh n1
  have LG : LsAt K G1 (.ref t2) ((x.F ++ Gf).map fD) := ⟨t2, _, rfl, e1, by rw [List.map_append]; exact DpAll.app (DpAll.mono x1 dd2) (DpAll.mono x1 dd4)⟩
  replace B5 := B5.mono x1
  replace hV := hV.mono x1
  replace f4 := x1 _ _ f4
  clear f2 dd2 dd4 e1 x1 n1 ly2
  have h5 := B5.h5
  obtain ⟨vdx, vfs, _, _, _, _, _, _, _, _, _, hv1, _, _, _, _, _, _, hvm⟩ := id hV
  walk_at "6"
  walk_at "0"
  walk_at "1"
  walk_at "30"
  walk_at "69"
  refine ⟨vo, vdx, vfs, rfl, hv1, hvm _ (by decide), ?_⟩
  walk_at "9"
  walk_at "8"
  walk_at "69"
  walk_at "7"
  walk_at "79"
  walk_at "10"
  refine ⟨vo, .ref p4, x, Gf, rfl, hV, .inl B5.M4.dp, okF, fun _ w2 G2 x2 hW => ?_, fun k z h => by rw [hc2] at h; cases h⟩
  replace B5 := B5.mono x2
  replace hV := hV.mono x2
  replace LG := LG.mono x2
  replace f4 := x2 _ _ f4
  replace hv1 := x2 _ _ hv1
  clear x2 h5
  walk_at "6"
  walk_at "0"
  walk_at "1"
  walk_at "8"
  walk_at "11"
  walk_at "9"
  walk_at "69"
  walk_at "10"
  walk_at "77"
  walk_at "7"
  walk_at "70"
  walk_at "6"
  walk_at "0"
  walk_at "1"
  walk_at "30"
  walk_at "30"
  walk_at "69"
  have eh : (q4.length : Int) / 2 = ((Gf.length / 2 : Nat) : Int) := by omega
  rw [eh]
  generalize Gf.length / 2 = hf
  refine ⟨vo, vdx, vfs, rfl, hv1, hvm _ (by decide), ?_⟩
  walk_at "9"
  walk_at "11"
  walk_at "9"
  walk_at "48"
  walk_at "69"
  walk_at "49"
  walk_at "50"
  walk_at "69"
  walk_at "88"
  refine d_cutl B5.L4.dp fun ps G3 n3 x3 hps => ?_
  rw [cutP_take, ← List.map_take] at hps
  walk_at "10"
  refine d_tupl hps fun t5 G4 x4 ht5 => ?_
  have x34 := xtr x3 x4
  replace B5 := B5.mono x34
  replace hV := hV.mono x34
  replace hW := hW.mono x34
  replace LG := LG.mono x34
  have okH := B5.okG (Gf.take hf) (fun r h => List.mem_of_mem_take h) (by rw [List.length_take]; have := B5.lG; omega)
  have hcH := chk_half hc2 (List.take_sublist hf Gf)
  clear x3 x4 x34 n3 hps f4 hv1 hvm
  walk_at "10"
  refine ⟨vo, t5, x, Gf.take hf, rfl, hV, .inr ht5, okH, fun _ w3 G5 x5 hX => ?_, fun k z h => by rw [hcH] at h; cases h⟩
  replace B5 := B5.mono x5
  replace hV := hV.mono x5
  replace hW := hW.mono x5
  replace LG := LG.mono x5
  clear x5 ht5 okH hcH
  obtain ⟨xdx, xfs, _, _, _, _, _, _, _, _, _, hx1, _, _, _, _, _, _, hxm⟩ := id hX
  refine ⟨w3, xdx, xfs, rfl, hx1, hxm _ (by decide), ?_⟩
  walk_at "9"
  walk_at "48"
  walk_at "69"
  walk_at "50"
  walk_at "69"
  walk_at "88"
  walk_at "49"
  refine d_cutl B5.L4.dp fun ps2 G6 n6 x6 hps2 => ?_
  rw [cutP_drop, ← List.map_drop] at hps2
  replace B5 := B5.mono x6
  replace hV := hV.mono x6
  replace hW := hW.mono x6
  replace hX := hX.mono x6
  replace LG := LG.mono x6
  clear x6 n6 hx1 hxm
  walk_at "10"
  have eF : (x.F ++ Gf.take hf) ++ Gf.drop hf = x.F ++ Gf := by rw [List.append_assoc, List.take_append_drop]
  have okO : RowsB x.S (Lex.rows ⟨x.S, (x.F ++ Gf.take hf) ++ Gf.drop hf, x.P⟩) := by rw [eF]; exact okF
  have hcO : chkF x.S (Lex.rows ⟨x.S, (x.F ++ Gf.take hf) ++ Gf.drop hf, x.P⟩) [] = none := by rw [eF]; exact hc2
  refine ⟨w3, .ref ps2, ⟨x.S, x.F ++ Gf.take hf, x.P⟩, Gf.drop hf, rfl, hX, .inl hps2, okO, fun _ w4 G7 x7 hY => ?_, fun k z h => by rw [show chkF x.S (Lex.rows ⟨x.S, (x.F ++ Gf.take hf) ++ Gf.drop hf, x.P⟩) [] = none from hcO] at h; cases h⟩
  replace hY : VocX K T.C_Vocabulary G7 w4 ⟨x.S, x.F ++ Gf, x.P⟩ := by
    have hY : VocX K T.C_Vocabulary G7 w4 ⟨x.S, (x.F ++ Gf.take hf) ++ Gf.drop hf, x.P⟩ := hY
    rw [eF] at hY; exact hY
  replace B5 := B5.mono x7
  replace hV := hV.mono x7
  replace hW := hW.mono x7
  replace LG := LG.mono x7
  clear x7 hps2 hX okO hcO eF
  walk_at "6"
  walk_at "4"
  walk_at "18"
  walk_at "16"
  walk_at "15"
  walk_at "12"
  walk_at "9"
  walk_at "69"
  walk_at "9"
  walk_at "69"
  walk_at "9"
  walk_at "69"
  walk_at "9"
  walk_at "69"
  walk_at "9"
  walk_at "69"
  walk_at "10"
  refine ⟨w2, .ref b1, .ref t2, .ref b3, pp, ⟨x.S, x.F ++ Gf, x.P⟩, zs, rfl, hW, B5.L1, LG, B5.L3, B5.hz, B5.zl, okF, hc2, fun W1 xw1 => ?_⟩
  replace B5 := B5.mono xw1
  replace hV := hV.mono xw1
  replace hW := hW.mono xw1
  replace hY := hY.mono xw1
  replace LG := LG.mono xw1
  clear xw1
  walk_at "88"
  walk_at "89"
  walk_at "16"
  walk_at "15"
  walk_at "12"
  walk_at "9"
  walk_at "69"
  walk_at "9"
  walk_at "69"
  walk_at "9"
  walk_at "69"
  walk_at "9"
  walk_at "69"
  walk_at "9"
  walk_at "69"
  walk_at "10"
  refine ⟨w4, .ref b1, .ref t2, .ref b3, pp, ⟨x.S, x.F ++ Gf, x.P⟩, zs, rfl, hY, B5.L1, LG, B5.L3, B5.hz, B5.zl, okF, hc2, fun W2 xw2 => ?_⟩
  replace B5 := B5.mono xw2
  replace hV := hV.mono xw2
  replace hW := hW.mono xw2
  replace LG := LG.mono xw2
  walk_at "88"
  walk_at "89"
  walk_at "5"
  exact ⟨w2, t2, _, _, Gf, rfl, B5, hV, hW, LG, nth, okF, hc2⟩

theorem law_sec5_ok (T : Top0 P K mg) {l hp bp mp cp rl b1 b2 b3 b4 p6 pp pq du vo p1 p2 p3 p4 : Addr} {v : V} {y8 : Option V} {x : Lex} {Gf : List (Str × List Str × Str)} {zs : List Str} {Q : VK} {G20 : Hp} {y18 y19 y20 y21 : Option V} (q : ∀ H', Q (.bl true) H') (hc : chkF x.S x.rows [] = none) (B5 : Big K G20 b1 b2 b3 b4 p1 p2 p3 p4 pq pp x Gf zs) (hV : VocX K T.C_Vocabulary G20 vo x) (hdu : G20 du = some (.lst (dueV ⟨x.S, x.F ++ Gf, x.P⟩))) : law_sec5 T { nx := fun _ H' => Q .non H', rt := Q } [some (.ref l), some (.ref hp), some (.ref bp), some (.str smallS), some (v), some (.ref mp), some (.ref cp), some (.ref rl), y8, some (.ref b1), some (.ref b2), some (.ref b3), some (.ref b4), some (.ref p6), some (.ref pp), some (.ref pq), some (.ref du), some (.ref vo), y18, y19, y20, y21, none, none] G20 := by
  unfold law_sec5
  have h5 := B5.h5
  have ia0 : atI [V.ref p1, .ref p2, .ref p3, .ref p4] 0 = some (.ref p1) := rfl
  have ia1 : atI [V.ref p1, .ref p2, .ref p3, .ref p4] 1 = some (.ref p2) := rfl
  have ia2 : atI [V.ref p1, .ref p2, .ref p3, .ref p4] 2 = some (.ref p3) := rfl
  have ia3 : atI [V.ref p1, .ref p2, .ref p3, .ref p4] 3 = some (.ref p4) := rfl
  walk_at "0"
  walk_at "1"
  refine k_methN ?_
  refine k_makeK ?_
  walk_at "10"
  walk_at "9"
  walk_at "8"
  walk_at "69"
  walk_at "7"
  walk_at "79"
  walk_at "9"
  walk_at "8"
  walk_at "69"
  walk_at "7"
  walk_at "79"
  walk_at "9"
  walk_at "8"
  walk_at "69"
  walk_at "7"
  walk_at "79"
  walk_at "10"
  walk_at "87"
  intro wo wd hwo hwd hwne
  have xb : Xt G20 (upd (upd G20 wd (.own wo)) wo (.ins T.C_Vocabulary wd [])) := fun c o hc => by
    rw [upd_ne (fun e => by rw [e, hwo] at hc; cases hc), upd_ne (fun e => by rw [e, hwd] at hc; cases hc)]; exact hc
  have xt2 : ∀ H', Xa wo (upd (upd G20 wd (.own wo)) wo (.ins T.C_Vocabulary wd [])) H' → Xt G20 H' := fun H' xa c o hc => xa c o (fun e => by rw [e, hwo] at hc; cases hc) (xb c o hc)
  refine ⟨wo, wd, .ref p1, .ref p2, .ref p3, x, rfl, upd_same, .inl (B5.M1.mono xb).dp, .inl (B5.M2.mono xb).dp, .inl (B5.M3.mono xb).dp, B5.ok, fun hc' G21 xa hW => ⟨rfl, ?_⟩, fun k z h => by rw [hc] at h; cases h⟩
  have X21 := xt2 G21 xa
  replace B5 := B5.mono X21
  replace hV := hV.mono X21
  replace hdu := X21 _ _ hdu
  clear xt2 xb xa X21 hwo hwd hwne hc' h5
  obtain ⟨wdx, wfs, _, _, _, _, _, _, _, _, _, hw1, _, _, _, _, _, _, hwm⟩ := id hW
  refine ⟨wo, wdx, wfs, rfl, hw1, hwm _ (by decide), ?_⟩
  have h5 := B5.h5
  walk_at "9"
  walk_at "48"
  walk_at "8"
  walk_at "69"
  walk_at "7"
  walk_at "79"
  walk_at "49"
  walk_at "50"
  walk_at "7"
  walk_at "88"
  refine d_cutl B5.M4.dp fun ps G22 n22 x22 hps => ?_
  rw [cutP_zero] at hps
  replace B5 := B5.mono x22
  replace hV := hV.mono x22
  replace hdu := x22 _ _ hdu
  replace hW := hW.mono x22
  clear x22 h5 hw1 hwm
  walk_at "10"
  refine ⟨rfl, ?_⟩
  have ok0 := B5.okG [] (fun r h => by cases h) (by decide)
  have hc0 : chkF x.S (Lex.rows ⟨x.S, x.F ++ [], x.P⟩) [] = none := by rw [lex_nil]; exact hc
  refine ⟨wo, .ref ps, x, [], rfl, hW, .inl hps, ok0, fun _ wv G23 x23 hU => ?_, fun k z h => by rw [hc0] at h; cases h⟩
  rw [lex_nil] at hU
  replace B5 := B5.mono x23
  replace hV := hV.mono x23
  replace hdu := x23 _ _ hdu
  clear x23 hW hps n22 ok0 hc0
  walk_at "6"
  walk_at "0"
  walk_at "4"
  walk_at "16"
  walk_at "15"
  walk_at "12"
  walk_at "9"
  walk_at "69"
  walk_at "9"
  walk_at "69"
  walk_at "9"
  walk_at "69"
  walk_at "9"
  walk_at "69"
  walk_at "9"
  walk_at "69"
  walk_at "10"
  refine ⟨wv, .ref b1, .ref b2, .ref b3, pp, x, zs, rfl, hU, B5.L1, B5.L2, B5.L3, B5.hz, B5.zl, B5.ok, hc, fun G24 x24 => ?_⟩
  replace B5 := B5.mono x24
  replace hV := hV.mono x24
  replace hU := hU.mono x24
  replace hdu := x24 _ _ hdu
  clear x24
  walk_at "88"
  walk_at "89"
  walk_at "5"
  walk_at "0"
  walk_at "1"
  walk_at "11"
  walk_at "9"
  walk_at "69"
  walk_at "10"
  refine d_lstl (.inl B5.L2.dp) fun th y5 G25 n25 x25 e25 d25 => ?_
  have nth := B5.fresh n25
  have LT : LsAt K G25 (.ref th) (x.F.map fD) := ⟨th, y5, rfl, e25, d25⟩
  replace B5 := B5.mono x25
  replace hV := hV.mono x25
  replace hU := hU.mono x25
  replace hdu := x25 _ _ hdu
  clear x25 e25 d25 n25
  walk_at "6"
  refine k_cut (LawMid T l hp bp mp cp rl b1 b2 b3 b4 p6 pp pq du vo p1 p2 p3 p4 v y8 x Gf zs) ?_ ?_
  · cases hc2 : chkF x.S (Lex.rows ⟨x.S, x.F ++ Gf, x.P⟩) [] with
    | some kz =>
      obtain ⟨k9, z9⟩ := kz
      have hv : dueV ⟨x.S, x.F ++ Gf, x.P⟩ = [.int k9, .str z9] := by unfold dueV; rw [hc2]
      have hk := chk_range hc2
      rw [hv] at hdu
      have ik : atI [V.int (k9 : Int), .str z9] 0 = some (.int k9) := rfl
      walk_at "4"
      walk_at "14"
      walk_at "8"
      walk_at "8"
      walk_at "69"
      walk_at "7"
      walk_at "79"
      walk_at "7"
      walk_at "75"
      walk_at "88"
      refine k_if (fun g => ?_) (fun g => ?_)
      · injection g with g; omega
      · walk_at "5"
        refine ⟨wv, th, y20, y21, [], rfl, B5, hV, ?_, ?_, nth, B5.okG [] (fun r h => by cases h) (by decide), ?_⟩
        · rw [lex_nil]; exact hU
        · rw [List.append_nil]; exact LT
        · rw [lex_nil]; exact hc
    | none =>
      have hv : dueV ⟨x.S, x.F ++ Gf, x.P⟩ = [.int 0, .str ""] := by unfold dueV; rw [hc2]
      rw [hv] at hdu
      have ik : atI [V.int 0, .str ""] 0 = some (.int 0) := rfl
      walk_at "4"
      walk_at "14"
      walk_at "8"
      walk_at "8"
      walk_at "69"
      walk_at "7"
      walk_at "79"
      walk_at "7"
      walk_at "75"
      walk_at "88"
      walk_at "90"
      exact law_none_ok T B5 hV hc2
  intro σ' H' hm
  exact law_tail_ok T q hc hm

theorem ok_law (T : Top0 P K mg) : FnOk P w K mg base CX0 10 T.f_law T.fd_law ["script"] (sp_lawK K) := by
  refine T.F_law.ok sc_law (fun vs H Q E h => ?_) (fun cdv A outer s H vs Q E hr h => ?_)
  · obtain ⟨l, ns, rfl, hS, hns, q⟩ := h
    rfl
  · obtain ⟨l, ns, rfl, hS, hns, q⟩ := h
    refine ⟨_, (pss_cons (ps_set (i := 1) sc_law.nd rfl (Or.inl rfl) (pe_call (ok__law_digits T) (hr.mono (by first | decide | exact Nat.le_refl _ | omega | (show _ ≤ _ + n; omega))) (by rfl) T.g__law_digits T.F__law_digits.kp T.b__law_digits .nil pass0 (pa_cons (pe_call (ok__law_cell T) (hr.mono (by first | decide | exact Nat.le_refl _ | omega | (show _ ≤ _ + n; omega))) (by rfl) T.g__law_cell T.F__law_cell.kp T.b__law_cell .nil pass0 (pa_cons (pv 0) (pa_cons pe_int pa_nil))) (pa_cons (pe_lst (pa_cons pe_int (pa_cons pe_int (pa_cons pe_int (pa_cons pe_int (pa_cons pe_int (pa_cons pe_int (pa_cons pe_int (pa_cons pe_int pa_nil))))))))) pa_nil))))
      (pss_cons (ps_set (i := 2) sc_law.nd rfl (Or.inr rfl) (pe_call (ok__law_digits T) (hr.mono (by first | decide | exact Nat.le_refl _ | omega | (show _ ≤ _ + n; omega))) (by rfl) T.g__law_digits T.F__law_digits.kp T.b__law_digits .nil pass0 (pa_cons (pe_call (ok__law_cell T) (hr.mono (by first | decide | exact Nat.le_refl _ | omega | (show _ ≤ _ + n; omega))) (by rfl) T.g__law_cell T.F__law_cell.kp T.b__law_cell .nil pass0 (pa_cons (pv 0) (pa_cons pe_int pa_nil))) (pa_cons (pe_lst (pa_cons pe_int (pa_cons pe_int (pa_cons pe_int (pa_cons pe_int (pa_cons pe_int (pa_cons pe_int (pa_cons pe_int (pa_cons pe_int (pa_cons pe_int (pa_cons pe_int (pa_cons pe_int pa_nil)))))))))))) pa_nil))))
      (pss_cons (ps_set (i := 3) sc_law.nd rfl (Or.inr rfl) pe_str)
      (pss_cons (ps_set (i := 4) sc_law.nd rfl (Or.inl rfl) (pe_lst (pa_cons (pe_op (r := rPlus K) op_plus (pe_ix (r := rIx K) ix_seq (pv 3) (pe_ix (r := rIx K) ix_seq (pv 2) pe_int (fun _ _ => rfl)) (fun _ _ => rfl)) (pe_joinN pe_str (pe_lc (own := [("j", 23)]) (g := gName 23) rfl sc_law.nd (pi_range1 (by rfl) T.n_range (pa_cons (pe_op (r := rPlus K) op_plus pe_int (pe_ix (r := rIx K) ix_seq (pv 2) pe_int (fun _ _ => rfl))) pa_nil)) (blkOk_by (N := N_law) (sc := defScope s_law) (by decide +kernel)) (fun _ _ _ _ _ => (pg_name (i := 23) sc_law.nd rfl (Or.inl rfl))) (fun _ _ _ _ _ => pts_nil) (fun _ _ _ _ _ => (pe_ix (r := rIx K) ix_seq (pv 3) (pe_ix (r := rIx K) ix_seq (pv 2) (pe_op (r := rPlus K) op_plus pe_int (pv 23)) (fun _ _ => rfl)) (fun _ _ => rfl)))))) (pa_cons (pe_op op_mod (pe_callTy call_intU (by rfl) T.n_int PyProof.Rows.boot_int (pa_cons (pe_ix (r := rIx K) ix_seq (pv 2) pe_int (fun _ _ => rfl)) pa_nil)) (pe_op (r := rPlus K) op_plus pe_int (pe_ix (r := rIx K) ix_seq (pv 2) pe_int (fun _ _ => rfl)))) pa_nil))))
      (Evl.pss_cut (ps_if (pt_cmpR (r := rEqU K) (op_eqU hr) (pe_ix (r := rIx K) ix_seq (pv 1) pe_int (fun _ _ => rfl)) pe_int (nomark _)) (pss_one (ps_set (i := 4) sc_law.nd rfl (Or.inl rfl) pe_non)) pss_nil)
      (pss_cons (ps_set (i := 5) sc_law.nd rfl (Or.inl rfl) (pe_lst (pa_cons pe_int (pa_cons pe_int (pa_cons pe_int (pa_cons pe_int (pa_cons pe_int (pa_cons pe_int (pa_cons pe_int (pa_cons pe_int (pa_cons pe_int (pa_cons pe_int (pa_cons pe_int (pa_cons pe_int (pa_cons pe_int (pa_cons pe_int (pa_cons pe_int (pa_cons pe_int pa_nil))))))))))))))))))
      (pss_cons (ps_set (i := 6) sc_law.nd rfl (Or.inl rfl) (pe_lst (pa_cons (pe_ix (r := rIx K) ix_seq (pe_lst (pa_cons pe_int (pa_cons pe_int (pa_cons pe_int (pa_cons pe_int (pa_cons pe_int (pa_cons pe_int pa_nil))))))) (pe_ix (r := rIx K) ix_seq (pv 1) pe_int (fun _ _ => rfl)) (fun _ _ => rfl)) (pa_cons (pe_ix (r := rIx K) ix_seq (pv 5) (pe_ix (r := rIx K) ix_seq (pv 1) pe_int (fun _ _ => rfl)) (fun _ _ => rfl)) (pa_cons (pe_ix (r := rIx K) ix_seq (pv 5) (pe_ix (r := rIx K) ix_seq (pv 1) pe_int (fun _ _ => rfl)) (fun _ _ => rfl)) (pa_cons (pe_ix (r := rIx K) ix_seq (pv 5) (pe_ix (r := rIx K) ix_seq (pv 1) pe_int (fun _ _ => rfl)) (fun _ _ => rfl)) pa_nil))))))
      (Evl.pss_cut (ps_if (PW.pt (pw_and (pt_cmpR (r := rEqU K) (op_eqU hr) (pe_ix (r := rIx K) ix_seq (pv 6) pe_int (fun _ _ => rfl)) pe_int (nomark _)) (pw_and1 (pt_cmpR op_lt (pe_ix (r := rIx K) ix_seq (pv 1) pe_int (fun _ _ => rfl)) pe_int (nomark _))))) (pss_one (ps_set (i := 6) sc_law.nd rfl (Or.inl rfl) (pe_lst (pa_cons pe_int (pa_cons pe_int (pa_cons (pe_ix (r := rIx K) ix_seq (pv 6) pe_int (fun _ _ => rfl)) (pa_cons pe_int pa_nil))))))) pss_nil)
      (pss_cons (ps_set (i := 7) sc_law.nd rfl (Or.inl rfl) (pe_call (ok__law_rows T) (hr.mono (by first | decide | exact Nat.le_refl _ | omega | (show _ ≤ _ + n; omega))) (by rfl) T.g__law_rows T.F__law_rows.kp T.b__law_rows .nil pass0 (pa_cons (pv 0) (pa_cons (pv 6) (pa_cons (pv 4) pa_nil)))))
      (Evl.pss_cut (ps_if (PW.pt (pw_and (pt_cmpR op_lt (pe_ix (r := rIx K) ix_seq (pv 1) pe_int (fun _ _ => rfl)) pe_int (nomark _)) (pw_and1 (pt_cmpR op_gt (pe_ix (r := rIx K) ix_seq (pv 1) pe_int (fun _ _ => rfl)) pe_int (nomark _))))) (pss_one (ps_expr (pe_call (ok__law_spoil_behind T) (hr.mono (by first | decide | exact Nat.le_refl _ | omega | (show _ ≤ _ + n; omega))) (by rfl) T.g__law_spoil_behind T.F__law_spoil_behind.kp T.b__law_spoil_behind .nil pass0 (pa_cons (pv 7) (pa_cons (pe_call (ok__law_cell T) (hr.mono (by first | decide | exact Nat.le_refl _ | omega | (show _ ≤ _ + n; omega))) (by rfl) T.g__law_cell T.F__law_cell.kp T.b__law_cell .nil pass0 (pa_cons (pv 0) (pa_cons pe_int pa_nil))) pa_nil))))) (pss_one (ps_if (PW.pt (pw_and (pt_cmpR op_gt (pe_ix (r := rIx K) ix_seq (pv 1) pe_int (fun _ _ => rfl)) pe_int (nomark _)) (pw_and1 (pt_cmpR op_gt (pe_ix (r := rIx K) ix_seq (pv 6) pe_int (fun _ _ => rfl)) pe_int (nomark _))))) (pss_one (ps_expr (pe_call (ok__law_spoil_sorts T) (hr.mono (by first | decide | exact Nat.le_refl _ | omega | (show _ ≤ _ + n; omega))) (by rfl) T.g__law_spoil_sorts T.F__law_spoil_sorts.kp T.b__law_spoil_sorts .nil pass0 (pa_cons (pv 0) (pa_cons (pe_slice (r := rSlU K) sl_any (pv 7) po_none (po_some (pe_ix (r := rIx K) ix_seq (pv 6) pe_int (fun _ _ => rfl)))) (pa_cons (pe_op op_sub (pe_ix (r := rIx K) ix_seq (pv 1) pe_int (fun _ _ => rfl)) pe_int) pa_nil)))))) (pss_one (ps_if (pt_cmpR op_gt (pe_callB (r := rLenU K) call_lenU (by rfl) T.n_len PySem.boot_len (pa_cons (pv 7) pa_nil)) pe_int (nomark _)) (pss_one (ps_for PassesOwn.never rfl (pi_range1 (by rfl) T.n_range (pa_cons (pe_ix (r := rIx K) ix_seq (pe_lst (pa_cons pe_int (pa_cons pe_int (pa_cons pe_int (pa_cons pe_int (pa_cons pe_int (pa_cons pe_int (pa_cons pe_int (pa_cons pe_int pa_nil))))))))) (pe_ix (r := rIx K) ix_seq (pv 1) pe_int (fun _ _ => rfl)) (fun _ _ => rfl)) pa_nil)) (pg_name (i := 8) sc_law.nd rfl (Or.inl rfl)) (pss_one (ps_expr (pe_call (ok__law_spoil T) (hr.mono (by first | decide | exact Nat.le_refl _ | omega | (show _ ≤ _ + n; omega))) (by rfl) T.g__law_spoil T.F__law_spoil.kp T.b__law_spoil .nil pass0 (pa_cons (pv 7) (pa_cons (pe_call (ok__law_cell T) (hr.mono (by first | decide | exact Nat.le_refl _ | omega | (show _ ≤ _ + n; omega))) (by rfl) T.g__law_cell T.F__law_cell.kp T.b__law_cell .nil pass0 (pa_cons (pv 0) (pa_cons (pe_op (r := rPlus K) op_plus pe_int (pv 8)) pa_nil))) pa_nil))))))) pss_nil)))))
      (pss_cons (ps_setLc (i := 9) (own := [("row", 22)]) (g := gName 22) rfl sc_law.nd rfl rfl (sw_true rfl rfl rfl (by decide +kernel)) (pi_list (pv 7)) (blkOk_by (N := N_law) (sc := defScope s_law) (by decide +kernel)) (fun _ _ _ _ _ => (pg_name (i := 22) sc_law.nd rfl (Or.inl rfl))) (fun _ _ _ _ _ => pts_one (pt_cmpR (r := rEqU K) (op_eqU hr) (pe_ix (r := rIx K) ix_seq (pv 22) pe_int (fun _ _ => rfl)) pe_int (nomark _))) (fun _ _ _ _ _ => (pe_ix (r := rIx K) ix_seq (pv 22) pe_int (fun _ _ => rfl))))
      (pss_cons (ps_setLc (i := 10) (own := [("row", 22)]) (g := gName 22) rfl sc_law.nd rfl rfl (sw_true rfl rfl rfl (by decide +kernel)) (pi_list (pv 7)) (blkOk_by (N := N_law) (sc := defScope s_law) (by decide +kernel)) (fun _ _ _ _ _ => (pg_name (i := 22) sc_law.nd rfl (Or.inl rfl))) (fun _ _ _ _ _ => pts_one (pt_cmpR (r := rEqU K) (op_eqU hr) (pe_ix (r := rIx K) ix_seq (pv 22) pe_int (fun _ _ => rfl)) pe_int (nomark _))) (fun _ _ _ _ _ => (pe_tup (pa_cons (pe_ix (r := rIx K) ix_seq (pv 22) pe_int (fun _ _ => rfl)) (pa_cons (pe_callTy (r := rTup K) call_tupU (by rfl) T.n_tuple (by decide +kernel) (pa_cons (pe_ix (r := rIx K) ix_seq (pv 22) pe_int (fun _ _ => rfl)) pa_nil)) (pa_cons (pe_ix (r := rIx K) ix_seq (pv 22) pe_int (fun _ _ => rfl)) pa_nil))))))
      (pss_cons (ps_setLc (i := 11) (own := [("row", 22)]) (g := gName 22) rfl sc_law.nd rfl rfl (sw_true rfl rfl rfl (by decide +kernel)) (pi_list (pv 7)) (blkOk_by (N := N_law) (sc := defScope s_law) (by decide +kernel)) (fun _ _ _ _ _ => (pg_name (i := 22) sc_law.nd rfl (Or.inl rfl))) (fun _ _ _ _ _ => pts_one (pt_cmpR (r := rEqU K) (op_eqU hr) (pe_ix (r := rIx K) ix_seq (pv 22) pe_int (fun _ _ => rfl)) pe_int (nomark _))) (fun _ _ _ _ _ => (pe_tup (pa_cons (pe_ix (r := rIx K) ix_seq (pv 22) pe_int (fun _ _ => rfl)) (pa_cons (pe_callTy (r := rTup K) call_tupU (by rfl) T.n_tuple (by decide +kernel) (pa_cons (pe_ix (r := rIx K) ix_seq (pv 22) pe_int (fun _ _ => rfl)) pa_nil)) pa_nil)))))
      (pss_cons (ps_setLc (i := 12) (own := [("row", 22)]) (g := gName 22) rfl sc_law.nd rfl rfl (sw_true rfl rfl rfl (by decide +kernel)) (pi_list (pv 7)) (blkOk_by (N := N_law) (sc := defScope s_law) (by decide +kernel)) (fun _ _ _ _ _ => (pg_name (i := 22) sc_law.nd rfl (Or.inl rfl))) (fun _ _ _ _ _ => pts_one (pt_cmpR (r := rEqU K) (op_eqU hr) (pe_ix (r := rIx K) ix_seq (pv 22) pe_int (fun _ _ => rfl)) pe_int (nomark _))) (fun _ _ _ _ _ => (pe_tup (pa_cons (pe_ix (r := rIx K) ix_seq (pv 22) pe_int (fun _ _ => rfl)) (pa_cons (pe_callTy (r := rTup K) call_tupU (by rfl) T.n_tuple (by decide +kernel) (pa_cons (pe_ix (r := rIx K) ix_seq (pv 22) pe_int (fun _ _ => rfl)) pa_nil)) (pa_cons (pe_ix (r := rIx K) ix_seq (pv 22) pe_int (fun _ _ => rfl)) pa_nil))))))
      (pss_cons (ps_set (i := 13) sc_law.nd rfl (Or.inl rfl) (pe_slice (r := rSlU K) sl_any (pe_slice (r := rSlU K) sl_any (pv 7) (po_some (pe_op op_mod (pe_callTy call_intU (by rfl) T.n_int PyProof.Rows.boot_int (pa_cons (pe_ix (r := rIx K) ix_seq (pv 2) pe_int (fun _ _ => rfl)) pa_nil)) (pe_op (r := rPlus K) op_plus (pe_callB (r := rLenU K) call_lenU (by rfl) T.n_len PySem.boot_len (pa_cons (pv 7) pa_nil)) pe_int))) po_none) po_none (po_some pe_int)))
      (pss_cons (ps_set (i := 14) sc_law.nd rfl (Or.inl rfl) (pe_op (r := rPlus K) op_plus (pe_lc (own := [("row", 22)]) (g := gName 22) rfl sc_law.nd (pi_list (pv 7)) (blkOk_by (N := N_law) (sc := defScope s_law) (by decide +kernel)) (fun _ _ _ _ _ => (pg_name (i := 22) sc_law.nd rfl (Or.inl rfl))) (fun _ _ _ _ _ => pts_nil) (fun _ _ _ _ _ => (pe_ix (r := rIx K) ix_seq (pv 22) pe_int (fun _ _ => rfl)))) (pe_lst (pa_cons (pe_ix (r := rIx K) ix_seq (pv 3) (pe_ix (r := rIx K) ix_seq (pv 2) pe_int (fun _ _ => rfl)) (fun _ _ => rfl)) (pa_cons pe_str (pa_cons pe_str (pa_cons pe_str (pa_cons pe_str (pa_cons pe_str pa_nil)))))))))
      (pss_cons (ps_set (i := 14) sc_law.nd rfl (Or.inl rfl) (pe_op (r := rPlus K) op_plus (pe_op (r := rPlus K) op_plus (pe_op (r := rPlus K) op_plus (pv 14) (pe_lc (own := [("row", 22)]) (g := gName 22) rfl sc_law.nd (pi_list (pv 13)) (blkOk_by (N := N_law) (sc := defScope s_law) (by decide +kernel)) (fun _ _ _ _ _ => (pg_name (i := 22) sc_law.nd rfl (Or.inl rfl))) (fun _ _ _ _ _ => pts_nil) (fun _ _ _ _ _ => (pe_op (r := rPlus K) op_plus (pe_ix (r := rIx K) ix_seq (pv 22) pe_int (fun _ _ => rfl)) pe_str)))) (pe_lc (own := [("row", 22)]) (g := gName 22) rfl sc_law.nd (pi_list (pv 13)) (blkOk_by (N := N_law) (sc := defScope s_law) (by decide +kernel)) (fun _ _ _ _ _ => (pg_name (i := 22) sc_law.nd rfl (Or.inl rfl))) (fun _ _ _ _ _ => pts_nil) (fun _ _ _ _ _ => (pe_slice (r := rSlU K) sl_any (pe_ix (r := rIx K) ix_seq (pv 22) pe_int (fun _ _ => rfl)) po_none (po_some (pe_un un_neg pe_int)))))) (pe_lc (own := [("row", 22)]) (g := gName 22) rfl sc_law.nd (pi_list (pv 13)) (blkOk_by (N := N_law) (sc := defScope s_law) (by decide +kernel)) (fun _ _ _ _ _ => (pg_name (i := 22) sc_law.nd rfl (Or.inl rfl))) (fun _ _ _ _ _ => pts_nil) (fun _ _ _ _ _ => (pe_upperN (pe_ix (r := rIx K) ix_seq (pv 22) pe_int (fun _ _ => rfl)))))))
      (pss_cons (ps_set (i := 15) sc_law.nd rfl (Or.inl rfl) (pe_lst (pa_cons (pe_callTy (r := rLst K) call_lstU (by rfl) T.n_list (by decide +kernel) (pa_cons (pv 9) pa_nil)) (pa_cons (pe_callTy (r := rLst K) call_lstU (by rfl) T.n_list (by decide +kernel) (pa_cons (pv 10) pa_nil)) (pa_cons (pe_callTy (r := rLst K) call_lstU (by rfl) T.n_list (by decide +kernel) (pa_cons (pv 11) pa_nil)) (pa_cons (pe_callTy (r := rLst K) call_lstU (by rfl) T.n_list (by decide +kernel) (pa_cons (pv 12) pa_nil)) pa_nil))))))
      (pss_cons (ps_set (i := 16) sc_law.nd rfl (Or.inl rfl) (pe_call (ok__law_due T) (hr.mono (by first | decide | exact Nat.le_refl _ | omega | (show _ ≤ _ + n; omega))) (by rfl) T.g__law_due T.F__law_due.kp T.b__law_due .nil pass0 (pa_cons (pv 9) (pa_cons (pv 10) (pa_cons (pv 11) pa_nil)))))
      (pss_cons (ps_if (PW.pt (pw_or (pt_cmpR (r := rNeU K) (op_neU hr) (pe_call (ok__law_raised T) (hr.mono (by first | decide | exact Nat.le_refl _ | omega | (show _ ≤ _ + n; omega))) (by rfl) T.g__law_raised T.F__law_raised.kp T.b__law_raised .nil pass0 (pa_cons (pe_callTy (r := rTup K) call_tupU (by rfl) T.n_tuple (by decide +kernel) (pa_cons (pv 9) pa_nil)) (pa_cons (pe_ix (r := rIx K) ix_seq (pv 15) pe_int (fun _ _ => rfl)) (pa_cons (pe_callTy (r := rTup K) call_tupU (by rfl) T.n_tuple (by decide +kernel) (pa_cons (pv 11) pa_nil)) pa_nil)))) (pv 16) (nomark _)) (pw_or1 (pt_cmpR (r := rNeU K) (op_neU hr) (pe_call (ok__law_raised T) (hr.mono (by first | decide | exact Nat.le_refl _ | omega | (show _ ≤ _ + n; omega))) (by rfl) T.g__law_raised T.F__law_raised.kp T.b__law_raised .nil pass0 (pa_cons (pe_ix (r := rIx K) ix_seq (pv 15) pe_int (fun _ _ => rfl)) (pa_cons (pe_callTy (r := rTup K) call_tupU (by rfl) T.n_tuple (by decide +kernel) (pa_cons (pv 10) pa_nil)) (pa_cons (pe_ix (r := rIx K) ix_seq (pv 15) pe_int (fun _ _ => rfl)) pa_nil)))) (pv 16) (nomark _))))) (pss_one (ps_ret pe_bl)) pss_nil)
      (pss_cons (ps_if (pt_cmpR (r := rNeU K) (op_neU hr) (pv 15) (pe_lst (pa_cons (pv 9) (pa_cons (pv 10) (pa_cons (pv 11) (pa_cons (pv 12) pa_nil))))) (nomark _)) (pss_one (ps_ret pe_bl)) pss_nil)
      (pss_cons (ps_if (pt_cmpR op_gt (pe_ix (r := rIx K) ix_seq (pv 16) pe_int (fun _ _ => rfl)) pe_int (nomark _)) (pss_one (ps_ret pe_bl)) pss_nil)
      (pss_cons (ps_set (i := 17) sc_law.nd rfl (Or.inl rfl) (pe_make T.mk_Vocabulary (ok_Vocabulary___init__ T) (hr.mono (by first | decide | exact Nat.le_refl _ | omega | (show _ ≤ _ + n; omega))) (by rfl) T.g_Vocabulary T.b_Vocabulary___init__ .nil passL (pa_cons (pe_ix (r := rIx K) ix_seq (pv 15) pe_int (fun _ _ => rfl)) (pa_cons (pe_ix (r := rIx K) ix_seq (pv 15) pe_int (fun _ _ => rfl)) (pa_cons (pe_ix (r := rIx K) ix_seq (pv 15) pe_int (fun _ _ => rfl)) pa_nil)))))
      (pss_cons (ps_if (pt_not (pt_val (pe_call (ok__law_fits T) (hr.mono (by first | decide | exact Nat.le_refl _ | omega | (show _ ≤ _ + n; omega))) (by rfl) T.g__law_fits T.F__law_fits.kp T.b__law_fits .nil pass0 (pa_cons (pv 17) (pa_cons (pv 9) (pa_cons (pv 10) (pa_cons (pv 11) (pa_cons (pv 14) pa_nil)))))))) (pss_one (ps_ret pe_bl)) pss_nil)
      (pss_cons (ps_set (i := 16) sc_law.nd rfl (Or.inl rfl) (pe_call (ok__law_due T) (hr.mono (by first | decide | exact Nat.le_refl _ | omega | (show _ ≤ _ + n; omega))) (by rfl) T.g__law_due T.F__law_due.kp T.b__law_due .nil pass0 (pa_cons (pv 9) (pa_cons (pe_op (r := rPlus K) op_plus (pv 10) (pv 12)) (pa_cons (pv 11) pa_nil)))))
      (pss_cons (ps_if (PW.pt (pw_or (pt_cmpR (r := rNeU K) (op_neU hr) (pe_call (ok__law_raised_extended T) (hr.mono (by first | decide | exact Nat.le_refl _ | omega | (show _ ≤ _ + n; omega))) (by rfl) T.g__law_raised_extended T.F__law_raised_extended.kp T.b__law_raised_extended .nil pass0 (pa_cons (pv 17) (pa_cons (pe_ix (r := rIx K) ix_seq (pv 15) pe_int (fun _ _ => rfl)) pa_nil))) (pv 16) (nomark _)) (pw_or1 (pt_cmpR (r := rNeU K) (op_neU hr) (pe_call (ok__law_raised_extended T) (hr.mono (by first | decide | exact Nat.le_refl _ | omega | (show _ ≤ _ + n; omega))) (by rfl) T.g__law_raised_extended T.F__law_raised_extended.kp T.b__law_raised_extended .nil pass0 (pa_cons (pv 17) (pa_cons (pe_callTy (r := rTup K) call_tupU (by rfl) T.n_tuple (by decide +kernel) (pa_cons (pv 12) pa_nil)) pa_nil))) (pv 16) (nomark _))))) (pss_one (ps_ret pe_bl)) pss_nil)
      (pss_cons (ps_set (i := 18) sc_law.nd rfl (Or.inl rfl) (pe_methN (pe_makeK0 T.mk_Vocabulary (ok_Vocabulary___init__ T) (hr.mono (by first | decide | exact Nat.le_refl _ | omega | (show _ ≤ _ + n; omega))) (by rfl) T.g_Vocabulary T.kr_Vocabulary___init__ passL (pk_cons (pe_ix (r := rIx K) ix_seq (pv 15) pe_int (fun _ _ => rfl)) (pk_cons (pe_ix (r := rIx K) ix_seq (pv 15) pe_int (fun _ _ => rfl)) (pk_cons (pe_ix (r := rIx K) ix_seq (pv 15) pe_int (fun _ _ => rfl)) pk_nil)))) T.cl_Vocabulary T.m_Vocabulary_extended (ok_Vocabulary_extended T) (hr.mono (by first | decide | exact Nat.le_refl _ | omega | (show _ ≤ _ + n; omega))) T.kb_Vocabulary_extended passL (pk_cons (pe_slice (r := rSlU K) sl_any (pe_ix (r := rIx K) ix_seq (pv 15) pe_int (fun _ _ => rfl)) po_none (po_some pe_int)) pk_nil)))
      (pss_cons (ps_if (pt_not (pt_val (pe_call (ok__law_fits T) (hr.mono (by first | decide | exact Nat.le_refl _ | omega | (show _ ≤ _ + n; omega))) (by rfl) T.g__law_fits T.F__law_fits.kp T.b__law_fits .nil pass0 (pa_cons (pv 18) (pa_cons (pv 9) (pa_cons (pv 10) (pa_cons (pv 11) (pa_cons (pv 14) pa_nil)))))))) (pss_one (ps_ret pe_bl)) pss_nil)
      (pss_cons (ps_set (i := 19) sc_law.nd rfl (Or.inl rfl) (pe_callTy (r := rLst K) call_lstU (by rfl) T.n_list (by decide +kernel) (pa_cons (pv 10) pa_nil)))
      (Evl.pss_cut (ps_if (pt_cmpR (r := rEqU K) (op_eqU hr) (pe_ix (r := rIx K) ix_seq (pv 16) pe_int (fun _ _ => rfl)) pe_int (nomark _)) (pss_cons (ps_set (i := 19) sc_law.nd rfl (Or.inl rfl) (pe_op (r := rPlus K) op_plus (pv 10) (pv 12)))
      (pss_cons (ps_set (i := 18) sc_law.nd rfl (Or.inl rfl) (pe_meth (pv 17) T.cl_Vocabulary T.m_Vocabulary_extended (ok_Vocabulary_extended T) (hr.mono (by first | decide | exact Nat.le_refl _ | omega | (show _ ≤ _ + n; omega))) T.b_Vocabulary_extended .nil passL (pa_cons (pe_ix (r := rIx K) ix_seq (pv 15) pe_int (fun _ _ => rfl)) pa_nil)))
      (pss_cons (ps_set (i := 20) sc_law.nd rfl (Or.inl rfl) (pe_op op_fdivW (pe_callB (r := rLenU K) call_lenU (by rfl) T.n_len PySem.boot_len (pa_cons (pv 12) pa_nil)) pe_int))
      (pss_cons (ps_set (i := 21) sc_law.nd rfl (Or.inl rfl) (pe_meth (pe_meth (pv 17) T.cl_Vocabulary T.m_Vocabulary_extended (ok_Vocabulary_extended T) (hr.mono (by first | decide | exact Nat.le_refl _ | omega | (show _ ≤ _ + n; omega))) T.b_Vocabulary_extended .nil passL (pa_cons (pe_callTy (r := rTup K) call_tupU (by rfl) T.n_tuple (by decide +kernel) (pa_cons (pe_slice (r := rSlU K) sl_any (pv 12) po_none (po_some (pv 20))) pa_nil)) pa_nil)) T.cl_Vocabulary T.m_Vocabulary_extended (ok_Vocabulary_extended T) (hr.mono (by first | decide | exact Nat.le_refl _ | omega | (show _ ≤ _ + n; omega))) T.b_Vocabulary_extended .nil passL (pa_cons (pe_slice (r := rSlU K) sl_any (pv 12) (po_some (pv 20)) po_none) pa_nil)))
      (pss_one (ps_if (PW.pt (pw_or (pt_not (pt_val (pe_call (ok__law_fits T) (hr.mono (by first | decide | exact Nat.le_refl _ | omega | (show _ ≤ _ + n; omega))) (by rfl) T.g__law_fits T.F__law_fits.kp T.b__law_fits .nil pass0 (pa_cons (pv 18) (pa_cons (pv 9) (pa_cons (pv 19) (pa_cons (pv 11) (pa_cons (pv 14) pa_nil)))))))) (pw_or1 (pt_not (pt_val (pe_call (ok__law_fits T) (hr.mono (by first | decide | exact Nat.le_refl _ | omega | (show _ ≤ _ + n; omega))) (by rfl) T.g__law_fits T.F__law_fits.kp T.b__law_fits .nil pass0 (pa_cons (pv 21) (pa_cons (pv 9) (pa_cons (pv 19) (pa_cons (pv 11) (pa_cons (pv 14) pa_nil))))))))))) (pss_one (ps_ret pe_bl)) pss_nil)))))) pss_nil)
      (pss_cons (ps_if (pt_cmpR (r := rNeU K) (op_neU hr) (pv 15) (pe_lst (pa_cons (pv 9) (pa_cons (pv 10) (pa_cons (pv 11) (pa_cons (pv 12) pa_nil))))) (nomark _)) (pss_one (ps_ret pe_bl)) pss_nil)
      (pss_cons (ps_expr (pe_bm PySem.F.plainAttrs_list PySem.F.slot_list_append PySem.F.type_list_append mt_append (pe_ix (r := rIx K) ix_seq (pv 15) pe_int (fun _ _ => rfl)) (pa_cons pe_str pa_nil)))
      (pss_cons (ps_expr (pe_bm PySem.F.plainAttrs_list PySem.F.slot_list_append PySem.F.type_list_append mt_append (pe_ix (r := rIx K) ix_seq (pv 15) pe_int (fun _ _ => rfl)) (pa_cons (pe_tup (pa_cons pe_str (pa_cons (pe_tup pa_nil) (pa_cons pe_str pa_nil)))) pa_nil)))
      (pss_cons (ps_expr (pe_bm0 PySem.F.plainAttrs_list PySem.F.slot_list_clear PySem.F.type_list_clear mt_clear (pe_ix (r := rIx K) ix_seq (pv 15) pe_int (fun _ _ => rfl))))
      (pss_cons (ps_expr (pe_bm PySem.F.plainAttrs_list PySem.F.slot_list_append PySem.F.type_list_append mt_append (pe_ix (r := rIx K) ix_seq (pv 15) pe_int (fun _ _ => rfl)) (pa_cons (pe_tup (pa_cons pe_str (pa_cons (pe_tup pa_nil) (pa_cons pe_str pa_nil)))) pa_nil)))
      (pss_one (ps_ret (pe_and (pe_call (ok__law_fits T) (hr.mono (by first | decide | exact Nat.le_refl _ | omega | (show _ ≤ _ + n; omega))) (by rfl) T.g__law_fits T.F__law_fits.kp T.b__law_fits .nil pass0 (pa_cons (pv 17) (pa_cons (pv 9) (pa_cons (pv 10) (pa_cons (pv 11) (pa_cons (pv 14) pa_nil)))))) (pe_one (pe_call (ok__law_fits T) (hr.mono (by first | decide | exact Nat.le_refl _ | omega | (show _ ≤ _ + n; omega))) (by rfl) T.g__law_fits T.F__law_fits.kp T.b__law_fits .nil pass0 (pa_cons (pv 18) (pa_cons (pv 9) (pa_cons (pv 19) (pa_cons (pv 11) (pa_cons (pv 14) pa_nil))))))))))))))))))))))))))))))))))))))))))))), ?_⟩
    walk_at "0"
    walk_at "1"
    walk_at "12"
    walk_at "9"
    walk_at "12"
    walk_at "9"
    walk_at "69"
    walk_at "9"
    walk_at "7"
    walk_at "10"
    refine ⟨l, ns, 0, rfl, hS, hns, by decide, fun c0 => ?_⟩
    walk_at "9"
    walk_at "34"
    walk_at "9"
    walk_at "7"
    walk_at "9"
    walk_at "7"
    walk_at "9"
    walk_at "7"
    walk_at "9"
    walk_at "7"
    walk_at "9"
    walk_at "7"
    walk_at "9"
    walk_at "7"
    walk_at "9"
    walk_at "7"
    walk_at "9"
    walk_at "7"
    walk_at "10"
    walk_at "82"
    intro p1 H1 n1 x1 e1
    walk_at "10"
    refine ⟨c0, p1, [6, 16, 16, 8, 8, 4, 16, 6], rfl, sql e1, by decide, by decide, fun hp H2 hs x2 e2 hh => ?_⟩
    have x12 := xtr x1 x2
    have hS2 := xl x12 hS
    clear e1
    walk_at "6"
    walk_at "0"
    walk_at "1"
    walk_at "12"
    walk_at "9"
    walk_at "12"
    walk_at "9"
    walk_at "69"
    walk_at "9"
    walk_at "7"
    walk_at "10"
    refine ⟨l, ns, 1, rfl, hS2, hns, by decide, fun c1 => ?_⟩
    walk_at "9"
    walk_at "34"
    walk_at "9"
    walk_at "7"
    walk_at "9"
    walk_at "7"
    walk_at "9"
    walk_at "7"
    walk_at "9"
    walk_at "7"
    walk_at "9"
    walk_at "7"
    walk_at "9"
    walk_at "7"
    walk_at "9"
    walk_at "7"
    walk_at "9"
    walk_at "7"
    walk_at "9"
    walk_at "7"
    walk_at "9"
    walk_at "7"
    walk_at "9"
    walk_at "7"
    walk_at "10"
    walk_at "82"
    intro p3 H3 n3 x3 e3
    walk_at "10"
    refine ⟨c1, p3, B11, rfl, sql e3, by decide, by decide, fun bp H4 ds x4 e4 hd => ?_⟩
    have x34 := xtr x3 x4
    have eh4 := x34 _ _ e2
    have hS4 := xl x34 hS2
    clear e3 e2 hS2 x12
    obtain ⟨d0, g0, a0, b0⟩ := hd.get 0 (0 : Int) rfl rfl
    obtain ⟨d1, g1, a1, b1⟩ := hd.get 1 (1 : Int) rfl rfl
    obtain ⟨d2, g2, a2, b2⟩ := hd.get 2 (2 : Int) rfl rfl
    obtain ⟨u0, k0, r0, s0⟩ := hh.get 0 (0 : Int) rfl rfl
    obtain ⟨u1, k1, r1, s1⟩ := hh.get 1 (1 : Int) rfl rfl
    obtain ⟨u2, k2, r2, s2⟩ := hh.get 2 (2 : Int) rfl rfl
    obtain ⟨u3, k3, r3, s3⟩ := hh.get 3 (3 : Int) rfl rfl
    obtain ⟨u4, k4, r4, s4⟩ := hh.get 4 (4 : Int) rfl rfl
    obtain ⟨u5, k5, r5, s5⟩ := hh.get 5 (5 : Int) rfl rfl
    obtain ⟨u6, k6, r6, s6⟩ := hh.get 6 (6 : Int) rfl rfl
    obtain ⟨u7, k7, r7, s7⟩ := hh.get 7 (7 : Int) rfl rfl
    clear hS n1 n3 x1 x2 x3 x4 x34
    have hb : SqL K H4 bp (ds.map V.int) := sql e4
    have hhd : SqL K H4 hp (hs.map V.int) := sql eh4
    clear e4 eh4
    walk_at "6"
    walk_at "0"
    walk_at "1"
    walk_at "7"
    walk_at "6"
    walk_at "0"
    walk_at "1"
    walk_at "34"
    walk_at "9"
    walk_at "8"
    walk_at "8"
    walk_at "69"
    walk_at "8"
    walk_at "69"
    walk_at "7"
    walk_at "79"
    obtain ⟨cc, lc, oc⟩ := letter_at a2 (by omega)
    refine v_ix_s (by decide) lc ?_
    walk_at "53"
    walk_at "7"
    walk_at "45"
    walk_at "51"
    walk_at "42"
    walk_at "9"
    walk_at "8"
    walk_at "7"
    walk_at "8"
    walk_at "69"
    walk_at "7"
    walk_at "79"
    walk_at "56"
    walk_at "10"
    walk_at "88"
    refine ⟨by omega, by omega, ?_⟩
    refine' b_rng (fun _ y => ∃ c : Nat, y = .str ⟨#[c]⟩ ∧ c < 128) ?hn (fun x => ?hw) ?hb ?hk
    case hn => omega
    case hw => rfl
    case hb =>
      intro i H' hi xx R hR
      obtain ⟨di, gi, ai, bi⟩ := hd.get (3 + i) (3 + (0 + (i : Int))) (by omega) (b11 i (by omega))
      obtain ⟨c, lc9, oc9⟩ := letter_at ai bi
      have hb' := xl xx hb
      walk_at "8"
      walk_at "69"
      walk_at "8"
      walk_at "69"
      walk_at "8"
      walk_at "7"
      walk_at "69"
      walk_at "56"
      walk_at "79"
      refine v_ix_s (by decide) lc9 ?_
      exact hR _ _ (xrefl _) ⟨c, rfl, oc9⟩
    case hk =>
      intro D ys H5 hD hl5 hP x5 e5
      refine v_joinP e5 hP (by omega) fun cs hcl hca => ?_
      have hcs : cs.length = ys.length := hcl
      have hb5 := xl x5 hb
      have hh5 := xl x5 hhd
      have hS5 := xl x5 hS4
      clear hb hhd hS4 hP e5
      have tz : Tx 7 ⟨cs.toArray⟩ := ⟨by show cs.toArray.size ≤ 7; rw [List.size_toArray]; omega, List.all_eq_true.mpr fun c hc => decide_eq_true (hca c hc)⟩
      refine vT_plus (a := 1) (b := 7) ⟨Nat.le_of_eq (len_one cc), asc_one oc⟩ tz (by decide) fun t8 => ?_
      have tl : ((⟨#[cc]⟩ : Str) ++ ⟨cs.toArray⟩).length = 3 + d0.toNat := by
        rw [len_app, len_one]
        show 1 + cs.toArray.size = _
        rw [List.size_toArray]; omega
      generalize ((⟨#[cc]⟩ : Str) ++ ⟨cs.toArray⟩) = tt at t8 tl ⊢
      clear tz hca hcl hcs hl5 ys lc oc
      walk_at "9"
      walk_at "8"
      walk_at "11"
      walk_at "9"
      walk_at "8"
      walk_at "69"
      walk_at "7"
      walk_at "79"
      walk_at "10"
      walk_at "57"
      walk_at "8"
      walk_at "7"
      walk_at "8"
      walk_at "69"
      walk_at "7"
      walk_at "79"
      walk_at "56"
      walk_at "70"
      walk_at "10"
      walk_at "82"
      intro ap H6 n6 x6 e6
      have hb6 := xl x6 hb5
      have hh6 := xl x6 hh5
      have hS6 := xl x6 hS5
      clear hb5 hh5 hS5
      walk_at "6"
      refine k_cut (fun σ' H' => ∃ v, σ' = [some (.ref l), some (.ref hp), some (.ref bp), some (.str smallS), some (v), none, none, none, none, none, none, none, none, none, none, none, none, none, none, none, none, none, none, none] ∧ H' = H6 ∧ AlikeAt K H' v) ?_ ?_
      · walk_at "4"
        walk_at "14"
        walk_at "8"
        walk_at "8"
        walk_at "69"
        walk_at "7"
        walk_at "79"
        walk_at "7"
        walk_at "75"
        walk_at "88"
        refine k_if (fun g => ?_) (fun g => ?_)
        · walk_at "1"
          walk_at "7"
          walk_at "6"
          walk_at "88"
          exact ⟨rfl, .inl rfl⟩
        · walk_at "5"
          walk_at "88"
          exact ⟨rfl, .inr ⟨ap, tt, _, rfl, sql e6, t8, by omega, Int.emod_nonneg _ (by omega), by rw [tl]; have := Int.emod_lt_of_pos d1 (show 0 < 3 + d0 by omega); omega⟩⟩
      rintro σ' H' ⟨v, rfl, rfl, hal⟩
      clear e6 t8 tl tt n6 x6 x5 hD
      walk_at "0"
      walk_at "1"
      walk_at "34"
      walk_at "9"
      walk_at "7"
      walk_at "9"
      walk_at "7"
      walk_at "9"
      walk_at "7"
      walk_at "9"
      walk_at "7"
      walk_at "9"
      walk_at "7"
      walk_at "9"
      walk_at "7"
      walk_at "9"
      walk_at "7"
      walk_at "9"
      walk_at "7"
      walk_at "9"
      walk_at "7"
      walk_at "9"
      walk_at "7"
      walk_at "9"
      walk_at "7"
      walk_at "9"
      walk_at "7"
      walk_at "9"
      walk_at "7"
      walk_at "9"
      walk_at "7"
      walk_at "9"
      walk_at "7"
      walk_at "9"
      walk_at "7"
      walk_at "10"
      walk_at "82"
      intro mp H7 n7 x7 e7
      have hb7 := xl x7 hb6
      have hh7 := xl x7 hh6
      have hS7 := xl x7 hS6
      clear hb6 hh6 hS6
      walk_at "6"
      walk_at "0"
      walk_at "1"
      walk_at "34"
      walk_at "9"
      walk_at "8"
      walk_at "34"
      walk_at "9"
      walk_at "7"
      walk_at "9"
      walk_at "7"
      walk_at "9"
      walk_at "7"
      walk_at "9"
      walk_at "7"
      walk_at "9"
      walk_at "7"
      walk_at "9"
      walk_at "7"
      walk_at "10"
      walk_at "82"
      intro p8 H8 n8 x8 e8
      have hb8 := xl x8 hb7
      have hh8 := xl x8 hh7
      have hS8 := xl x8 hS7
      have e78 := x8 _ _ e7
      clear hb7 hh7 hS7
      obtain ⟨w0, j0, m0, q0⟩ := at_okI (l := [V.int 1, .int 2, .int 2, .int 3, .int 4, .int 0]) (k := u0) (by decide +kernel) r0 s0
      obtain ⟨w1, j1, m1, q1⟩ := at_okI (l := [V.int 1, .int 2, .int 3, .int 0, .int 4, .int 2, .int 3, .int 10, .int 5, .int 1, .int 6, .int 2, .int 7, .int 8, .int 9, .int 3]) (k := u1) (by decide +kernel) r1 s1
      obtain ⟨w2, j2, m2, q2⟩ := at_okI (l := [V.int 1, .int 2, .int 3, .int 0, .int 4, .int 2, .int 3, .int 10, .int 5, .int 1, .int 6, .int 2, .int 7, .int 8, .int 9, .int 3]) (k := u2) (by decide +kernel) r2 s2
      obtain ⟨w6, j6, m6, q6⟩ := at_okI (l := [V.int 1, .int 2, .int 3, .int 0, .int 4, .int 2, .int 3, .int 10, .int 5, .int 1, .int 6, .int 2, .int 7, .int 8, .int 9, .int 3]) (k := u6) (by decide +kernel) r6 s6
      walk_at "8"
      walk_at "69"
      walk_at "7"
      walk_at "79"
      walk_at "79"
      walk_at "9"
      walk_at "8"
      walk_at "69"
      walk_at "8"
      walk_at "69"
      walk_at "7"
      walk_at "79"
      walk_at "79"
      walk_at "9"
      walk_at "8"
      walk_at "69"
      walk_at "8"
      walk_at "69"
      walk_at "7"
      walk_at "79"
      walk_at "79"
      walk_at "9"
      walk_at "8"
      walk_at "69"
      walk_at "8"
      walk_at "69"
      walk_at "7"
      walk_at "79"
      walk_at "79"
      walk_at "10"
      walk_at "82"
      intro cp H9 n9 x9 e9
      have hb9 := xl x9 hb8
      have hh9 := xl x9 hh8
      have hS9 := xl x9 hS8
      have x79 := xtr x7 (xtr x8 x9)
      have hal9 := hal.mono x79
      have ic0 : atI [V.int w0, .int w1, .int w2, .int w6] 0 = some (.int w0) := rfl
      have ic2 : atI [V.int w0, .int w1, .int w2, .int w6] 2 = some (.int w2) := rfl
      clear hb8 hh8 hS8 hal e78 e7 e8 x7 x8 x9 x79 n7 n8 n9
      walk_at "6"
      refine k_cut (fun σ' H' => ∃ (cp : Addr) (cs : List Int), σ' = [some (.ref l), some (.ref hp), some (.ref bp), some (.str smallS), some (v), some (.ref mp), some (.ref cp), none, none, none, none, none, none, none, none, none, none, none, none, none, none, none, none, none] ∧ Xt H9 H' ∧ H' cp = some (.lst (cs.map V.int)) ∧ cs.length = 4 ∧ ∀ c ∈ cs, 0 ≤ c ∧ c ≤ 10) ?_ ?_
      · have fin : ∀ c ∈ [w0, w1, w2, w6], 0 ≤ c ∧ c ≤ 10 := fun c hc => by
          rcases List.mem_cons.mp hc with rfl | hc
          · exact ⟨m0, q0⟩
          rcases List.mem_cons.mp hc with rfl | hc
          · exact ⟨m1, q1⟩
          rcases List.mem_cons.mp hc with rfl | hc
          · exact ⟨m2, q2⟩
          · cases List.mem_singleton.mp hc; exact ⟨m6, q6⟩
        walk_at "4"
        walk_at "17"
        walk_at "14"
        walk_at "8"
        walk_at "8"
        walk_at "69"
        walk_at "7"
        walk_at "79"
        walk_at "7"
        walk_at "75"
        walk_at "88"
        refine k_if (fun g => ?_) (fun g => ?_)
        · walk_at "14"
          walk_at "8"
          walk_at "8"
          walk_at "69"
          walk_at "7"
          walk_at "79"
          walk_at "7"
          walk_at "55"
          walk_at "88"
          refine k_if (fun g' => ?_) (fun g' => ?_)
          · walk_at "1"
            walk_at "34"
            walk_at "9"
            walk_at "7"
            walk_at "9"
            walk_at "7"
            walk_at "9"
            walk_at "8"
            walk_at "69"
            walk_at "7"
            walk_at "79"
            walk_at "9"
            walk_at "7"
            walk_at "10"
            walk_at "82"
            intro p10 H10 n10 x10 e10
            walk_at "6"
            exact ⟨p10, [0, 0, w2, 0], rfl, x10, e10, rfl, fun c hc => by
              rcases List.mem_cons.mp hc with rfl | hc
              · exact ⟨by decide, by decide⟩
              rcases List.mem_cons.mp hc with rfl | hc
              · exact ⟨by decide, by decide⟩
              rcases List.mem_cons.mp hc with rfl | hc
              · exact ⟨m2, q2⟩
              · cases List.mem_singleton.mp hc; exact ⟨by decide, by decide⟩⟩
          · exact ⟨cp, [w0, w1, w2, w6], rfl, xrefl _, e9, rfl, fin⟩
        · walk_at "89"
          walk_at "5"
          exact ⟨cp, [w0, w1, w2, w6], rfl, xrefl _, e9, rfl, fin⟩
      clear ic0 ic2 e9 j0 j1 j2 j6 m0 m1 m2 m6 q0 q1 q2 q6 w0 w1 w2 w6 cp
      rintro σ' H10 ⟨cp, cs, rfl, x10, ec, lc4, bc4⟩
      have hb10 := xl x10 hb9
      have hh10 := xl x10 hh9
      have hS10 := xl x10 hS9
      have hal10 := hal9.mono x10
      clear hb9 hh9 hS9 hal9 x10
      walk_at "0"
      walk_at "1"
      walk_at "12"
      walk_at "9"
      walk_at "69"
      walk_at "9"
      walk_at "69"
      walk_at "9"
      walk_at "69"
      walk_at "10"
      refine ⟨l, cp, ns, cs, v, rfl, hS10, hns, sql ec, ⟨lc4, bc4⟩, hal10, fun rl as H11 x11 hrl hsum rws => ?_⟩
      have hb11 := xl x11 hb10
      have hh11 := xl x11 hh10
      have hS11 := xl x11 hS10
      have ec11 := x11 _ _ ec
      obtain ⟨w0, ew0, mw0, qw0⟩ : ∃ w, cs[0]? = some w ∧ 0 ≤ w ∧ w ≤ 10 := by
        have h : 0 < cs.length := by omega
        exact ⟨cs[0], List.getElem?_eq_getElem h, bc4 _ (List.getElem_mem h)⟩
      have ic0 : atI (cs.map V.int) 0 = some (.int w0) := atI_nat (j := 0) (by rw [List.getElem?_map, ew0]; rfl)
      have hs40 : cs.sum ≤ 40 := by
        have h := sum_le (n := 4) (fun c hc => (bc4 c hc).2) (by omega)
        have e : ((4 : Nat) : Int) = 4 := rfl
        rw [e] at h; omega
      have hw0 : w0 ≤ cs.sum := by
        cases cs with
        | nil => cases ew0
        | cons c r =>
          cases ew0
          have h0 : ∀ (m : List Int), (∀ c ∈ m, 0 ≤ c) → 0 ≤ m.sum := fun m => by
            induction m with
            | nil => intro _; rw [List.sum_nil]; omega
            | cons c m ih =>
              intro h
              have := ih fun d hd => h d (List.mem_cons_of_mem _ hd)
              have := h c (List.mem_cons_self ..)
              rw [List.sum_cons]; omega
          have := h0 r fun d hd => (bc4 d (List.mem_cons_of_mem _ hd)).1
          rw [List.sum_cons]; omega
      have hlas : (as.map V.ref).length = as.length := List.length_map _
      clear hb10 hh10 hS10 hal10 ec x11 lc4 ew0
      walk_at "6"
      refine k_cut (fun σ' H' => ∃ y8, σ' = [some (.ref l), some (.ref hp), some (.ref bp), some (.str smallS), some (v), some (.ref mp), some (.ref cp), some (.ref rl), y8, none, none, none, none, none, none, none, none, none, none, none, none, none, none, none] ∧ SqL K H' bp (ds.map V.int) ∧ H' rl = some (.lst (as.map V.ref)) ∧ RwsOk 2500 H' as) ?_ ?_
      · apply share
        case g2 =>
          intro go
          walk_at "4"
          walk_at "17"
          walk_at "14"
          walk_at "8"
          walk_at "8"
          walk_at "69"
          walk_at "7"
          walk_at "79"
          walk_at "7"
          walk_at "55"
          walk_at "88"
          refine k_if (fun g => ?_) (fun g => go.out)
          walk_at "14"
          walk_at "8"
          walk_at "8"
          walk_at "69"
          walk_at "7"
          walk_at "79"
          walk_at "7"
          walk_at "55"
          walk_at "88"
          refine k_if (fun g' => ?_) (fun g' => go.out)
          clear go
          walk_at "3"
          walk_at "12"
          walk_at "9"
          walk_at "69"
          walk_at "9"
          walk_at "12"
          walk_at "9"
          walk_at "69"
          walk_at "9"
          walk_at "7"
          walk_at "10"
          refine ⟨l, ns, 39, rfl, hS11, hns, by decide, fun cv => ?_⟩
          walk_at "10"
          refine ⟨rl, as, cv, rfl, hrl, by omega, rws, fun H12 x12 r12 => ?_⟩
          exact ⟨_, rfl, xs_ints rws x12 hb11, xs_refs rws x12 hrl, r12⟩
        case g1 =>
          apply share
          case g2 =>
            intro go
            walk_at "89"
            walk_at "4"
            walk_at "17"
            walk_at "14"
            walk_at "8"
            walk_at "8"
            walk_at "69"
            walk_at "7"
            walk_at "79"
            walk_at "7"
            walk_at "55"
            walk_at "88"
            refine k_if (fun g => ?_) (fun g => go.out)
            have ic9 := ic0
            walk_at "14"
            walk_at "8"
            walk_at "8"
            walk_at "69"
            walk_at "7"
            walk_at "79"
            walk_at "7"
            walk_at "55"
            walk_at "88"
            refine k_if (fun g' => ?_) (fun g' => go.out)
            clear go
            have hne : as.take w0.toNat ≠ [] := fun e => by
              have := congrArg List.length e
              rw [List.length_take, List.length_nil] at this
              omega
            have hsub : ∀ b ∈ as.take w0.toNat, b ∈ as := fun b hb => List.mem_of_mem_take hb
            walk_at "3"
            walk_at "12"
            walk_at "9"
            walk_at "69"
            walk_at "9"
            walk_at "48"
            walk_at "69"
            walk_at "49"
            walk_at "50"
            walk_at "8"
            walk_at "69"
            walk_at "7"
            walk_at "79"
            walk_at "88"
            refine v_sl_l (sql hrl) fun p12 H12 n12 x12 e12 => ?_
            rw [refs_take as mw0 (by omega)] at e12
            have hh12 := xl x12 hh11
            walk_at "9"
            walk_at "8"
            walk_at "8"
            walk_at "69"
            walk_at "7"
            walk_at "79"
            walk_at "7"
            walk_at "55"
            walk_at "10"
            refine ⟨l, p12, ns, as.take w0.toNat, u4 - 2, rfl, xl x12 hS11, hns, e12, hne, by rw [List.length_take]; omega, fun b hb => (rws b (hsub b hb)).mono x12, ⟨by omega, by omega⟩, fun H13 x13 r13 => ?_⟩
            have rt : RwsOk 20 H12 (as.take w0.toNat) := fun b hb => (rws b (hsub b hb)).mono x12
            exact ⟨_, rfl, xs_ints rt x13 (xl x12 hb11), xs_refs rt x13 (x12 _ _ hrl), rws_sub (by decide) (rws.mono x12) hsub x13 r13⟩
          case g1 =>
            walk_at "89"
            walk_at "4"
            walk_at "14"
            walk_at "8"
            walk_at "11"
            walk_at "9"
            walk_at "69"
            walk_at "10"
            walk_at "77"
            walk_at "7"
            walk_at "55"
            walk_at "88"
            refine k_if (fun g => ?_) (fun g => ?_)
            · have hne : as ≠ [] := fun e => by rw [hlas, e] at g; exact absurd g (by decide)
              walk_at "37"
              walk_at "42"
              walk_at "9"
              walk_at "8"
              walk_at "34"
              walk_at "9"
              walk_at "7"
              walk_at "9"
              walk_at "7"
              walk_at "9"
              walk_at "7"
              walk_at "9"
              walk_at "7"
              walk_at "9"
              walk_at "7"
              walk_at "9"
              walk_at "7"
              walk_at "9"
              walk_at "7"
              walk_at "9"
              walk_at "7"
              walk_at "10"
              walk_at "82"
              intro p12 H12 n12 x12 e12
              have hh12 := xl x12 hh11
              obtain ⟨kk, ekk, mkk, qkk⟩ := at_okI (l := [V.int 0, .int 0, .int 0, .int 0, .int 1, .int 1, .int 2, .int 3]) (k := u4) (by decide +kernel) r4 s4
              have k5 : kk ≤ 3 := kk_le r4 s4 ekk
              walk_at "8"
              walk_at "69"
              walk_at "7"
              walk_at "79"
              walk_at "79"
              walk_at "10"
              walk_at "88"
              refine ⟨by omega, by omega, ?_⟩
              refine for_range (fun i σ' H' => ∃ y8, σ' = [some (.ref l), some (.ref hp), some (.ref bp), some (.str smallS), some (v), some (.ref mp), some (.ref cp), some (.ref rl), y8, none, none, none, none, none, none, none, none, none, none, none, none, none, none, none] ∧ Xs as H12 H' ∧ RwsOk (bnd i) H' as) ⟨_, rfl, Xs.refl, rws.mono x12⟩ ?_ ?_
              · rintro i σ' H' hi ⟨y8, rfl, hx, hr'⟩
                have hS' := xs_ints (rws.mono x12) hx (xl x12 hS11)
                have hl' := xs_refs (rws.mono x12) hx (x12 _ _ hrl)
                walk_at "6"
                walk_at "3"
                walk_at "12"
                walk_at "9"
                walk_at "69"
                walk_at "9"
                walk_at "12"
                walk_at "9"
                walk_at "69"
                walk_at "9"
                walk_at "8"
                walk_at "7"
                walk_at "69"
                walk_at "56"
                walk_at "10"
                refine ⟨l, ns, 36 + (0 + (i : Int)), rfl, hS', hns, by omega, fun cv => ?_⟩
                walk_at "10"
                refine ⟨rl, as, cv, bnd i, rfl, hl', hne, by omega, hr', bnd_le i (by omega), fun H2 x2 r2 => ?_⟩
                walk_at "88"
                exact ⟨hx.tr x2, r2⟩
              · rintro σ' H' ⟨y8, rfl, hx, hr'⟩
                exact ⟨_, rfl, xs_ints (rws.mono x12) hx (xl x12 hb11), xs_refs (rws.mono x12) hx (x12 _ _ hrl), hr'.le (bnd_le5 _ (by omega))⟩
            · exact ⟨_, rfl, hb11, hrl, rws.le (by decide)⟩
      clear hb11 hh11 hS11 ec11 hrl rws ic0 mw0 qw0 hw0 k0 k1 k2 k3 k4 k5 k6 k7 r0 r1 r2 r3 r4 r5 r6 r7 s0 s1 s2 s3 s4 s5 s6 s7 hh
      have hal40 : as.length ≤ 40 := by omega
      clear hsum hs40 bc4 H11
      rintro σ' H12 ⟨y8, rfl, hb, hrl, rws⟩
      obtain ⟨rs, drs, hrs, brs⟩ := rows_data (K := K) rws
      obtain ⟨d10, g10, a10, b10⟩ := hd.get 10 (10 : Int) rfl rfl
      clear d2 g2 a2 b2 d0 g0 a0 b0
      have hlas : (as.map V.ref).length = as.length := List.length_map _
      walk_at "0"
      walk_at "1"
      walk_at "51"
      walk_at "38"
      walk_at "69"
      walk_at "88"
      refine ⟨⟨_, sql hrl⟩, ?_⟩
      refine b_datF walk_list (fun H' x => xl x (sql hrl)) drs (kindD 0) titD ?_ ?_ ?_ ?_
      · intro d hd
        obtain ⟨r, _, rfl⟩ := List.mem_map.mp hd
        exact rfl
      · rw [List.length_map]; omega
      · intro vv d H' hv hd' xd R R0 hT hF
        obtain ⟨r, hr0, rfl⟩ := List.mem_map.mp hd'
        have key0 : ∀ {Q : VK}, Q (.int r.k) H' → rIx K vv (.int 0) H' Q := fun {Q} q => d_ixl hv (atI_nat (j := 0) rfl) fun w hw => by cases Dp.int_inv hw; exact q
        have key1 : ∀ {Q : VK}, Q (.str r.t) H' → rIx K vv (.int 1) H' Q := fun {Q} q => d_ixl hv (atI_nat (j := 1) rfl) fun w hw => by cases Dp.str_inv hw; exact q
        have key2 : ∀ {Q : VK}, (∀ w, Dp K H' w (.list (r.pl.map PyData.str)) → Q w H') → rIx K vv (.int 2) H' Q := fun {Q} q => d_ixl hv (atI_nat (j := 2) rfl) fun w hw => q w hw
        have key3 : ∀ {Q : VK} (H2 : Hp), Xt H' H2 → Q (.str r.v) H2 → rIx K vv (.int 3) H2 Q := fun {Q} H2 x2 q => d_ixl (Dp.mono x2 hv) (atI_nat (j := 3) rfl) fun w hw => by cases Dp.str_inv hw; exact q
        clear hv
        walk_at "6"
        refine ⟨rfl, ?_⟩
        walk_at "14"
        walk_at "8"
        walk_at "8"
        walk_at "69"
        walk_at "7"
        refine key0 ?_
        walk_at "7"
        walk_at "75"
        walk_at "88"
        refine k_if (fun g => ?_) (fun g => ?_)
        · walk_at "8"
          walk_at "69"
          walk_at "7"
          refine key1 ?_
          skip
          exact hT (by show decide (r.k = 0) = true; exact decide_eq_true (by injection g)) _ _ (xrefl _) (.str _)
        · exact hF (by show decide (r.k = 0) = false; exact decide_eq_false (fun e => g (by rw [e]))) _ (xrefl _)
      intro b1 ys1 J1 hD1 xx1 e1 dd1
      rw [map_tit] at dd1
      replace hrl := xx1 _ _ hrl
      replace drs := DpAll.mono xx1 drs
      replace hb := xl xx1 hb
      replace rws := rws.mono xx1
      walk_at "6"
      walk_at "0"
      walk_at "1"
      walk_at "51"
      walk_at "38"
      walk_at "69"
      walk_at "88"
      refine ⟨⟨_, sql hrl⟩, ?_⟩
      refine b_datF walk_list (fun H' x => xl x (sql hrl)) drs (kindD 1) funD ?_ ?_ ?_ ?_
      · intro d hd
        obtain ⟨r, _, rfl⟩ := List.mem_map.mp hd
        exact im_fD (r.t, r.pl, r.v)
      · rw [List.length_map]; omega
      · intro vv d H' hv hd' xd R R0 hT hF
        obtain ⟨r, hr0, rfl⟩ := List.mem_map.mp hd'
        have key0 : ∀ {Q : VK}, Q (.int r.k) H' → rIx K vv (.int 0) H' Q := fun {Q} q => d_ixl hv (atI_nat (j := 0) rfl) fun w hw => by cases Dp.int_inv hw; exact q
        have key1 : ∀ {Q : VK}, Q (.str r.t) H' → rIx K vv (.int 1) H' Q := fun {Q} q => d_ixl hv (atI_nat (j := 1) rfl) fun w hw => by cases Dp.str_inv hw; exact q
        have key2 : ∀ {Q : VK}, (∀ w, Dp K H' w (.list (r.pl.map PyData.str)) → Q w H') → rIx K vv (.int 2) H' Q := fun {Q} q => d_ixl hv (atI_nat (j := 2) rfl) fun w hw => q w hw
        have key3 : ∀ {Q : VK} (H2 : Hp), Xt H' H2 → Q (.str r.v) H2 → rIx K vv (.int 3) H2 Q := fun {Q} H2 x2 q => d_ixl (Dp.mono x2 hv) (atI_nat (j := 3) rfl) fun w hw => by cases Dp.str_inv hw; exact q
        clear hv
        walk_at "6"
        refine ⟨rfl, ?_⟩
        walk_at "14"
        walk_at "8"
        walk_at "8"
        walk_at "69"
        walk_at "7"
        refine key0 ?_
        walk_at "7"
        walk_at "75"
        walk_at "88"
        refine k_if (fun g => ?_) (fun g => ?_)
        · walk_at "35"
          walk_at "9"
          walk_at "8"
          walk_at "69"
          walk_at "7"
          refine key1 ?_
          walk_at "9"
          walk_at "11"
          walk_at "9"
          walk_at "8"
          walk_at "69"
          walk_at "7"
          refine key2 fun w2 hw2 => ?_
          walk_at "10"
          refine d_tupl hw2 fun w3 Ha xa hw3 => ?_
          walk_at "9"
          walk_at "8"
          walk_at "69"
          walk_at "7"
          refine key3 Ha xa ?_
          walk_at "10"
          walk_at "83"
          intro pt Hb nb xb eb
          exact hT (by show decide (r.k = 1) = true; exact decide_eq_true (by injection g)) _ _ (xtr xa xb) (.of_tup eb (DpAll.mono xb (.cons (.str _) (.cons hw3 (.cons (.str _) .nil)))))
        · exact hF (by show decide (r.k = 1) = false; exact decide_eq_false (fun e => g (by rw [e]))) _ (xrefl _)
      intro b2 ys2 J2 hD2 xx2 e2 dd2
      rw [map_fun] at dd2
      replace hrl := xx2 _ _ hrl
      replace drs := DpAll.mono xx2 drs
      replace hb := xl xx2 hb
      replace rws := rws.mono xx2
      walk_at "6"
      walk_at "0"
      walk_at "1"
      walk_at "51"
      walk_at "38"
      walk_at "69"
      walk_at "88"
      refine ⟨⟨_, sql hrl⟩, ?_⟩
      refine b_datF walk_list (fun H' x => xl x (sql hrl)) drs (kindD 2) preD ?_ ?_ ?_ ?_
      · intro d hd
        obtain ⟨r, _, rfl⟩ := List.mem_map.mp hd
        exact im_pD (r.t, r.pl)
      · rw [List.length_map]; omega
      · intro vv d H' hv hd' xd R R0 hT hF
        obtain ⟨r, hr0, rfl⟩ := List.mem_map.mp hd'
        have key0 : ∀ {Q : VK}, Q (.int r.k) H' → rIx K vv (.int 0) H' Q := fun {Q} q => d_ixl hv (atI_nat (j := 0) rfl) fun w hw => by cases Dp.int_inv hw; exact q
        have key1 : ∀ {Q : VK}, Q (.str r.t) H' → rIx K vv (.int 1) H' Q := fun {Q} q => d_ixl hv (atI_nat (j := 1) rfl) fun w hw => by cases Dp.str_inv hw; exact q
        have key2 : ∀ {Q : VK}, (∀ w, Dp K H' w (.list (r.pl.map PyData.str)) → Q w H') → rIx K vv (.int 2) H' Q := fun {Q} q => d_ixl hv (atI_nat (j := 2) rfl) fun w hw => q w hw
        have key3 : ∀ {Q : VK} (H2 : Hp), Xt H' H2 → Q (.str r.v) H2 → rIx K vv (.int 3) H2 Q := fun {Q} H2 x2 q => d_ixl (Dp.mono x2 hv) (atI_nat (j := 3) rfl) fun w hw => by cases Dp.str_inv hw; exact q
        clear hv
        walk_at "6"
        refine ⟨rfl, ?_⟩
        walk_at "14"
        walk_at "8"
        walk_at "8"
        walk_at "69"
        walk_at "7"
        refine key0 ?_
        walk_at "7"
        walk_at "75"
        walk_at "88"
        refine k_if (fun g => ?_) (fun g => ?_)
        · walk_at "35"
          walk_at "9"
          walk_at "8"
          walk_at "69"
          walk_at "7"
          refine key1 ?_
          walk_at "9"
          walk_at "11"
          walk_at "9"
          walk_at "8"
          walk_at "69"
          walk_at "7"
          refine key2 fun w2 hw2 => ?_
          walk_at "10"
          refine d_tupl hw2 fun w3 Ha xa hw3 => ?_
          walk_at "10"
          walk_at "83"
          intro pt Hb nb xb eb
          exact hT (by show decide (r.k = 2) = true; exact decide_eq_true (by injection g)) _ _ (xtr xa xb) (.of_tup eb (DpAll.mono xb (.cons (.str _) (.cons hw3 .nil))))
        · exact hF (by show decide (r.k = 2) = false; exact decide_eq_false (fun e => g (by rw [e]))) _ (xrefl _)
      intro b3 ys3 J3 hD3 xx3 e3 dd3
      rw [map_pre] at dd3
      replace hrl := xx3 _ _ hrl
      replace drs := DpAll.mono xx3 drs
      replace hb := xl xx3 hb
      replace rws := rws.mono xx3
      walk_at "6"
      walk_at "0"
      walk_at "1"
      walk_at "51"
      walk_at "38"
      walk_at "69"
      walk_at "88"
      refine ⟨⟨_, sql hrl⟩, ?_⟩
      refine b_datF walk_list (fun H' x => xl x (sql hrl)) drs (kindD 3) funD ?_ ?_ ?_ ?_
      · intro d hd
        obtain ⟨r, _, rfl⟩ := List.mem_map.mp hd
        exact im_fD (r.t, r.pl, r.v)
      · rw [List.length_map]; omega
      · intro vv d H' hv hd' xd R R0 hT hF
        obtain ⟨r, hr0, rfl⟩ := List.mem_map.mp hd'
        have key0 : ∀ {Q : VK}, Q (.int r.k) H' → rIx K vv (.int 0) H' Q := fun {Q} q => d_ixl hv (atI_nat (j := 0) rfl) fun w hw => by cases Dp.int_inv hw; exact q
        have key1 : ∀ {Q : VK}, Q (.str r.t) H' → rIx K vv (.int 1) H' Q := fun {Q} q => d_ixl hv (atI_nat (j := 1) rfl) fun w hw => by cases Dp.str_inv hw; exact q
        have key2 : ∀ {Q : VK}, (∀ w, Dp K H' w (.list (r.pl.map PyData.str)) → Q w H') → rIx K vv (.int 2) H' Q := fun {Q} q => d_ixl hv (atI_nat (j := 2) rfl) fun w hw => q w hw
        have key3 : ∀ {Q : VK} (H2 : Hp), Xt H' H2 → Q (.str r.v) H2 → rIx K vv (.int 3) H2 Q := fun {Q} H2 x2 q => d_ixl (Dp.mono x2 hv) (atI_nat (j := 3) rfl) fun w hw => by cases Dp.str_inv hw; exact q
        clear hv
        walk_at "6"
        refine ⟨rfl, ?_⟩
        walk_at "14"
        walk_at "8"
        walk_at "8"
        walk_at "69"
        walk_at "7"
        refine key0 ?_
        walk_at "7"
        walk_at "75"
        walk_at "88"
        refine k_if (fun g => ?_) (fun g => ?_)
        · walk_at "35"
          walk_at "9"
          walk_at "8"
          walk_at "69"
          walk_at "7"
          refine key1 ?_
          walk_at "9"
          walk_at "11"
          walk_at "9"
          walk_at "8"
          walk_at "69"
          walk_at "7"
          refine key2 fun w2 hw2 => ?_
          walk_at "10"
          refine d_tupl hw2 fun w3 Ha xa hw3 => ?_
          walk_at "9"
          walk_at "8"
          walk_at "69"
          walk_at "7"
          refine key3 Ha xa ?_
          walk_at "10"
          walk_at "83"
          intro pt Hb nb xb eb
          exact hT (by show decide (r.k = 3) = true; exact decide_eq_true (by injection g)) _ _ (xtr xa xb) (.of_tup eb (DpAll.mono xb (.cons (.str _) (.cons hw3 (.cons (.str _) .nil)))))
        · exact hF (by show decide (r.k = 3) = false; exact decide_eq_false (fun e => g (by rw [e]))) _ (xrefl _)
      intro b4 ys4 J4 hD4 xx4 e4 dd4
      rw [map_fun] at dd4
      replace hrl := xx4 _ _ hrl
      replace drs := DpAll.mono xx4 drs
      replace hb := xl xx4 hb
      replace rws := rws.mono xx4
      have f1 := xx4 _ _ (xx3 _ _ (xx2 _ _ e1))
      have f2 := xx4 _ _ (xx3 _ _ e2)
      have f3 := xx4 _ _ e3
      have f4 := e4
      replace dd1 : DpAll K J4 ys1 ((lexOf rs).S.map PyData.str) := DpAll.mono (xtr xx2 (xtr xx3 xx4)) dd1
      replace dd2 : DpAll K J4 ys2 ((lexOf rs).F.map fD) := DpAll.mono (xtr xx3 xx4) dd2
      replace dd3 : DpAll K J4 ys3 ((lexOf rs).P.map pD) := DpAll.mono xx4 dd3
      replace dd4 : DpAll K J4 ys4 ((furOf rs).map fD) := dd4
      clear e1 e2 e3 e4 xx1 xx2 xx3 xx4 hD1 hD2 hD3 hD4 drs J1 J2 J3
      walk_at "6"
      walk_at "0"
      walk_at "1"
      walk_at "48"
      walk_at "48"
      walk_at "69"
      walk_at "50"
      walk_at "8"
      walk_at "11"
      walk_at "9"
      walk_at "8"
      walk_at "69"
      walk_at "7"
      walk_at "79"
      walk_at "10"
      walk_at "57"
      walk_at "8"
      walk_at "11"
      walk_at "9"
      walk_at "69"
      walk_at "10"
      walk_at "77"
      walk_at "7"
      walk_at "56"
      walk_at "70"
      walk_at "88"
      walk_at "49"
      refine v_sl_l (sql hrl) fun p5 J5 n5 x5 e5 => ?_
      obtain ⟨bs1, eb1, lb1, mb1⟩ := refs_cut as (some (d1 % (((as.map V.ref).length : Int) + 1))) none
      rw [eb1] at e5
      walk_at "49"
      walk_at "50"
      walk_at "7"
      walk_at "88"
      refine v_sl_l (sql e5) fun p6 J6 n6 x6 e6 => ?_
      obtain ⟨bs, eb2, lb2, mb2⟩ := refs_cut bs1 none (some 3)
      rw [eb2] at e6
      have x56 := xtr x5 x6
      have hrl6 := x56 _ _ hrl
      have rws6 := rws.mono x56
      have hb6 := xl x56 hb
      have mbs : ∀ b ∈ bs, b ∈ as := fun b h => mb1 b (mb2 b h)
      have lbs : (bs.map V.ref).length ≤ 40 := by rw [List.length_map]; omega
      clear e5 eb1 eb2 mb1 mb2 hrl rws hb n5 n6 x5 x6
      walk_at "6"
      walk_at "0"
      walk_at "1"
      walk_at "8"
      walk_at "51"
      walk_at "38"
      walk_at "69"
      walk_at "88"
      refine ⟨⟨_, sql hrl6⟩, ?_⟩
      refine' b_lst (fun _ y => okS 2550 y = true) (sql hrl6) ?hn (fun x => ?hw) ?hb ?hk
      case hn => omega
      case hw => rfl
      case hb =>
        intro i x H' hx xx R hR
        obtain ⟨a', ha', rfl⟩ := refs_at hx
        obtain ⟨k', t', pa', pl', v', e', _, _, ht', _⟩ := (rws6 a' ha').mono xx
        have i1 : atI [V.int k', .str t', .ref pa', .str v'] 1 = some (.str t') := rfl
        walk_at "8"
        walk_at "69"
        walk_at "7"
        walk_at "79"
        exact hR _ _ (xrefl _) (okS_of (ht'.le (by decide)))
      case hk =>
      intro D7 zs1 J7 hD7 zl1 zP1 x7 e7
      have hb7 := xl x7 hb6
      have e67 := x7 _ _ e6
      have rws7 := rws6.mono x7
      clear hb6 e6 rws6 hrl6
      obtain ⟨c9, lc9, oc9⟩ := letter_at a10 (by omega)
      walk_at "34"
      walk_at "9"
      walk_at "8"
      walk_at "69"
      walk_at "8"
      walk_at "69"
      walk_at "7"
      walk_at "79"
      refine v_ix_s (by decide) lc9 ?_
      walk_at "9"
      walk_at "7"
      walk_at "9"
      walk_at "7"
      walk_at "9"
      walk_at "7"
      walk_at "9"
      walk_at "7"
      walk_at "9"
      walk_at "7"
      walk_at "10"
      walk_at "82"
      intro p8 J8 n8 x8 e8
      refine v_plus_lst (x8 _ _ e7) e8 (szL (by rw [zl1, hlas]; show _ + 6 ≤ _; omega)) fun p9 J9 n9 x9 e9 => ?_
      have zall := okS_app (okS_at zP1) (okS_all (n := 2550) (show ([V.str ⟨#[c9]⟩, .str "truth", .str "", .str "true", .str "X", .str "all"] : List V).all (okS 2550) = true from alls_cons ⟨Nat.le_trans (Nat.le_of_eq (len_one c9)) (by decide), asc_one oc9⟩ (by decide +kernel)))
      have zl9 : (zs1 ++ [V.str ⟨#[c9]⟩, .str "truth", .str "", .str "true", .str "X", .str "all"]).length ≤ 50 := by rw [List.length_append, zl1, hlas]; show _ + 6 ≤ 50; omega
      generalize zs1 ++ [V.str ⟨#[c9]⟩, .str "truth", .str "", .str "true", .str "X", .str "all"] = za at e9 zall zl9
      have x89 := xtr x8 x9
      have e69 := x89 _ _ e67
      have rws9 := rws7.mono x89
      have X9 := xtr x56 (xtr x7 x89)
      clear e7 e8 n8 n9 zP1 zl1 zs1 lc9 oc9 e67 rws7 x56 x7 x8 x9 x89 hD7 hb7 D7
      walk_at "6"
      walk_at "0"
      walk_at "1"
      walk_at "8"
      walk_at "8"
      walk_at "8"
      walk_at "69"
      walk_at "51"
      walk_at "38"
      walk_at "69"
      walk_at "88"
      refine ⟨⟨_, sql e69⟩, ?_⟩
      refine' b_lst (fun _ y => okS 2550 y = true) (sql e69) ?hn (fun x => ?hw) ?hb ?hk
      case hn => omega
      case hw => rfl
      case hb =>
        intro i x H' hx xx R hR
        obtain ⟨a', ha', rfl⟩ := refs_at hx
        obtain ⟨k', t', pa', pl', v', e', _, _, ht', _⟩ := (rws9 a' (mbs a' ha')).mono xx
        have i1 : atI [V.int k', .str t', .ref pa', .str v'] 1 = some (.str t') := rfl
        walk_at "8"
        walk_at "8"
        walk_at "69"
        walk_at "7"
        walk_at "79"
        walk_at "7"
        refine vT_plus ht' (Tx.lit (z := "0") (by decide +kernel)) (by omega) fun tq => ?_
        exact hR _ _ (xrefl _) (okS_of (tq.le (by decide)))
      case hk =>
      intro D10 zn10 J10 hD10 zl10 zP10 x10 e10
      refine v_plus_lst (x10 _ _ e9) e10 (szL (by omega)) fun p11 J11 n11 x11 e11 => ?_
      replace zall := okS_app zall (okS_at zP10)
      have zl11 : (za ++ zn10).length ≤ 90 := by rw [List.length_append]; omega
      generalize za ++ zn10 = zz11 at e11 zall zl11
      have xq11 := xtr x10 x11
      have e611 := xq11 _ _ e69
      have rws11 := rws9.mono xq11
      have X11 := xtr X9 xq11
      clear e69 rws9 e10 e9 zl9 zl10 zP10 x10 x11 xq11 X9 hD10 n11
      walk_at "51"
      walk_at "38"
      walk_at "69"
      walk_at "88"
      refine ⟨⟨_, sql e611⟩, ?_⟩
      refine' b_lst (fun _ y => okS 2550 y = true) (sql e611) ?hn (fun x => ?hw) ?hb ?hk
      case hn => omega
      case hw => rfl
      case hb =>
        intro i x H' hx xx R hR
        obtain ⟨a', ha', rfl⟩ := refs_at hx
        obtain ⟨k', t', pa', pl', v', e', _, _, ht', _⟩ := (rws11 a' (mbs a' ha')).mono xx
        have i1 : atI [V.int k', .str t', .ref pa', .str v'] 1 = some (.str t') := rfl
        walk_at "48"
        walk_at "8"
        walk_at "69"
        walk_at "7"
        walk_at "79"
        walk_at "49"
        walk_at "50"
        walk_at "13"
        walk_at "7"
        walk_at "58"
        walk_at "88"
        refine vT_cut ht' (by omega) fun tq => ?_
        exact hR _ _ (xrefl _) (okS_of (tq.le (by decide)))
      case hk =>
      intro D12 zn12 J12 hD12 zl12 zP12 x12 e12
      refine v_plus_lst (x12 _ _ e11) e12 (szL (by omega)) fun p13 J13 n13 x13 e13 => ?_
      replace zall := okS_app zall (okS_at zP12)
      have zl13 : (zz11 ++ zn12).length ≤ 130 := by rw [List.length_append]; omega
      generalize zz11 ++ zn12 = zz13 at e13 zall zl13
      have xq13 := xtr x12 x13
      have e613 := xq13 _ _ e611
      have rws13 := rws11.mono xq13
      have X13 := xtr X11 xq13
      clear e611 rws11 e12 e11 zl11 zl12 zP12 x12 x13 xq13 X11 hD12 n13
      walk_at "51"
      walk_at "38"
      walk_at "69"
      walk_at "88"
      refine ⟨⟨_, sql e613⟩, ?_⟩
      refine' b_lst (fun _ y => okS 2550 y = true) (sql e613) ?hn (fun x => ?hw) ?hb ?hk
      case hn => omega
      case hw => rfl
      case hb =>
        intro i x H' hx xx R hR
        obtain ⟨a', ha', rfl⟩ := refs_at hx
        obtain ⟨k', t', pa', pl', v', e', _, _, ht', _⟩ := (rws13 a' (mbs a' ha')).mono xx
        have i1 : atI [V.int k', .str t', .ref pa', .str v'] 1 = some (.str t') := rfl
        walk_at "52"
        walk_at "8"
        walk_at "69"
        walk_at "7"
        walk_at "79"
        walk_at "45"
        refine vT_up ht' (by omega) fun tq => ?_
        exact hR _ _ (xrefl _) (okS_of (tq.le (by decide)))
      case hk =>
      intro D14 zn14 J14 hD14 zl14 zP14 x14 e14
      refine v_plus_lst (x14 _ _ e13) e14 (szL (by omega)) fun p15 J15 n15 x15 e15 => ?_
      replace zall := okS_app zall (okS_at zP14)
      have zl15 : (zz13 ++ zn14).length ≤ 170 := by rw [List.length_append]; omega
      generalize zz13 ++ zn14 = zz15 at e15 zall zl15
      have xq15 := xtr x14 x15
      have e615 := xq15 _ _ e613
      have rws15 := rws13.mono xq15
      have X15 := xtr X13 xq15
      clear e613 rws13 e14 e13 zl13 zl14 zP14 x14 x15 xq15 X13 hD14 n15
      obtain ⟨zs, rfl⟩ := okS_list zall
      rw [List.length_map] at zl15
      replace f1 := X15 _ _ f1
      replace f2 := X15 _ _ f2
      replace f3 := X15 _ _ f3
      replace f4 := X15 _ _ f4
      replace dd1 := DpAll.mono X15 dd1
      replace dd2 := DpAll.mono X15 dd2
      replace dd3 := DpAll.mono X15 dd3
      replace dd4 := DpAll.mono X15 dd4
      have lF : (furOf rs).length ≤ 40 := by
        have := kR_len rs 3
        show ((kR rs 3).map _).length ≤ 40
        rw [List.length_map]; omega
      have okG : ∀ G : List (Str × List Str × Str), (∀ r ∈ G, r ∈ furOf rs) → G.length ≤ 40 → RowsB (lexOf rs).S (Lex.rows ⟨(lexOf rs).S, (lexOf rs).F ++ G, (lexOf rs).P⟩) := fun G hG lG => rowsB_lex (by omega) brs hG lG
      generalize lexOf rs = x at dd1 dd2 dd3 okG
      generalize furOf rs = Gf at dd4 okG lF
      have ok : RowsB x.S x.rows := by
        replace h := okG [] (fun r h => by cases h) (by decide)
        rw [List.append_nil] at h; exact h
      clear X15 rws15 e615 zall mbs lbs hal40 hlas g10 a10 b10 hd brs hrs g1 a1
      walk_at "6"
      walk_at "0"
      walk_at "1"
      walk_at "34"
      walk_at "9"
      walk_at "11"
      walk_at "9"
      walk_at "69"
      walk_at "10"
      refine d_lstl (.inl (.of_lst f1 dd1)) fun p1 z1 G1 m1 w1 h1 i1 => ?_
      have ne11 := ne_new m1 f1
      have ne21 := ne_new m1 f2
      have ne31 := ne_new m1 f3
      have ne51 := ne_new m1 e15
      walk_at "9"
      walk_at "11"
      walk_at "9"
      walk_at "69"
      walk_at "10"
      refine d_lstl (.inl (Dp.mono w1 (.of_lst f2 dd2))) fun p2 z2 G2 m2 w2 h2 i2 => ?_
      have X2 := xtr w1 w2
      have ne12 := ne_new m2 (w1 _ _ f1)
      have ne22 := ne_new m2 (w1 _ _ f2)
      have ne32 := ne_new m2 (w1 _ _ f3)
      have ne52 := ne_new m2 (w1 _ _ e15)
      have pe12 := ne_new m2 h1
      walk_at "9"
      walk_at "11"
      walk_at "9"
      walk_at "69"
      walk_at "10"
      refine d_lstl (.inl (Dp.mono X2 (.of_lst f3 dd3))) fun p3 z3 G3 m3 w3 h3 i3 => ?_
      have X3 := xtr X2 w3
      have ne13 := ne_new m3 (X2 _ _ f1)
      have ne23 := ne_new m3 (X2 _ _ f2)
      have ne33 := ne_new m3 (X2 _ _ f3)
      have ne53 := ne_new m3 (X2 _ _ e15)
      have pe13 := ne_new m3 (w2 _ _ h1)
      have pe23 := ne_new m3 h2
      walk_at "9"
      walk_at "11"
      walk_at "9"
      walk_at "69"
      walk_at "10"
      refine d_lstl (.inl (Dp.mono X3 (.of_lst f4 dd4))) fun p4 z4 G4 m4 w4 h4 i4 => ?_
      have X4 := xtr X3 w4
      have ne14 := ne_new m4 (X3 _ _ f1)
      have ne24 := ne_new m4 (X3 _ _ f2)
      have ne34 := ne_new m4 (X3 _ _ f3)
      have ne54 := ne_new m4 (X3 _ _ e15)
      have pe14 := ne_new m4 (w3 _ _ (w2 _ _ h1))
      have pe24 := ne_new m4 (w3 _ _ h2)
      have pe34 := ne_new m4 h3
      walk_at "10"
      walk_at "82"
      intro pq G5 m5 w5 h5
      have qe1 := ne_new m5 (w4 _ _ (w3 _ _ (w2 _ _ h1)))
      have qe2 := ne_new m5 (w4 _ _ (w3 _ _ h2))
      have qe3 := ne_new m5 (w4 _ _ h3)
      have qe4 := ne_new m5 h4
      have X5 := xtr X4 w5
      have B5 : Big K G5 b1 b2 b3 b4 p1 p2 p3 p4 pq p15 x Gf zs :=
        { L1 := ⟨b1, _, rfl, X5 _ _ f1, DpAll.mono X5 dd1⟩
          L2 := ⟨b2, _, rfl, X5 _ _ f2, DpAll.mono X5 dd2⟩
          L3 := ⟨b3, _, rfl, X5 _ _ f3, DpAll.mono X5 dd3⟩
          L4 := ⟨b4, _, rfl, X5 _ _ f4, DpAll.mono X5 dd4⟩
          M1 := ⟨p1, z1, rfl, (xtr w2 (xtr w3 (xtr w4 w5))) _ _ h1, DpAll.mono (xtr w2 (xtr w3 (xtr w4 w5))) i1⟩
          M2 := ⟨p2, z2, rfl, (xtr w3 (xtr w4 w5)) _ _ h2, DpAll.mono (xtr w3 (xtr w4 w5)) i2⟩
          M3 := ⟨p3, z3, rfl, (xtr w4 w5) _ _ h3, DpAll.mono (xtr w4 w5) i3⟩
          M4 := ⟨p4, z4, rfl, w5 _ _ h4, DpAll.mono w5 i4⟩
          h5 := h5
          hz := X5 _ _ e15
          zl := by omega
          ok := ok
          okG := okG
          lG := lF
          n1 := nin4 ne11 ne12 ne13 ne14
          n2 := nin4 ne21 ne22 ne23 ne24
          n3 := nin4 ne31 ne32 ne33 ne34
          n5 := nin4 ne51 ne52 ne53 ne54
          n6 := nin4 qe1.symm qe2.symm qe3.symm qe4.symm
          n12 := pe12
          n13 := pe13
          n14 := pe14
          n23 := pe23
          n24 := pe24
          n34 := pe34 }
      have ia0 : atI [V.ref p1, .ref p2, .ref p3, .ref p4] 0 = some (.ref p1) := rfl
      have ia1 : atI [V.ref p1, .ref p2, .ref p3, .ref p4] 1 = some (.ref p2) := rfl
      have ia2 : atI [V.ref p1, .ref p2, .ref p3, .ref p4] 2 = some (.ref p3) := rfl
      have ia3 : atI [V.ref p1, .ref p2, .ref p3, .ref p4] 3 = some (.ref p4) := rfl
      clear m1 m2 m3 m4 m5 w1 w2 w3 w4 w5 X2 X3 X4 X5 h1 h2 h3 h4 i1 i2 i3 i4 ne11 ne12 ne13 ne14 ne21 ne22 ne23 ne24 ne31 ne32 ne33 ne34 ne51 ne52 ne53 ne54 qe1 qe2 qe3 qe4 pe12 pe13 pe14 pe23 pe24 pe34 f1 f2 f3 f4 dd1 dd2 dd3 dd4 ok okG lF e15 zl15 h5 G1 G2 G3 G4
      walk_at "6"
      walk_at "0"
      walk_at "1"
      walk_at "12"
      walk_at "9"
      walk_at "69"
      walk_at "9"
      walk_at "69"
      walk_at "9"
      walk_at "69"
      walk_at "10"
      refine ⟨.ref b1, .ref b2, .ref b3, x, rfl, B5.L1.dp, B5.L2, B5.L3, B5.ok, fun du G6 w6 hdu => ?_⟩
      replace B5 := B5.mono w6
      walk_at "6"
      walk_at "0"
      walk_at "4"
      walk_at "18"
      walk_at "14"
      walk_at "8"
      walk_at "12"
      walk_at "9"
      walk_at "11"
      walk_at "9"
      walk_at "69"
      walk_at "10"
      refine d_tupl B5.L1.dp fun t1 G7 w7 u1 => ?_
      replace B5 := B5.mono w7
      have h5 := B5.h5
      walk_at "9"
      walk_at "8"
      walk_at "69"
      walk_at "7"
      walk_at "79"
      walk_at "9"
      walk_at "11"
      walk_at "9"
      walk_at "69"
      walk_at "10"
      refine d_tupl B5.L3.dp fun t3 G8 w8 u3 => ?_
      replace B5 := B5.mono w8
      walk_at "10"
      refine ⟨t1, .ref p2, t3, x, rfl, .inr (Dp.mono w8 u1), .inl B5.M2.dp, .inr u3, B5.ok, fun r1 G9 w9 hr1 => ?_⟩
      replace B5 := B5.mono w9
      replace hdu := (xtr w7 (xtr w8 w9)) _ _ hdu
      walk_at "69"
      refine d_neq (due_dp hr1) (due_dp hdu) (due_sh B5.ok) (by decide) ?_
      clear u1 u3 hr1 h5 w6 w7 w8 w9
      have h5 := B5.h5
      walk_at "88"
      walk_at "89"
      walk_at "14"
      walk_at "8"
      walk_at "12"
      walk_at "9"
      walk_at "8"
      walk_at "69"
      walk_at "7"
      walk_at "79"
      walk_at "9"
      walk_at "11"
      walk_at "9"
      walk_at "69"
      walk_at "10"
      refine d_tupl B5.L2.dp fun t2 G10 w10 u2 => ?_
      replace B5 := B5.mono w10
      replace h5 := B5.h5
      walk_at "9"
      walk_at "8"
      walk_at "69"
      walk_at "7"
      walk_at "79"
      walk_at "10"
      refine ⟨.ref p1, t2, .ref p3, x, rfl, .inl B5.M1.dp, .inr u2, .inl B5.M3.dp, B5.ok, fun r2 G11 w11 hr2 => ?_⟩
      replace B5 := B5.mono w11
      replace hdu := (xtr w10 w11) _ _ hdu
      walk_at "69"
      refine d_neq (due_dp hr2) (due_dp hdu) (due_sh B5.ok) (by decide) ?_
      clear h5 u2 hr2 w10 w11
      walk_at "88"
      walk_at "89"
      walk_at "5"
      walk_at "0"
      walk_at "4"
      walk_at "14"
      walk_at "8"
      walk_at "69"
      walk_at "34"
      walk_at "9"
      walk_at "69"
      walk_at "9"
      walk_at "69"
      walk_at "9"
      walk_at "69"
      walk_at "9"
      walk_at "69"
      walk_at "10"
      walk_at "82"
      intro pz G12 m12 w12 h12
      replace B5 := B5.mono w12
      replace hdu := w12 _ _ hdu
      refine d_neq B5.pqs (B5.lss h12) B5.sh (by decide) ?_
      clear h12 m12 w12
      cases hc : chkF x.S x.rows [] with
      | some kz =>
        obtain ⟨k9, z9⟩ := kz
        have hv : dueV x = [.int k9, .str z9] := by unfold dueV; rw [hc]
        have hk := chk_range hc
        rw [hv] at hdu
        have ik : atI [V.int (k9 : Int), .str z9] 0 = some (.int k9) := rfl
        walk_at "88"
        walk_at "89"
        walk_at "5"
        walk_at "0"
        walk_at "4"
        walk_at "14"
        walk_at "8"
        walk_at "8"
        walk_at "69"
        walk_at "7"
        walk_at "79"
        walk_at "7"
        walk_at "55"
        walk_at "88"
        refine k_if (fun g => ?_) (fun g => absurd (show (0 : Int) < k9 by omega) g)
        walk_at "2"
        walk_at "7"
        exact q _
      | none =>
      have hv : dueV x = [.int 0, .str ""] := by unfold dueV; rw [hc]
      rw [hv] at hdu
      have ik : atI [V.int 0, .str ""] 0 = some (.int 0) := rfl
      have h5 := B5.h5
      walk_at "88"
      walk_at "89"
      walk_at "5"
      walk_at "0"
      walk_at "4"
      walk_at "14"
      walk_at "8"
      walk_at "8"
      walk_at "69"
      walk_at "7"
      walk_at "79"
      walk_at "7"
      walk_at "55"
      walk_at "88"
      walk_at "89"
      walk_at "5"
      walk_at "0"
      walk_at "1"
      walk_at "31"
      walk_at "9"
      walk_at "8"
      walk_at "69"
      walk_at "7"
      walk_at "79"
      walk_at "9"
      walk_at "8"
      walk_at "69"
      walk_at "7"
      walk_at "79"
      walk_at "9"
      walk_at "8"
      walk_at "69"
      walk_at "7"
      walk_at "79"
      walk_at "10"
      intro vo vd hvo hvd hne
      have xb : Xt G12 (upd (upd G12 vd (.own vo)) vo (.ins T.C_Vocabulary vd [])) := fun c o hc => by
        rw [upd_ne (fun e => by rw [e, hvo] at hc; cases hc), upd_ne (fun e => by rw [e, hvd] at hc; cases hc)]; exact hc
      have xt2 : ∀ H', Xa vo (upd (upd G12 vd (.own vo)) vo (.ins T.C_Vocabulary vd [])) H' → Xt G12 H' := fun H' xa c o hc => xa c o (fun e => by rw [e, hvo] at hc; cases hc) (xb c o hc)
      refine ⟨vo, vd, .ref p1, .ref p2, .ref p3, x, rfl, upd_same, .inl (B5.M1.mono xb).dp, .inl (B5.M2.mono xb).dp, .inl (B5.M3.mono xb).dp, B5.ok, fun hc' G13 xa hV => ⟨rfl, ?_⟩, fun k z h => by rw [hc] at h; cases h⟩
      have X13 := xt2 G13 xa
      replace B5 := B5.mono X13
      clear xt2 xb xa X13 hvo hvd hne hc' h5 hdu ik hv
      walk_at "6"
      walk_at "0"
      walk_at "4"
      walk_at "16"
      walk_at "15"
      walk_at "12"
      walk_at "9"
      walk_at "69"
      walk_at "9"
      walk_at "69"
      walk_at "9"
      walk_at "69"
      walk_at "9"
      walk_at "69"
      walk_at "9"
      walk_at "69"
      walk_at "10"
      refine ⟨vo, .ref b1, .ref b2, .ref b3, p15, x, zs, rfl, hV, B5.L1, B5.L2, B5.L3, B5.hz, B5.zl, B5.ok, hc, fun G14 x14 => ?_⟩
      replace B5 := B5.mono x14
      replace hV := hV.mono x14
      clear x14
      have okF := B5.okG Gf (fun r h => h) B5.lG
      have lex := okF.le
      unfold Lex.rows at lex
      simp only [List.length_append, List.length_map] at lex
      obtain ⟨a2, y2, ea2, f2, dd2⟩ := B5.L2
      cases ea2
      obtain ⟨a4, y4, ea4, f4, dd4⟩ := B5.L4
      cases ea4
      have ly2 := dd2.len
      have ly4 := dd4.len
      rw [List.length_map] at ly2 ly4
      walk_at "88"
      walk_at "89"
      walk_at "5"
      walk_at "0"
      walk_at "1"
      walk_at "12"
      walk_at "9"
      walk_at "69"
      walk_at "9"
      walk_at "8"
      walk_at "69"
      walk_at "69"
      refine v_plus_lst f2 f4 (szL (by omega)) fun p16 G16 n16 x16 e16 => ?_
      have LG : LsAt K G16 (.ref p16) ((x.F ++ Gf).map fD) := ⟨p16, _, rfl, e16, by rw [List.map_append]; exact DpAll.app (DpAll.mono x16 dd2) (DpAll.mono x16 dd4)⟩
      replace B5 := B5.mono x16
      replace hV := hV.mono x16
      clear f2 f4 dd2 dd4 e16 x16
      walk_at "9"
      walk_at "69"
      walk_at "10"
      refine ⟨.ref b1, .ref p16, .ref b3, ⟨x.S, x.F ++ Gf, x.P⟩, rfl, B5.L1.dp, LG, B5.L3, okF, fun du2 G17 x17 hdu => ?_⟩
      replace B5 := B5.mono x17
      replace hV := hV.mono x17
      have h5 := B5.h5
      clear LG x17
      walk_at "6"
      walk_at "0"
      walk_at "4"
      walk_at "18"
      walk_at "14"
      walk_at "8"
      walk_at "12"
      walk_at "9"
      walk_at "69"
      walk_at "9"
      walk_at "8"
      walk_at "69"
      walk_at "7"
      walk_at "79"
      walk_at "10"
      refine ⟨vo, .ref p4, x, Gf, rfl, hV, .inl B5.M4.dp, okF, fun r3 G18 x18 hr3 => ?_⟩
      replace B5 := B5.mono x18
      replace hV := hV.mono x18
      replace hdu := x18 _ _ hdu
      clear x18 h5
      walk_at "69"
      refine d_neq (due_dp hr3) (due_dp hdu) (due_sh (x := ⟨x.S, x.F ++ Gf, x.P⟩) okF) (by decide) ?_
      clear hr3
      walk_at "88"
      walk_at "89"
      walk_at "14"
      walk_at "8"
      walk_at "12"
      walk_at "9"
      walk_at "69"
      walk_at "9"
      walk_at "11"
      walk_at "9"
      walk_at "69"
      walk_at "10"
      refine d_tupl B5.L4.dp fun t4 G19 x19 ht4 => ?_
      replace B5 := B5.mono x19
      replace hV := hV.mono x19
      walk_at "10"
      refine ⟨vo, t4, x, Gf, rfl, hV, .inr ht4, okF, fun r4 G20 x20 hr4 => ?_⟩
      replace B5 := B5.mono x20
      replace hV := hV.mono x20
      replace hdu := (xtr x19 x20) _ _ hdu
      clear x19 x20 ht4
      walk_at "69"
      refine d_neq (due_dp hr4) (due_dp hdu) (due_sh (x := ⟨x.S, x.F ++ Gf, x.P⟩) okF) (by decide) ?_
      clear hr4
      have h5 := B5.h5
      walk_at "88"
      walk_at "89"
      walk_at "5"
      exact law_sec5_ok T q hc B5 hV hdu


end
end K00
set_option Elab.async false
set_option linter.all false
set_option maxRecDepth 100000
set_option maxHeartbeats 2000000
namespace K00
open PySem PySem.Spec PyProof.Rows L2 NdefX CW RZ
open PySem.W (fnX)
theorem all_mk {l : PySem.W.OpenLaw} {w : World} {K : PySem.W.Frag} {h : Heap} {mg : Str → Option Value} {fa C_Vocabulary C_ClaimError : Addr} (X : K.In h) (G : h.Ns mainGlobals mg) (hfa : mg "law" = some (.ref fa))
    (nsup : PySem.W.nsIn K mainGlobals "super" = some none)
    (aE_ClaimError : PySem.W.nsIn K mainGlobals "ClaimError" = some (some (.ref C_ClaimError)))
    (E_BadName : ErrT l.prog K mg "BadName" s_BadName___init__ "BadName.__init__" "name" "name")
    (E_NameTaken : ErrT l.prog K mg "NameTaken" s_NameTaken___init__ "NameTaken.__init__" "name" "name")
    (E_NoSort : ErrT l.prog K mg "NoSort" s_NoSort___init__ "NoSort.__init__" "name" "name")
    (E_ReservedName : ErrT l.prog K mg "ReservedName" s_ReservedName___init__ "ReservedName.__init__" "name" "name")
    (E_NotSentence : ErrT l.prog K mg "NotSentence" s_NotSentence___init__ "NotSentence.__init__" "name" "name")
    (E_NoAxiom : ErrT l.prog K mg "NoAxiom" s_NoAxiom___init__ "NoAxiom.__init__" "name" "name")
    (E_BadTable : ErrT l.prog K mg "BadTable" s_BadTable___init__ "BadTable.__init__" "name" "name")
    (E_BadWeight : ErrT l.prog K mg "BadWeight" s_BadWeight___init__ "BadWeight.__init__" "name" "name")
    (E_TextError : LeafT K mg "TextError" VEb "ValueError.__new__")
    (kit : kitN K ["BadName", "NameTaken", "NoSort", "ReservedName", "NotSentence", "NoAxiom", "BadTable", "BadWeight"] = true)
    (exm : exmN K ["BadName", "NameTaken", "NoSort"] = true)
    (insv : insB K (addrOf K "Vocabulary") = true)
    (insa : PySem.W.nsIn K mainGlobals "Vocabulary" = some (some (.ref C_Vocabulary)))
    (aC_Vocabulary : PySem.W.nsIn K mainGlobals "Vocabulary" = some (some (.ref C_Vocabulary))) (pg_Vocabulary : PySem.W.plainGet K C_Vocabulary Str.empty = true) (hd_Vocabulary : PySem.W.hasDictIn K C_Vocabulary = true) (po_Vocabulary : PySem.W.plainOver K C_Vocabulary = true) (sa_Vocabulary : PySem.W.findIn K (.ref C_Vocabulary) "__setattr__" = some (some (.builtin "object.__setattr__"))) (mk_Vocabulary : PySem.W.makesIn K C_Vocabulary = true) (kc_Vocabulary : PySem.W.keepIn K (.ref C_Vocabulary) = true)
    (na_Vocabulary_sorts : PySem.W.findIn K (.ref C_Vocabulary) "sorts" = some none)
    (na_Vocabulary_functions : PySem.W.findIn K (.ref C_Vocabulary) "functions" = some none)
    (na_Vocabulary_predicates : PySem.W.findIn K (.ref C_Vocabulary) "predicates" = some none)
    (na_Vocabulary__names : PySem.W.findIn K (.ref C_Vocabulary) "_names" = some none)
    (na_Vocabulary__argument_sorts : PySem.W.findIn K (.ref C_Vocabulary) "_argument_sorts" = some none)
    (na_Vocabulary__value_sorts : PySem.W.findIn K (.ref C_Vocabulary) "_value_sorts" = some none)
    {od0 an0 : Option Addr} {sl0 : Array (Option Value)} {oc0 kV0 dc0 pm0 cd0 ct0 : Value} {f0 : Addr}
    (a0 : PySem.W.nsIn K mainGlobals "is_name" = some (some (.ref f0)))
    (l0 : K.lookup f0 = some ⟨oc0, od0, .func (PySem.W.fnOf "is_name" "is_name" (defArgs s_is_name) (defBody s_is_name) (defScope s_is_name) .none kV0 dc0 pm0 an0 cd0 ct0), sl0⟩) (c0 : PySem.W.codeIn K cd0 "is_name" = true) (k0 : PySem.W.keepIn K (.ref f0) = true)
    {od1 an1 : Option Addr} {sl1 : Array (Option Value)} {oc1 kV1 dc1 pm1 cd1 ct1 : Value} {f1 : Addr}
    (a1 : PySem.W.nsIn K mainGlobals "_has_form" = some (some (.ref f1)))
    (l1 : K.lookup f1 = some ⟨oc1, od1, .func (PySem.W.fnOf "_has_form" "_has_form" (defArgs s__has_form) (defBody s__has_form) (defScope s__has_form) .none kV1 dc1 pm1 an1 cd1 ct1), sl1⟩) (c1 : PySem.W.codeIn K cd1 "_has_form" = true) (k1 : PySem.W.keepIn K (.ref f1) = true)
    {od2 an2 : Option Addr} {sl2 : Array (Option Value)} {oc2 kV2 dc2 pm2 cd2 ct2 : Value} {f2 : Addr}
    (a2 : PySem.W.findIn K (.ref C_Vocabulary) "__init__" = some (some (.ref f2))) (i2 : PySem.W.isFn K (.ref f2) = true)
    (l2 : K.lookup f2 = some ⟨oc2, od2, .func (PySem.W.fnOf "__init__" "Vocabulary.__init__" (defArgs s_Vocabulary___init__) (defBody s_Vocabulary___init__) (defScope s_Vocabulary___init__) .none kV2 dc2 pm2 an2 cd2 ct2), sl2⟩) (c2 : PySem.W.codeIn K cd2 "Vocabulary.__init__" = true) (k2 : PySem.W.keepIn K (.ref f2) = true)
    {od3 an3 : Option Addr} {sl3 : Array (Option Value)} {oc3 kV3 dc3 pm3 cd3 ct3 : Value} {f3 : Addr}
    (a3 : PySem.W.findIn K (.ref C_Vocabulary) "__contains__" = some (some (.ref f3))) (i3 : PySem.W.isFn K (.ref f3) = true)
    (l3 : K.lookup f3 = some ⟨oc3, od3, .func (PySem.W.fnOf "__contains__" "Vocabulary.__contains__" (defArgs s_Vocabulary___contains__) (defBody s_Vocabulary___contains__) (defScope s_Vocabulary___contains__) .none kV3 dc3 pm3 an3 cd3 ct3), sl3⟩) (c3 : PySem.W.codeIn K cd3 "Vocabulary.__contains__" = true) (k3 : PySem.W.keepIn K (.ref f3) = true)
    {od4 an4 : Option Addr} {sl4 : Array (Option Value)} {oc4 kV4 dc4 pm4 cd4 ct4 : Value} {f4 : Addr}
    (a4 : PySem.W.findIn K (.ref C_Vocabulary) "arguments" = some (some (.ref f4))) (i4 : PySem.W.isFn K (.ref f4) = true)
    (l4 : K.lookup f4 = some ⟨oc4, od4, .func (PySem.W.fnOf "arguments" "Vocabulary.arguments" (defArgs s_Vocabulary_arguments) (defBody s_Vocabulary_arguments) (defScope s_Vocabulary_arguments) .none kV4 dc4 pm4 an4 cd4 ct4), sl4⟩) (c4 : PySem.W.codeIn K cd4 "Vocabulary.arguments" = true) (k4 : PySem.W.keepIn K (.ref f4) = true)
    {od5 an5 : Option Addr} {sl5 : Array (Option Value)} {oc5 kV5 dc5 pm5 cd5 ct5 : Value} {f5 : Addr}
    (a5 : PySem.W.findIn K (.ref C_Vocabulary) "value_sort" = some (some (.ref f5))) (i5 : PySem.W.isFn K (.ref f5) = true)
    (l5 : K.lookup f5 = some ⟨oc5, od5, .func (PySem.W.fnOf "value_sort" "Vocabulary.value_sort" (defArgs s_Vocabulary_value_sort) (defBody s_Vocabulary_value_sort) (defScope s_Vocabulary_value_sort) .none kV5 dc5 pm5 an5 cd5 ct5), sl5⟩) (c5 : PySem.W.codeIn K cd5 "Vocabulary.value_sort" = true) (k5 : PySem.W.keepIn K (.ref f5) = true)
    {od6 an6 : Option Addr} {sl6 : Array (Option Value)} {oc6 kV6 dc6 pm6 cd6 ct6 : Value} {f6 : Addr}
    (a6 : PySem.W.findIn K (.ref C_Vocabulary) "extended" = some (some (.ref f6))) (i6 : PySem.W.isFn K (.ref f6) = true)
    (l6 : K.lookup f6 = some ⟨oc6, od6, .func (PySem.W.fnOf "extended" "Vocabulary.extended" (defArgs s_Vocabulary_extended) (defBody s_Vocabulary_extended) (defScope s_Vocabulary_extended) .none kV6 dc6 pm6 an6 cd6 ct6), sl6⟩) (c6 : PySem.W.codeIn K cd6 "Vocabulary.extended" = true) (k6 : PySem.W.keepIn K (.ref f6) = true)
    {od7 an7 : Option Addr} {sl7 : Array (Option Value)} {oc7 kV7 dc7 pm7 cd7 ct7 : Value} {f7 : Addr}
    (a7 : PySem.W.nsIn K mainGlobals "_check_rows" = some (some (.ref f7)))
    (l7 : K.lookup f7 = some ⟨oc7, od7, .func (PySem.W.fnOf "_check_rows" "_check_rows" (defArgs s__check_rows) (defBody s__check_rows) (defScope s__check_rows) .none kV7 dc7 pm7 an7 cd7 ct7), sl7⟩) (c7 : PySem.W.codeIn K cd7 "_check_rows" = true) (k7 : PySem.W.keepIn K (.ref f7) = true)
    {od8 an8 : Option Addr} {sl8 : Array (Option Value)} {oc8 kV8 dc8 pm8 cd8 ct8 : Value} {f8 : Addr}
    (a8 : PySem.W.nsIn K mainGlobals "_law_cell" = some (some (.ref f8)))
    (l8 : K.lookup f8 = some ⟨oc8, od8, .func (PySem.W.fnOf "_law_cell" "_law_cell" (defArgs s__law_cell) (defBody s__law_cell) (defScope s__law_cell) .none kV8 dc8 pm8 an8 cd8 ct8), sl8⟩) (c8 : PySem.W.codeIn K cd8 "_law_cell" = true) (k8 : PySem.W.keepIn K (.ref f8) = true)
    {od9 an9 : Option Addr} {sl9 : Array (Option Value)} {oc9 kV9 dc9 pm9 cd9 ct9 : Value} {f9 : Addr}
    (a9 : PySem.W.nsIn K mainGlobals "_law_digits" = some (some (.ref f9)))
    (l9 : K.lookup f9 = some ⟨oc9, od9, .func (PySem.W.fnOf "_law_digits" "_law_digits" (defArgs s__law_digits) (defBody s__law_digits) (defScope s__law_digits) .none kV9 dc9 pm9 an9 cd9 ct9), sl9⟩) (c9 : PySem.W.codeIn K cd9 "_law_digits" = true) (k9 : PySem.W.keepIn K (.ref f9) = true)
    {od10 an10 : Option Addr} {sl10 : Array (Option Value)} {oc10 kV10 dc10 pm10 cd10 ct10 : Value} {f10 : Addr}
    (a10 : PySem.W.nsIn K mainGlobals "_law_is_name" = some (some (.ref f10)))
    (l10 : K.lookup f10 = some ⟨oc10, od10, .func (PySem.W.fnOf "_law_is_name" "_law_is_name" (defArgs s__law_is_name) (defBody s__law_is_name) (defScope s__law_is_name) .none kV10 dc10 pm10 an10 cd10 ct10), sl10⟩) (c10 : PySem.W.codeIn K cd10 "_law_is_name" = true) (k10 : PySem.W.keepIn K (.ref f10) = true)
    {od11 an11 : Option Addr} {sl11 : Array (Option Value)} {oc11 kV11 dc11 pm11 cd11 ct11 : Value} {f11 : Addr}
    (a11 : PySem.W.nsIn K mainGlobals "_law_name" = some (some (.ref f11)))
    (l11 : K.lookup f11 = some ⟨oc11, od11, .func (PySem.W.fnOf "_law_name" "_law_name" (defArgs s__law_name) (defBody s__law_name) (defScope s__law_name) .none kV11 dc11 pm11 an11 cd11 ct11), sl11⟩) (c11 : PySem.W.codeIn K cd11 "_law_name" = true) (k11 : PySem.W.keepIn K (.ref f11) = true)
    {od12 an12 : Option Addr} {sl12 : Array (Option Value)} {oc12 kV12 dc12 pm12 cd12 ct12 : Value} {f12 : Addr}
    (a12 : PySem.W.nsIn K mainGlobals "_law_bad" = some (some (.ref f12)))
    (l12 : K.lookup f12 = some ⟨oc12, od12, .func (PySem.W.fnOf "_law_bad" "_law_bad" (defArgs s__law_bad) (defBody s__law_bad) (defScope s__law_bad) .none kV12 dc12 pm12 an12 cd12 ct12), sl12⟩) (c12 : PySem.W.codeIn K cd12 "_law_bad" = true) (k12 : PySem.W.keepIn K (.ref f12) = true)
    {od13 an13 : Option Addr} {sl13 : Array (Option Value)} {oc13 kV13 dc13 pm13 cd13 ct13 : Value} {f13 : Addr}
    (a13 : PySem.W.nsIn K mainGlobals "_law_near" = some (some (.ref f13)))
    (l13 : K.lookup f13 = some ⟨oc13, od13, .func (PySem.W.fnOf "_law_near" "_law_near" (defArgs s__law_near) (defBody s__law_near) (defScope s__law_near) .none kV13 dc13 pm13 an13 cd13 ct13), sl13⟩) (c13 : PySem.W.codeIn K cd13 "_law_near" = true) (k13 : PySem.W.keepIn K (.ref f13) = true)
    {od14 an14 : Option Addr} {sl14 : Array (Option Value)} {oc14 kV14 dc14 pm14 cd14 ct14 : Value} {f14 : Addr}
    (a14 : PySem.W.nsIn K mainGlobals "_law_rows" = some (some (.ref f14)))
    (l14 : K.lookup f14 = some ⟨oc14, od14, .func (PySem.W.fnOf "_law_rows" "_law_rows" (defArgs s__law_rows) (defBody s__law_rows) (defScope s__law_rows) .none kV14 dc14 pm14 an14 cd14 ct14), sl14⟩) (c14 : PySem.W.codeIn K cd14 "_law_rows" = true) (k14 : PySem.W.keepIn K (.ref f14) = true)
    {od15 an15 : Option Addr} {sl15 : Array (Option Value)} {oc15 kV15 dc15 pm15 cd15 ct15 : Value} {f15 : Addr}
    (a15 : PySem.W.nsIn K mainGlobals "_law_spoil" = some (some (.ref f15)))
    (l15 : K.lookup f15 = some ⟨oc15, od15, .func (PySem.W.fnOf "_law_spoil" "_law_spoil" (defArgs s__law_spoil) (defBody s__law_spoil) (defScope s__law_spoil) .none kV15 dc15 pm15 an15 cd15 ct15), sl15⟩) (c15 : PySem.W.codeIn K cd15 "_law_spoil" = true) (k15 : PySem.W.keepIn K (.ref f15) = true)
    {od16 an16 : Option Addr} {sl16 : Array (Option Value)} {oc16 kV16 dc16 pm16 cd16 ct16 : Value} {f16 : Addr}
    (a16 : PySem.W.nsIn K mainGlobals "_law_spoil_sorts" = some (some (.ref f16)))
    (l16 : K.lookup f16 = some ⟨oc16, od16, .func (PySem.W.fnOf "_law_spoil_sorts" "_law_spoil_sorts" (defArgs s__law_spoil_sorts) (defBody s__law_spoil_sorts) (defScope s__law_spoil_sorts) .none kV16 dc16 pm16 an16 cd16 ct16), sl16⟩) (c16 : PySem.W.codeIn K cd16 "_law_spoil_sorts" = true) (k16 : PySem.W.keepIn K (.ref f16) = true)
    {od17 an17 : Option Addr} {sl17 : Array (Option Value)} {oc17 kV17 dc17 pm17 cd17 ct17 : Value} {f17 : Addr}
    (a17 : PySem.W.nsIn K mainGlobals "_law_spoil_behind" = some (some (.ref f17)))
    (l17 : K.lookup f17 = some ⟨oc17, od17, .func (PySem.W.fnOf "_law_spoil_behind" "_law_spoil_behind" (defArgs s__law_spoil_behind) (defBody s__law_spoil_behind) (defScope s__law_spoil_behind) .none kV17 dc17 pm17 an17 cd17 ct17), sl17⟩) (c17 : PySem.W.codeIn K cd17 "_law_spoil_behind" = true) (k17 : PySem.W.keepIn K (.ref f17) = true)
    {od18 an18 : Option Addr} {sl18 : Array (Option Value)} {oc18 kV18 dc18 pm18 cd18 ct18 : Value} {f18 : Addr}
    (a18 : PySem.W.nsIn K mainGlobals "_law_due" = some (some (.ref f18)))
    (l18 : K.lookup f18 = some ⟨oc18, od18, .func (PySem.W.fnOf "_law_due" "_law_due" (defArgs s__law_due) (defBody s__law_due) (defScope s__law_due) .none kV18 dc18 pm18 an18 cd18 ct18), sl18⟩) (c18 : PySem.W.codeIn K cd18 "_law_due" = true) (k18 : PySem.W.keepIn K (.ref f18) = true)
    {od19 an19 : Option Addr} {sl19 : Array (Option Value)} {oc19 kV19 dc19 pm19 cd19 ct19 : Value} {f19 : Addr}
    (a19 : PySem.W.nsIn K mainGlobals "_law_raised" = some (some (.ref f19)))
    (l19 : K.lookup f19 = some ⟨oc19, od19, .func (PySem.W.fnOf "_law_raised" "_law_raised" (defArgs s__law_raised) (defBody s__law_raised) (defScope s__law_raised) .none kV19 dc19 pm19 an19 cd19 ct19), sl19⟩) (c19 : PySem.W.codeIn K cd19 "_law_raised" = true) (k19 : PySem.W.keepIn K (.ref f19) = true)
    {od20 an20 : Option Addr} {sl20 : Array (Option Value)} {oc20 kV20 dc20 pm20 cd20 ct20 : Value} {f20 : Addr}
    (a20 : PySem.W.nsIn K mainGlobals "_law_raised_extended" = some (some (.ref f20)))
    (l20 : K.lookup f20 = some ⟨oc20, od20, .func (PySem.W.fnOf "_law_raised_extended" "_law_raised_extended" (defArgs s__law_raised_extended) (defBody s__law_raised_extended) (defScope s__law_raised_extended) .none kV20 dc20 pm20 an20 cd20 ct20), sl20⟩) (c20 : PySem.W.codeIn K cd20 "_law_raised_extended" = true) (k20 : PySem.W.keepIn K (.ref f20) = true)
    {od21 an21 : Option Addr} {sl21 : Array (Option Value)} {oc21 kV21 dc21 pm21 cd21 ct21 : Value} {f21 : Addr}
    (a21 : PySem.W.nsIn K mainGlobals "_law_fits" = some (some (.ref f21)))
    (l21 : K.lookup f21 = some ⟨oc21, od21, .func (PySem.W.fnOf "_law_fits" "_law_fits" (defArgs s__law_fits) (defBody s__law_fits) (defScope s__law_fits) .none kV21 dc21 pm21 an21 cd21 ct21), sl21⟩) (c21 : PySem.W.codeIn K cd21 "_law_fits" = true) (k21 : PySem.W.keepIn K (.ref f21) = true)
    {od22 an22 : Option Addr} {sl22 : Array (Option Value)} {oc22 kV22 dc22 pm22 cd22 ct22 : Value} {f22 : Addr}
    (a22 : PySem.W.nsIn K mainGlobals "law" = some (some (.ref f22)))
    (l22 : K.lookup f22 = some ⟨oc22, od22, .func (PySem.W.fnOf "law" "law" (defArgs s_law) (defBody s_law) (defScope s_law) .none kV22 dc22 pm22 an22 cd22 ct22), sl22⟩) (c22 : PySem.W.codeIn K cd22 "law" = true) (k22 : PySem.W.keepIn K (.ref f22) = true)
    {a_WORDS : Addr} {oc_WORDS : Value} {od_WORDS : Option Addr} {it_WORDS : Array Value} {n_WORDS : Nat} {sl_WORDS : Array (Option Value)} (z_WORDS : PySem.W.nsIn K mainGlobals "WORDS" = some (some (.ref a_WORDS))) (l_WORDS : K.lookup a_WORDS = some ⟨oc_WORDS, od_WORDS, .seq it_WORDS n_WORDS, sl_WORDS⟩) (v1_WORDS : oc_WORDS = .type "tuple") (v2_WORDS : it_WORDS.size ≤ sizeLine) (v3_WORDS : it_WORDS.toList.map absV = ([.str "all", .str "some", .str "not", .str "and", .str "or", .str "implies", .str "iff", .str "true", .str "false", .str "truth", .str "sort", .str "function", .str "axiom"] : List V).map some)
    {t_SMALL_SIGNS : Tok} (z_SMALL_SIGNS : PySem.W.nsIn K mainGlobals "SMALL_SIGNS" = some (some (.str "abcdefghijklmnopqrstuvwxyz0123456789" t_SMALL_SIGNS)))
    {t_DIGITS : Tok} (z_DIGITS : PySem.W.nsIn K mainGlobals "DIGITS" = some (some (.str "0123456789" t_DIGITS)))
    {t_LONGEST : Tok} (z_LONGEST : PySem.W.nsIn K mainGlobals "LONGEST" = some (some (.int 8 t_LONGEST)))
    {t_TRUTH_SORT : Tok} (z_TRUTH_SORT : PySem.W.nsIn K mainGlobals "TRUTH_SORT" = some (some (.str "truth" t_TRUTH_SORT)))
    (n_ValueError : PySem.W.nsIn K mainGlobals "ValueError" = some none)
    (n_all : PySem.W.nsIn K mainGlobals "all" = some none)
    (n_int : PySem.W.nsIn K mainGlobals "int" = some none)
    (n_isinstance : PySem.W.nsIn K mainGlobals "isinstance" = some none)
    (n_len : PySem.W.nsIn K mainGlobals "len" = some none)
    (n_list : PySem.W.nsIn K mainGlobals "list" = some none)
    (n_range : PySem.W.nsIn K mainGlobals "range" = some none)
    (n_str : PySem.W.nsIn K mainGlobals "str" = some none)
    (n_tuple : PySem.W.nsIn K mainGlobals "tuple" = some none)
    : ∃ fd : FuncData, (∀ (s : Shared) (v : Value), BindsTo s fd ⟨[v], []⟩ [("script", v)]) ∧ ∀ base : Heap, K.In base → base.Ns mainGlobals mg → FnOk l.prog w K mg base CX0 10 fa fd ["script"] (sp_lawK K) := by
  have e := hfa.symm.trans (PySem.W.mg_of X G a22)
  cases e
  have F0 := fun_mk (st := s_is_name) l0 c0 k0
  have F1 := fun_mk (st := s__has_form) l1 c1 k1
  have F2 := fun_mk (st := s_Vocabulary___init__) l2 c2 k2
  have F3 := fun_mk (st := s_Vocabulary___contains__) l3 c3 k3
  have F4 := fun_mk (st := s_Vocabulary_arguments) l4 c4 k4
  have F5 := fun_mk (st := s_Vocabulary_value_sort) l5 c5 k5
  have F6 := fun_mk (st := s_Vocabulary_extended) l6 c6 k6
  have F7 := fun_mk (st := s__check_rows) l7 c7 k7
  have F8 := fun_mk (st := s__law_cell) l8 c8 k8
  have F9 := fun_mk (st := s__law_digits) l9 c9 k9
  have F10 := fun_mk (st := s__law_is_name) l10 c10 k10
  have F11 := fun_mk (st := s__law_name) l11 c11 k11
  have F12 := fun_mk (st := s__law_bad) l12 c12 k12
  have F13 := fun_mk (st := s__law_near) l13 c13 k13
  have F14 := fun_mk (st := s__law_rows) l14 c14 k14
  have F15 := fun_mk (st := s__law_spoil) l15 c15 k15
  have F16 := fun_mk (st := s__law_spoil_sorts) l16 c16 k16
  have F17 := fun_mk (st := s__law_spoil_behind) l17 c17 k17
  have F18 := fun_mk (st := s__law_due) l18 c18 k18
  have F19 := fun_mk (st := s__law_raised) l19 c19 k19
  have F20 := fun_mk (st := s__law_raised_extended) l20 c20 k20
  have F21 := fun_mk (st := s__law_fits) l21 c21 k21
  have F22 := fun_mk (st := s_law) l22 c22 k22
  let T : Top0 l.prog K mg := { C_Vocabulary := C_Vocabulary, cl_Vocabulary := ⟨pg_Vocabulary, hd_Vocabulary, po_Vocabulary, sa_Vocabulary⟩, g_Vocabulary := PySem.W.mg_of X G aC_Vocabulary, na_Vocabulary_sorts := na_Vocabulary_sorts, na_Vocabulary_functions := na_Vocabulary_functions, na_Vocabulary_predicates := na_Vocabulary_predicates, na_Vocabulary__names := na_Vocabulary__names, na_Vocabulary__argument_sorts := na_Vocabulary__argument_sorts, na_Vocabulary__value_sorts := na_Vocabulary__value_sorts, mk_Vocabulary := ⟨mk_Vocabulary, a2, i2, kc_Vocabulary⟩, C_ClaimError := C_ClaimError, a_ClaimError := aE_ClaimError, g_ClaimError := PySem.W.mg_of X G aE_ClaimError, E_BadName := E_BadName, E_NameTaken := E_NameTaken, E_NoSort := E_NoSort, E_ReservedName := E_ReservedName, E_NotSentence := E_NotSentence, E_NoAxiom := E_NoAxiom, E_BadTable := E_BadTable, E_BadWeight := E_BadWeight, E_TextError := E_TextError, kit := kit, exm := exm, insv := insv, insa := insa, n_super := PySem.W.mg_none_of X G nsup, f_is_name := f0, fd_is_name := _, F_is_name := F0, b_is_name := F0.binds (ps := ["value"]) (fun _ _ _ _ _ _ us hl => match us, hl with | [_], _ => rfl), g_is_name := PySem.W.mg_of X G a0, f__has_form := f1, fd__has_form := _, F__has_form := F1, b__has_form := F1.binds (ps := ["value"]) (fun _ _ _ _ _ _ us hl => match us, hl with | [_], _ => rfl), g__has_form := PySem.W.mg_of X G a1, f_Vocabulary___init__ := f2, fd_Vocabulary___init__ := _, F_Vocabulary___init__ := F2, b_Vocabulary___init__ := F2.binds (ps := ["self", "sorts", "functions", "predicates"]) (fun _ _ _ _ _ _ us hl => match us, hl with | [_, _, _, _], _ => rfl), f_Vocabulary___contains__ := f3, fd_Vocabulary___contains__ := _, F_Vocabulary___contains__ := F3, b_Vocabulary___contains__ := F3.binds (ps := ["self", "name"]) (fun _ _ _ _ _ _ us hl => match us, hl with | [_, _], _ => rfl), m_Vocabulary___contains__ := ⟨a3, i3, k3⟩, f_Vocabulary_arguments := f4, fd_Vocabulary_arguments := _, F_Vocabulary_arguments := F4, b_Vocabulary_arguments := F4.binds (ps := ["self", "name"]) (fun _ _ _ _ _ _ us hl => match us, hl with | [_, _], _ => rfl), m_Vocabulary_arguments := ⟨a4, i4, k4⟩, f_Vocabulary_value_sort := f5, fd_Vocabulary_value_sort := _, F_Vocabulary_value_sort := F5, b_Vocabulary_value_sort := F5.binds (ps := ["self", "name"]) (fun _ _ _ _ _ _ us hl => match us, hl with | [_, _], _ => rfl), m_Vocabulary_value_sort := ⟨a5, i5, k5⟩, f_Vocabulary_extended := f6, fd_Vocabulary_extended := _, F_Vocabulary_extended := F6, b_Vocabulary_extended := F6.binds (ps := ["self", "functions"]) (fun _ _ _ _ _ _ us hl => match us, hl with | [_, _], _ => rfl), m_Vocabulary_extended := ⟨a6, i6, k6⟩, f__check_rows := f7, fd__check_rows := _, F__check_rows := F7, b__check_rows := F7.binds (ps := ["rows", "sorts"]) (fun _ _ _ _ _ _ us hl => match us, hl with | [_, _], _ => rfl), g__check_rows := PySem.W.mg_of X G a7, f__law_cell := f8, fd__law_cell := _, F__law_cell := F8, b__law_cell := F8.binds (ps := ["script", "k"]) (fun _ _ _ _ _ _ us hl => match us, hl with | [_, _], _ => rfl), g__law_cell := PySem.W.mg_of X G a8, f__law_digits := f9, fd__law_digits := _, F__law_digits := F9, b__law_digits := F9.binds (ps := ["cell", "sizes"]) (fun _ _ _ _ _ _ us hl => match us, hl with | [_, _], _ => rfl), g__law_digits := PySem.W.mg_of X G a9, f__law_is_name := f10, fd__law_is_name := _, F__law_is_name := F10, b__law_is_name := F10.binds (ps := ["text"]) (fun _ _ _ _ _ _ us hl => match us, hl with | [_], _ => rfl), g__law_is_name := PySem.W.mg_of X G a10, f__law_name := f11, fd__law_name := _, F__law_name := F11, b__law_name := F11.binds (ps := ["alike", "k", "row"]) (fun _ _ _ _ _ _ us hl => match us, hl with | [_, _, _], _ => rfl), g__law_name := PySem.W.mg_of X G a11, f__law_bad := f12, fd__law_bad := _, F__law_bad := F12, b__law_bad := F12.binds (ps := ["text", "k"]) (fun _ _ _ _ _ _ us hl => match us, hl with | [_, _], _ => rfl), g__law_bad := PySem.W.mg_of X G a12, f__law_near := f13, fd__law_near := _, F__law_near := F13, b__law_near := F13.binds (ps := ["k"]) (fun _ _ _ _ _ _ us hl => match us, hl with | [_], _ => rfl), g__law_near := PySem.W.mg_of X G a13, f__law_rows := f14, fd__law_rows := _, F__law_rows := F14, b__law_rows := F14.binds (ps := ["script", "counts", "alike"]) (fun _ _ _ _ _ _ us hl => match us, hl with | [_, _, _], _ => rfl), g__law_rows := PySem.W.mg_of X G a14, f__law_spoil := f15, fd__law_spoil := _, F__law_spoil := F15, b__law_spoil := F15.binds (ps := ["rows", "cell"]) (fun _ _ _ _ _ _ us hl => match us, hl with | [_, _], _ => rfl), g__law_spoil := PySem.W.mg_of X G a15, f__law_spoil_sorts := f16, fd__law_spoil_sorts := _, F__law_spoil_sorts := F16, b__law_spoil_sorts := F16.binds (ps := ["script", "rows", "turns"]) (fun _ _ _ _ _ _ us hl => match us, hl with | [_, _, _], _ => rfl), g__law_spoil_sorts := PySem.W.mg_of X G a16, f__law_spoil_behind := f17, fd__law_spoil_behind := _, F__law_spoil_behind := F17, b__law_spoil_behind := F17.binds (ps := ["rows", "cell"]) (fun _ _ _ _ _ _ us hl => match us, hl with | [_, _], _ => rfl), g__law_spoil_behind := PySem.W.mg_of X G a17, f__law_due := f18, fd__law_due := _, F__law_due := F18, b__law_due := F18.binds (ps := ["sort_names", "function_rows", "predicate_rows"]) (fun _ _ _ _ _ _ us hl => match us, hl with | [_, _, _], _ => rfl), g__law_due := PySem.W.mg_of X G a18, f__law_raised := f19, fd__law_raised := _, F__law_raised := F19, b__law_raised := F19.binds (ps := ["sort_names", "function_rows", "predicate_rows"]) (fun _ _ _ _ _ _ us hl => match us, hl with | [_, _, _], _ => rfl), g__law_raised := PySem.W.mg_of X G a19, f__law_raised_extended := f20, fd__law_raised_extended := _, F__law_raised_extended := F20, b__law_raised_extended := F20.binds (ps := ["vocabulary", "function_rows"]) (fun _ _ _ _ _ _ us hl => match us, hl with | [_, _], _ => rfl), g__law_raised_extended := PySem.W.mg_of X G a20, f__law_fits := f21, fd__law_fits := _, F__law_fits := F21, b__law_fits := F21.binds (ps := ["vocabulary", "sort_names", "function_rows", "predicate_rows", "probes"]) (fun _ _ _ _ _ _ us hl => match us, hl with | [_, _, _, _, _], _ => rfl), g__law_fits := PySem.W.mg_of X G a21, f_law := fa, fd_law := _, F_law := F22, b_law := F22.binds (ps := ["script"]) (fun _ _ _ _ _ _ us hl => match us, hl with | [_], _ => rfl), g_law := PySem.W.mg_of X G a22, kr_Vocabulary___init__ := fun_kbg F2 rel_appr (fun _ _ _ _ _ _ us ws h0 h1 => match us, h0, ws, h1 with | [_], _, [_, _, _], _ => rfl), kb_Vocabulary_arguments := fun_kbg F4 rel_app (fun _ _ _ _ _ _ us ws h0 h1 => match us, h0, ws, h1 with | [_], _, [_], _ => rfl), kb_Vocabulary_extended := fun_kbg F6 rel_app (fun _ _ _ _ _ _ us ws h0 h1 => match us, h0, ws, h1 with | [_], _, [_], _ => rfl), kb_Vocabulary_value_sort := fun_kbg F5 rel_app (fun _ _ _ _ _ _ us ws h0 h1 => match us, h0, ws, h1 with | [_], _, [_], _ => rfl), n_ValueError := PySem.W.mg_none_of X G n_ValueError, n_all := PySem.W.mg_none_of X G n_all, n_int := PySem.W.mg_none_of X G n_int, n_isinstance := PySem.W.mg_none_of X G n_isinstance, n_len := PySem.W.mg_none_of X G n_len, n_list := PySem.W.mg_none_of X G n_list, n_range := PySem.W.mg_none_of X G n_range, n_str := PySem.W.mg_none_of X G n_str, n_tuple := PySem.W.mg_none_of X G n_tuple, a_WORDS := a_WORDS, c_WORDS := PySem.W.mg_of X G z_WORDS, q_WORDS := fun H => sqt_K l_WORDS v1_WORDS v2_WORDS v3_WORDS H, t_SMALL_SIGNS := t_SMALL_SIGNS, c_SMALL_SIGNS := PySem.W.mg_of X G z_SMALL_SIGNS, t_DIGITS := t_DIGITS, c_DIGITS := PySem.W.mg_of X G z_DIGITS, t_LONGEST := t_LONGEST, c_LONGEST := PySem.W.mg_of X G z_LONGEST, t_TRUTH_SORT := t_TRUTH_SORT, c_TRUTH_SORT := PySem.W.mg_of X G z_TRUTH_SORT }
  exact ⟨_, fun s v => .of_eq rfl, fun base _ _ => ok_law T⟩
end K00

open PySem PySem.W PyProof.Rows
set_option hygiene false in
local macro_rules | `(tactic| walk_at "mk_err") => `(tactic| (refine' CW.errT_mk kX kG kB ?e1 ?e2 ?e3 ?e4 ?e5 ?e6 ?e7 ?e8 ?e9 ?f1 ?f2 ?f3 ?f4 ?f5 ?f6 ?f7 ?f8 ?f9 ?g1 ?g2 ?g3 ?r1 ?r2 ?r3 ?r4 ⟨_, rfl, rfl⟩ (fun us hl => match us, hl with | [_, _], _ => rfl); (case e1 => as_aux_lemma => k_is); (case e2 => as_aux_lemma => k_is); (case e3 => as_aux_lemma => k_is); (case e4 => as_aux_lemma => k_is); (case e5 => as_aux_lemma => k_is); (case e6 => as_aux_lemma => k_is); (case e7 => as_aux_lemma => k_is); (case e8 => as_aux_lemma => k_is); (case e9 => as_aux_lemma => k_is); (case f1 => as_aux_lemma => k_is); (case f2 => as_aux_lemma => k_is); (case f3 => as_aux_lemma => k_is); (case f4 => as_aux_lemma => k_is); (case f5 => as_aux_lemma => k_is); (case f6 => as_aux_lemma => k_is); (case f7 => as_aux_lemma => k_is); (case f8 => as_aux_lemma => k_is); (case f9 => as_aux_lemma => k_is); (case g1 => as_aux_lemma => k_is); (case g2 => as_aux_lemma => k_is); (case g3 => as_aux_lemma => k_is); (case r1 => rfl); (case r2 => rfl); (case r3 => kernel_rfl); (case r4 => kernel_rfl)))
set_option hygiene false in
local macro_rules | `(tactic| walk_at "mk_leaf") => `(tactic| (refine' CW.leafT_mk kX kG kB ?e1 ?e2 ?e4 ?f8 ?f9 ?g1 ?g2 ?g3 ?r1; (case e1 => as_aux_lemma => k_is); (case e2 => as_aux_lemma => k_is); (case e4 => as_aux_lemma => k_is); (case f8 => as_aux_lemma => k_is); (case f9 => as_aux_lemma => k_is); (case g1 => as_aux_lemma => k_is); (case g2 => as_aux_lemma => k_is); (case g3 => as_aux_lemma => k_is); (case r1 => kernel_rfl)))

set_option maxRecDepth 100000 in
set_option maxHeartbeats 0 in
theorem PySem.Challenge.cw_claimworlds_k00_vocabularies_made_holds : PySem.Challenge.rw_claimworlds_k00_vocabularies_made.Holds := by
  w_on; o_law; k_headL; (case hw => w_witness2)
  k_fill
  refine L2.walk_of (l := PySem.Challenge.rw_claimworlds_k00_vocabularies_made) (n := 63) (k := 10) (x := "script") (CX := fun _ => L2.CX0) (sp := fun w => K00.sp_lawK _) rfl (by decide) rfl ⟨rfl, by decide, by decide⟩ (fun w h Y => PySem.W.kIn_of Y) ?F (fun _ _ a ns hl _ hS => ⟨a, ns, rfl, hS, hl, fun _ => rfl⟩) (fun _ _ _ _ _ h => h)
  case F =>
    intro w mg fa h KX G hmg
    have kB : CW.ErrAll (PySem.Challenge.rw_claimworlds_k00_vocabularies_made).prog _ mg := CW.errAll_mk KX (by k_is) (by k_is) (by k_is) rfl
    have kX := KX
    have kG := G
    refine' K00.all_mk (l := PySem.Challenge.rw_claimworlds_k00_vocabularies_made) KX G hmg ?nsup ?aE_ClaimError ?E_BadName ?E_NameTaken ?E_NoSort ?E_ReservedName ?E_NotSentence ?E_NoAxiom ?E_BadTable ?E_BadWeight ?E_TextError ?kit ?exm ?insv ?insa ?aC_Vocabulary ?pg_Vocabulary ?hd_Vocabulary ?po_Vocabulary ?sa_Vocabulary ?mk_Vocabulary ?kc_Vocabulary ?na_Vocabulary_sorts ?na_Vocabulary_functions ?na_Vocabulary_predicates ?na_Vocabulary__names ?na_Vocabulary__argument_sorts ?na_Vocabulary__value_sorts ?a0 ?l0 ?c0 ?k0 ?a1 ?l1 ?c1 ?k1 ?a2 ?i2 ?l2 ?c2 ?k2 ?a3 ?i3 ?l3 ?c3 ?k3 ?a4 ?i4 ?l4 ?c4 ?k4 ?a5 ?i5 ?l5 ?c5 ?k5 ?a6 ?i6 ?l6 ?c6 ?k6 ?a7 ?l7 ?c7 ?k7 ?a8 ?l8 ?c8 ?k8 ?a9 ?l9 ?c9 ?k9 ?a10 ?l10 ?c10 ?k10 ?a11 ?l11 ?c11 ?k11 ?a12 ?l12 ?c12 ?k12 ?a13 ?l13 ?c13 ?k13 ?a14 ?l14 ?c14 ?k14 ?a15 ?l15 ?c15 ?k15 ?a16 ?l16 ?c16 ?k16 ?a17 ?l17 ?c17 ?k17 ?a18 ?l18 ?c18 ?k18 ?a19 ?l19 ?c19 ?k19 ?a20 ?l20 ?c20 ?k20 ?a21 ?l21 ?c21 ?k21 ?a22 ?l22 ?c22 ?k22 ?z_WORDS ?l_WORDS ?v1_WORDS ?v2_WORDS ?v3_WORDS ?z_SMALL_SIGNS ?z_DIGITS ?z_LONGEST ?z_TRUTH_SORT ?n_ValueError ?n_all ?n_int ?n_isinstance ?n_len ?n_list ?n_range ?n_str ?n_tuple
    (case nsup => as_aux_lemma => k_is)
    (case aE_ClaimError => as_aux_lemma => k_is)
    (case insa => as_aux_lemma => k_is)
    (case aC_Vocabulary => as_aux_lemma => k_is)
    (case pg_Vocabulary => as_aux_lemma => k_is)
    (case hd_Vocabulary => as_aux_lemma => k_is)
    (case po_Vocabulary => as_aux_lemma => k_is)
    (case sa_Vocabulary => as_aux_lemma => k_is)
    (case mk_Vocabulary => as_aux_lemma => k_is)
    (case kc_Vocabulary => as_aux_lemma => k_is)
    (case na_Vocabulary_sorts => as_aux_lemma => k_is)
    (case na_Vocabulary_functions => as_aux_lemma => k_is)
    (case na_Vocabulary_predicates => as_aux_lemma => k_is)
    (case na_Vocabulary__names => as_aux_lemma => k_is)
    (case na_Vocabulary__argument_sorts => as_aux_lemma => k_is)
    (case na_Vocabulary__value_sorts => as_aux_lemma => k_is)
    (case a0 => as_aux_lemma => k_is)
    (case l0 => as_aux_lemma => k_is)
    (case c0 => as_aux_lemma => k_is)
    (case k0 => as_aux_lemma => k_is)
    (case a1 => as_aux_lemma => k_is)
    (case l1 => as_aux_lemma => k_is)
    (case c1 => as_aux_lemma => k_is)
    (case k1 => as_aux_lemma => k_is)
    (case a2 => as_aux_lemma => k_is)
    (case i2 => as_aux_lemma => k_is)
    (case l2 => as_aux_lemma => k_is)
    (case c2 => as_aux_lemma => k_is)
    (case k2 => as_aux_lemma => k_is)
    (case a3 => as_aux_lemma => k_is)
    (case i3 => as_aux_lemma => k_is)
    (case l3 => as_aux_lemma => k_is)
    (case c3 => as_aux_lemma => k_is)
    (case k3 => as_aux_lemma => k_is)
    (case a4 => as_aux_lemma => k_is)
    (case i4 => as_aux_lemma => k_is)
    (case l4 => as_aux_lemma => k_is)
    (case c4 => as_aux_lemma => k_is)
    (case k4 => as_aux_lemma => k_is)
    (case a5 => as_aux_lemma => k_is)
    (case i5 => as_aux_lemma => k_is)
    (case l5 => as_aux_lemma => k_is)
    (case c5 => as_aux_lemma => k_is)
    (case k5 => as_aux_lemma => k_is)
    (case a6 => as_aux_lemma => k_is)
    (case i6 => as_aux_lemma => k_is)
    (case l6 => as_aux_lemma => k_is)
    (case c6 => as_aux_lemma => k_is)
    (case k6 => as_aux_lemma => k_is)
    (case a7 => as_aux_lemma => k_is)
    (case l7 => as_aux_lemma => k_is)
    (case c7 => as_aux_lemma => k_is)
    (case k7 => as_aux_lemma => k_is)
    (case a8 => as_aux_lemma => k_is)
    (case l8 => as_aux_lemma => k_is)
    (case c8 => as_aux_lemma => k_is)
    (case k8 => as_aux_lemma => k_is)
    (case a9 => as_aux_lemma => k_is)
    (case l9 => as_aux_lemma => k_is)
    (case c9 => as_aux_lemma => k_is)
    (case k9 => as_aux_lemma => k_is)
    (case a10 => as_aux_lemma => k_is)
    (case l10 => as_aux_lemma => k_is)
    (case c10 => as_aux_lemma => k_is)
    (case k10 => as_aux_lemma => k_is)
    (case a11 => as_aux_lemma => k_is)
    (case l11 => as_aux_lemma => k_is)
    (case c11 => as_aux_lemma => k_is)
    (case k11 => as_aux_lemma => k_is)
    (case a12 => as_aux_lemma => k_is)
    (case l12 => as_aux_lemma => k_is)
    (case c12 => as_aux_lemma => k_is)
    (case k12 => as_aux_lemma => k_is)
    (case a13 => as_aux_lemma => k_is)
    (case l13 => as_aux_lemma => k_is)
    (case c13 => as_aux_lemma => k_is)
    (case k13 => as_aux_lemma => k_is)
    (case a14 => as_aux_lemma => k_is)
    (case l14 => as_aux_lemma => k_is)
    (case c14 => as_aux_lemma => k_is)
    (case k14 => as_aux_lemma => k_is)
    (case a15 => as_aux_lemma => k_is)
    (case l15 => as_aux_lemma => k_is)
    (case c15 => as_aux_lemma => k_is)
    (case k15 => as_aux_lemma => k_is)
    (case a16 => as_aux_lemma => k_is)
    (case l16 => as_aux_lemma => k_is)
    (case c16 => as_aux_lemma => k_is)
    (case k16 => as_aux_lemma => k_is)
    (case a17 => as_aux_lemma => k_is)
    (case l17 => as_aux_lemma => k_is)
    (case c17 => as_aux_lemma => k_is)
    (case k17 => as_aux_lemma => k_is)
    (case a18 => as_aux_lemma => k_is)
    (case l18 => as_aux_lemma => k_is)
    (case c18 => as_aux_lemma => k_is)
    (case k18 => as_aux_lemma => k_is)
    (case a19 => as_aux_lemma => k_is)
    (case l19 => as_aux_lemma => k_is)
    (case c19 => as_aux_lemma => k_is)
    (case k19 => as_aux_lemma => k_is)
    (case a20 => as_aux_lemma => k_is)
    (case l20 => as_aux_lemma => k_is)
    (case c20 => as_aux_lemma => k_is)
    (case k20 => as_aux_lemma => k_is)
    (case a21 => as_aux_lemma => k_is)
    (case l21 => as_aux_lemma => k_is)
    (case c21 => as_aux_lemma => k_is)
    (case k21 => as_aux_lemma => k_is)
    (case a22 => as_aux_lemma => k_is)
    (case l22 => as_aux_lemma => k_is)
    (case c22 => as_aux_lemma => k_is)
    (case k22 => as_aux_lemma => k_is)
    (case z_WORDS => as_aux_lemma => k_is)
    (case l_WORDS => as_aux_lemma => k_is)
    (case z_SMALL_SIGNS => as_aux_lemma => k_is)
    (case z_DIGITS => as_aux_lemma => k_is)
    (case z_LONGEST => as_aux_lemma => k_is)
    (case z_TRUTH_SORT => as_aux_lemma => k_is)
    (case n_ValueError => as_aux_lemma => k_is)
    (case n_all => as_aux_lemma => k_is)
    (case n_int => as_aux_lemma => k_is)
    (case n_isinstance => as_aux_lemma => k_is)
    (case n_len => as_aux_lemma => k_is)
    (case n_list => as_aux_lemma => k_is)
    (case n_range => as_aux_lemma => k_is)
    (case n_str => as_aux_lemma => k_is)
    (case n_tuple => as_aux_lemma => k_is)
    (case E_BadName => walk_at "mk_err")
    (case E_NameTaken => walk_at "mk_err")
    (case E_NoSort => walk_at "mk_err")
    (case E_ReservedName => walk_at "mk_err")
    (case E_NotSentence => walk_at "mk_err")
    (case E_NoAxiom => walk_at "mk_err")
    (case E_BadTable => walk_at "mk_err")
    (case E_BadWeight => walk_at "mk_err")
    (case E_TextError => walk_at "mk_leaf")
    (case kit => kernel_rfl)
    (case exm => kernel_rfl)
    (case insv => kernel_rfl)
    (case v1_WORDS => rfl)
    (case v2_WORDS => decide)
    (case v3_WORDS => rfl)



