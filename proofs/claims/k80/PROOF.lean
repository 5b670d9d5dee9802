import PyProof.Rows.All
import Wide.All
import OpenK.AllK
import Wide.FinOn
import KE.KStateDown
import Lean
import HandS.ForMost
import HandS.More
import HandS.Defaults
import HandS.Wide
import HandS.WideBits
import HandS.IsInst
import HandS.Flow
import HandS.Head0
import HandS.Head1
import HandS.Head2
import HandS.HeadEnd
import HandS.HeadHook1
import HandS.HeadHook2
import KE.KExcIs
import KE.KExcInit
import HandS.ExcInit
import HandS.HeadHook4
import HandS.ExcOwn
import HandS.ExcValue
import PySem.Challenge.RW_landweave_k80_refusals_made
import HandS.Walk
import HandS.TupAny
set_option Elab.async false
set_option linter.all false
set_option maxRecDepth 100000
set_option maxHeartbeats 4000000
/-! Words of my own over the hand layer: defs by name, readings rule by rule. -/
namespace Lw
open PySem PySem.Spec PyProof.Rows L2

/-! ### a def of the top by its name -/
structure Df (P : Program) (w : World) (K : PySem.W.Frag) (mg : Str → Option Value) (base : Heap) (x : Str) (ps : List Str) (k : Nat) (sp : Sp) : Prop where
  ex : ∃ (f : Addr) (fd : FuncData), mg x = some (.ref f) ∧ PySem.W.keepIn K (.ref f) = true ∧ Binds K fd ps [] ∧ FnOk P w K mg base CX0 k f fd ps sp
section
variable {X : Cx} {k : Nat} {ps ks : List Str} {sp : Sp} {x : Str} {p pos : Pos} {e : Expr} {es : List Expr} {kws : List Keyword} {t tk : TA} {g : List Value → List Value → List Value} {gV : List V → List V → List V}
theorem pe_df (D : Df X.prog X.w X.K X.mg X.base x ps k sp) (hr : Room k X.A) (ha : PA X (e :: es) t) (hg : Gl X x := by rfl) (hdb : (x == ("__debug__" : Str)) = false := by decide)
    (he : starEach (e :: es) X.env = (false, eval e X.env) :: starEach es X.env := by rfl) (hpl : (backTo pos (starEach es X.env)).any (·.1) = false := by rfl) :
    PE X (.Call (.Name x p) (e :: es) [] pos) (tCall sp [] E0 t) := by
  obtain ⟨f, fd, hm, hk, hb, F⟩ := D.ex
  exact pe_call F hr hg hm hk hb .nil pass0 ha hdb he hpl
theorem pe_df0 (D : Df X.prog X.w X.K X.mg X.base x ps k sp) (hr : Room k X.A) (hg : Gl X x := by rfl) (hdb : (x == ("__debug__" : Str)) = false := by decide) :
    PE X (.Call (.Name x p) [] [] pos) (tCall sp [] E0 tNil) := by
  obtain ⟨f, fd, hm, hk, hb, F⟩ := D.ex
  exact pe_call0 F hr hg hm hk hb .nil pass0 hdb
/-- f(k = v, ..) -/
theorem pe_callK0 {CX : CXT} {f : Addr} {fd : FuncData} {E : XK} (F : FnOk X.prog X.w X.K X.mg X.base CX k f fd ps sp) (hr : Room k X.A) (hg : Gl X x) (hm : X.mg x = some (.ref f)) (hk : PySem.W.keepIn X.K (.ref f) = true) (hb : KBinds X.K fd ps ks g gV) (hx : Passes CX X E)
    (hkw : PK X kws tk) (hall : (backToKw pos (keywordEach kws X.env)).all (·.1.isSome) = true := by rfl) (hks : (backToKw pos (keywordEach kws X.env)).filterMap (·.1) = ks := by rfl)
    (hdb : (x == ("__debug__" : Str)) = false := by decide)
    (hpl : ((backTo pos (starEach [] X.env)).any (·.1) || (backToKw pos (keywordEach kws X.env)).any (·.1.isNone)) = false := by rfl) :
    PE X (.Call (.Name x p) [] kws pos) (tCallK sp gV E tNil tk) := by
  refine ⟨fun pins s σ H Q I h => ?_⟩
  refine wpAny_Call_Name_kw (ld_glob I hg hm ?_ hdb)
  refine PySem.W.callWith_KW0 (h₀ := X.base) I.ok.mod.kin hk hall ?_ hpl
  refine thn (hkw.run pos pins s σ H _ I h) fun ws s2 ⟨zs, H2, I2, rz, q2⟩ => ⟨I2.kIn, ?_⟩
  rw [hks]
  exact run_fnk (us := []) (vs := []) F hr hb hx I2 .nil rz q2
/-- the same def by keywords -/
structure DfK (P : Program) (w : World) (K : PySem.W.Frag) (mg : Str → Option Value) (base : Heap) (x : Str) (ps ks : List Str) (gV : List V → List V → List V) (k : Nat) (sp : Sp) : Prop where
  ex : ∃ (f : Addr) (fd : FuncData) (g : List Value → List Value → List Value), mg x = some (.ref f) ∧ PySem.W.keepIn K (.ref f) = true ∧ KBinds K fd ps ks g gV ∧ FnOk P w K mg base CX0 k f fd ps sp
theorem pe_dfK0 (D : DfK X.prog X.w X.K X.mg X.base x ps ks gV k sp) (hr : Room k X.A) (hkw : PK X kws tk) (hg : Gl X x := by rfl)
    (hall : (backToKw pos (keywordEach kws X.env)).all (·.1.isSome) = true := by rfl) (hks : (backToKw pos (keywordEach kws X.env)).filterMap (·.1) = ks := by rfl)
    (hdb : (x == ("__debug__" : Str)) = false := by decide)
    (hpl : ((backTo pos (starEach [] X.env)).any (·.1) || (backToKw pos (keywordEach kws X.env)).any (·.1.isNone)) = false := by rfl) :
    PE X (.Call (.Name x p) [] kws pos) (tCallK sp gV E0 tNil tk) := by
  obtain ⟨f, fd, g, hm, hk, hb, F⟩ := D.ex
  exact pe_callK0 F hr hg hm hk hb pass0 hkw hall hks hdb hpl
theorem vals_rev : ∀ {zs : List V} {ws : List Value}, Vals zs ws → Vals zs.reverse ws.reverse
  | _, _, .nil => .nil
  | _, _, .cons r t => by
    rw [List.reverse_cons, List.reverse_cons]
    exact Vals.append (vals_rev t) (.cons r .nil)
/-- by keywords alone, in another order -/
def onlyK {α : Type} (g : List α → List α) : List α → List α → List α
  | [], ws => g ws
  | _ :: _, _ => []
theorem kb_of {K : PySem.W.Frag} {x qual : Str} {params : Arguments} {body : List Stmt} {scope : Scope} {kws : List (Str × V)} {f : Addr} {fd : FuncData} {ps ks : List Str} (g : {α : Type} → List α → List α) (F : FunD K x qual params body scope [] kws f fd) (hp : 0 < ps.length)
    (hl : ∀ ws : List Value, (g ws).length = ps.length → ws.length = ps.length) (hr : ∀ {zs : List V} {ws : List Value}, Vals zs ws → Vals (g zs) (g ws))
    (h : ∀ (kV doc pm : Value) (an : Option Addr) (cdv ct : Value) (ws : List Value), ws.length = ps.length → bindArgs (PySem.W.fnOf x qual params body scope .none kV doc pm an cdv ct) ⟨[], ks.zip ws⟩ = pure (ps.zip (g ws))) :
    KBinds K fd ps ks (onlyK g) (onlyK g) := by
  obtain ⟨oc, od, dV, kV, doc, pm, an, cdv, ct, osl, rfl, lk, hcd, hD, hK⟩ := F.ex
  rcases hD with ⟨_, rfl⟩ | ⟨e, _⟩
  · refine ⟨fun s us ws X e => ?_, fun {vs us zs ws} r1 r2 => ?_⟩
    · cases us with
      | nil => exact BindsTo.of_eq (h kV doc pm an cdv ct ws (hl ws e))
      | cons u us =>
        have z : (0 : Nat) = ps.length := e
        omega
    · cases r1 with
      | nil => exact hr r2
      | cons _ _ => exact .nil
  · exact absurd rfl e
/-! ### ** of a great base -/
def CPowW (i j : Int) : Prop := 0 ≤ j ∧ (Builtin.Int.intBits i : Int) * j ≤ 2 ^ 27
theorem op_powW : OpR X (binaryOp .Pow) (rI CPowW fun i j => .int (i ^ j.toNat)) := opI fun _ _ _ _ _ _ _ hc q => pow_int hc.1 hc.2 q
end

/-! ### rules whose reading names the written part itself (for the blocks of comprehensions) -/
section
variable {X : Cx} {K : PySem.W.Frag}
theorem ix_tupK (h : X.K = K := by rfl) : IxR X (rIxT K) := by subst h; exact ix_tup
theorem ix_listK (h : X.K = K := by rfl) : IxR X (rIxL K) := by subst h; exact ix_list
theorem sl_tupK (h : X.K = K := by rfl) : SlR X (rSlT K) := by subst h; exact sl_tup
theorem sl_listK (h : X.K = K := by rfl) : SlR X (rSlL K) := by subst h; exact sl_list
theorem call_lenK (h : X.K = K := by rfl) : CallR X (.builtin "len") (fun xs H Q => ∃ p ys, xs = [.ref p] ∧ (SqL K H p ys ∨ SqT K H p ys) ∧ Q (.int ys.length) H) := by subst h; exact call_len_seq
theorem call_isiK2 (h : X.K = K := by rfl) : CallR X (.builtin "isinstance") (rIsi K) := by subst h; exact call_isi
theorem op_inK (h : X.K = K := by rfl) : OpR X (compareOp .In) (rIn K false) := by subst h; exact op_in_seq
end
/-! ### readings -/
section
variable {σ σ' : L2.St} {H : Hp} {Q : VK} {v x y z : V} {ta tb tc te : TE} {r r' : R2} {i j : Int} {n : Nat} {D : Ends} {t u : TS} {c : TT} {K : PySem.W.Frag} {p : Addr} {xs : List V}
theorem g_var {m : Nat} (h : σ[m]? = some (some v)) (q : Q v H) : tVar m σ H Q := ⟨v, h, q⟩
theorem g_c (q : Q v H) : tC v σ H Q := q
theorem g_op (q : ta σ H fun x H1 => tb σ H1 fun y H2 => r x y H2 Q) : tOp r ta tb σ H Q := q
theorem g_un {r : V → Hp → VK → Prop} (q : ta σ H fun x H1 => r x H1 Q) : tUn r ta σ H Q := q
theorem g_U {g : Int → V} (q : Q (g i) H) : rU g (.int i) H Q := ⟨i, rfl, q⟩
theorem g_I0 {g : Int → Int → V} (q : Q (g i j) H) : rI0 g (.int i) (.int j) H Q := ⟨i, j, rfl, rfl, q⟩
theorem g_I {C : Int → Int → Prop} {g : Int → Int → V} (c : C i j) (q : Q (g i j) H) : rI C g (.int i) (.int j) H Q := ⟨i, j, rfl, rfl, c, q⟩
theorem g_eq (h : scal x y = true) (q : Q (.bl (decide (x = y))) H) : rEq x y H Q := ⟨h, q⟩
theorem g_ne (h : scal x y = true) (q : Q (.bl (!decide (x = y))) H) : rNe x y H Q := ⟨h, q⟩
theorem g_test {te : TE} {Q : Bool → Hp → Prop} (q : te σ H fun x H' => ∃ k, x = .bl k ∧ Q k H') : tTest te σ H Q := q
theorem g_B {te : TE} {Q : Bool → Hp → Prop} (q : te σ H fun x H' => ∃ k, x = .bl k ∧ Q k H') : tB te σ H Q := q
theorem g_bl {b : Bool} {P : Bool → Prop} (q : P b) : ∃ k, V.bl b = .bl k ∧ P k := ⟨b, rfl, q⟩
theorem g_and {t u : TT} {Q : Bool → Hp → Prop} (q : t σ H fun c H1 => if c = true then u σ H1 Q else Q false H1) : tAnd t u σ H Q := q
theorem g_or {t u : TT} {Q : Bool → Hp → Prop} (q : t σ H fun c H1 => if c = true then Q true H1 else u σ H1 Q) : tOr t u σ H Q := q
theorem g_not {t : TT} {Q : Bool → Hp → Prop} (q : t σ H fun c H1 => Q (!c) H1) : tNot t σ H Q := q
theorem g_andV (q : ta σ H fun x H1 => ∃ c, x = .bl c ∧ if c = true then tb σ H1 Q else Q (.bl false) H1) : tAndV ta tb σ H Q := q
theorem g_orV (q : ta σ H fun x H1 => ∃ c, x = .bl c ∧ if c = true then Q (.bl true) H1 else tb σ H1 Q) : tOrV ta tb σ H Q := q
theorem g_notV (q : ta σ H fun x H1 => ∃ c, x = .bl c ∧ Q (.bl (!c)) H1) : tNotV ta σ H Q := q
theorem g_if {t : TT} (q : t σ H fun c H1 => if c = true then ta σ H1 Q else tb σ H1 Q) : tIf t ta tb σ H Q := q
theorem g_chain (q : ta σ H fun x H1 => tb σ H1 fun y H2 => r x y H2 fun z H3 => ∃ k, z = .bl k ∧ (if k = true then tc σ H3 fun w' H4 => r' y w' H4 Q else Q (.bl false) H3)) : tChain r r' ta tb tc σ H Q := q
theorem g_seq (q : t { D with nx := u D } σ H) : tSeq t u D σ H := q
theorem g_next (q : D.nx σ H) : tNext D σ H := q
theorem g_asg {g : TG} (q : te σ H fun x H1 => g x σ H1 D.nx) : tAsg te g D σ H := q
theorem g_name {m : Nat} {Q : L2.St → Hp → Prop} (q : Q (σ.set m (some v)) H) : gName m v σ H Q := q
theorem g_sub {s : TSet} {Q : L2.St → Hp → Prop} (q : ta σ H fun o H1 => tb σ H1 fun i H2 => s o i v H2 fun H3 => Q σ H3) : gSub ta tb s v σ H Q := q
theorem g_setL {Q : Hp → Prop} {m : Nat} (h : H p = some (.lst xs)) (hj : ixN xs.length i = some m) (q : Q (upd H p (.lst (xs.set m v)))) : rSetL (.ref p) (.int i) v H Q := ⟨p, xs, i, m, rfl, rfl, h, hj, q⟩
theorem g_drop (q : te σ H fun _ H1 => D.nx σ H1) : tDrop te D σ H := q
theorem g_ret (q : te σ H D.rt) : tRet te D σ H := q
theorem g_retN (q : D.rt .non H) : tRetN D σ H := q
theorem g_ifS (q : c σ H fun b H1 => if b = true then t D σ H1 else u D σ H1) : tIfS c t u D σ H := q
theorem g_nil {Q : List V → Hp → Prop} (q : Q [] H) : tNil σ H Q := q
theorem g_cons {ts : TA} {Q : List V → Hp → Prop} (q : ta σ H fun x H1 => ts σ H1 fun xs H2 => Q (x :: xs) H2) : tCons ta ts σ H Q := q
theorem g_tup {ts : TA} (q : ts σ H fun xs H1 => xs.length ≤ sizeLine ∧ ∀ p, H1 p = none → Q (.ref p) (upd H1 p (.tup xs))) : tTup ts σ H Q := q
theorem g_lst {ts : TA} (q : ts σ H fun xs H1 => xs.length ≤ sizeLine ∧ ∀ p, H1 p = none → Q (.ref p) (upd H1 p (.lst xs))) : tLst ts σ H Q := q
theorem g_CB {f : List V → Hp → VK → Prop} {ts : TA} (q : ts σ H fun vs H1 => f vs H1 Q) : tCB f ts σ H Q := q
theorem g_call {sp : Sp} {E : XK} {ts : TA} (q : ts σ H fun vs H1 => sp vs H1 Q E) : tCall sp [] E ts σ H Q := by
  unfold tCall
  simp only [List.append_nil]
  exact q
theorem g_callK {sp : Sp} {E : XK} {gV : List V → List V → List V} {ts tk : TA} (q : ts σ H fun vs H1 => tk σ H1 fun zs H2 => sp (gV vs zs) H2 Q E) : tCallK sp gV E ts tk σ H Q := q
theorem g_bits (h : ta σ H fun x H1 => ∃ i, x = .int i ∧ Q (.int (Builtin.Int.intBits i : Nat)) H1) : tBits ta σ H Q := h
theorem g_int {P : Int → Prop} (q : P i) : ∃ j, V.int i = .int j ∧ P j := ⟨i, rfl, q⟩
theorem g_for {wi : TI} {g : TG} {tb : TS} (q : wi σ H fun J H1 => ∃ W : Nat → Nat → L2.St → Hp → Prop, (∃ m, W 0 m σ H1) ∧ ∀ i m σ H, W i m σ H →
      (J.stop i H ∧ D.nx σ H) ∨ (J.go i H ∧ ∃ N : L2.St → Hp → Prop, (∀ σ' H', N σ' H' → ∃ m', m' < m ∧ W (i + 1) m' σ' H') ∧ ∀ x H', J.yld i H x H' → g x σ H' fun σ2 H2 => tb { D with nx := N, ct := N, bk := D.nx } σ2 H2)) : tFor wi g tb D σ H := q
theorem g_rng1 {ts : TA} {R : It → Hp → Prop} (q : ts σ H fun vs H1 => ∃ j : Int, vs = [.int j] ∧ -(2 ^ 62) ≤ j ∧ j < 2 ^ 62 ∧ R (Itr 0 j.toNat) H1) : iRng1 ts σ H R := q
theorem g_ixL (h : SqL K H p xs) (ha : atI xs i = some v) (q : Q v H) : rIxL K (.ref p) (.int i) H Q := ⟨p, xs, i, v, rfl, rfl, h, ha, q⟩
theorem g_ixT (h : SqT K H p xs) (ha : atI xs i = some v) (q : Q v H) : rIxT K (.ref p) (.int i) H Q := ⟨p, xs, i, v, rfl, rfl, h, ha, q⟩
/-- a test that the facts leave open -/
theorem g_ite {c A B : Prop} [Decidable c] (h1 : c → A) (h2 : ¬ c → B) : if decide c = true then A else B := by
  by_cases h : c
  · rw [decide_eq_true h]; exact iteT (h1 h)
  · rw [decide_eq_false h]; exact iteF (h2 h)
theorem g_iteN {c A B : Prop} [Decidable c] (h1 : ¬ c → A) (h2 : c → B) : if (!decide c) = true then A else B := by
  by_cases h : c
  · rw [decide_eq_true h]; exact iteF (h2 h)
  · rw [decide_eq_false h]; exact iteT (h1 h)
theorem iteNT {A B : Prop} (h : B) : if (!true) = true then A else B := iteF h
theorem iteNF {A B : Prop} (h : A) : if (!false) = true then A else B := iteT h
theorem iteS {c A B : Prop} [Decidable c] (hc : c) (h : A) : if decide c = true then A else B := by
  rw [decide_eq_true hc]
  exact iteT h
theorem iteNo {c A B : Prop} [Decidable c] (hc : ¬ c) (h : B) : if decide c = true then A else B := by
  rw [decide_eq_false hc]
  exact iteF h
theorem iteSE {a b : Str} {A B : Prop} (h : a = b) (q : A) : if decide (V.str a = V.str b) = true then A else B := iteS (by rw [h]) q
theorem iteSN {a b : Str} {A B : Prop} (h : decide (a = b) = false) (q : B) : if decide (V.str a = V.str b) = true then A else B := iteNo (fun e => by cases e; simp at h) q
theorem g_dget {td ty : TE} (q : td σ H fun x H1 => ty σ H1 fun y H2 => ∃ a v, x = .ref a ∧ DGet H2 a y (some v) ∧ Q v H2) : tDGet td ty σ H Q := q
theorem g_dput {td ty tv : TE} (q : tv σ H fun v H1 => td σ H1 fun x H2 => ty σ H2 fun y H3 => ∃ a H4, x = .ref a ∧ DPut H3 a y v H4 ∧ D.nx σ H4) : sDPut td ty tv D σ H := q
theorem g_dnew (q : ∀ p, H p = none → Q (.ref p) (upd H p (.dK []))) : tDNewK σ H Q := q
theorem g_tupT {t : TGs} {Q : L2.St → Hp → Prop} {m : Nat} (h : SqT K H p xs) (hl : xs.length = m) (q : t xs σ H Q) : gTup K m t (.ref p) σ H Q := ⟨p, xs, rfl, h, hl, q⟩
theorem g_gcons {t : TG} {u : TGs} {Q : L2.St → Hp → Prop} (q : t v σ H fun σ' H' => u xs σ' H' Q) : gCons t u (v :: xs) σ H Q := ⟨v, xs, rfl, q⟩
theorem g_gnil {Q : L2.St → Hp → Prop} (q : Q σ H) : gNil [] σ H Q := ⟨rfl, q⟩
theorem g_itup {tl : TE} {R : It → Hp → Prop} (q : tl σ H fun x H1 => ∃ a, x = .ref a ∧ (∃ xs, SqT K H1 a xs) ∧ R (Itt K a) H1) : iTup K tl σ H R := q
theorem g_ilist {tl : TE} {R : It → Hp → Prop} (q : tl σ H fun x H1 => ∃ a, x = .ref a ∧ (∃ xs, SqL K H1 a xs) ∧ R (Itl K a) H1) : iList K tl σ H R := q
theorem g_sl {s : V → Option Int → Option Int → Hp → VK → Prop} {tl th : TO} (q : te σ H fun x H1 => tl σ H1 fun l H2 => th σ H2 fun u H3 => s x l u H3 Q) : tSl s te tl th σ H Q := q
theorem g_part {Q : Option Int → Hp → Prop} (q : te σ H fun x H1 => ∃ i, x = .int i ∧ Q (some i) H1) : tPart te σ H Q := q
theorem g_nopart {Q : Option Int → Hp → Prop} (q : Q none H) : tNoPart σ H Q := q
theorem g_slT {lo hi : Option Int} (h : SqT K H p xs) (hw : ¬ (HT.sIx xs.length 0 lo = 0 ∧ HT.sIx xs.length xs.length hi = xs.length)) (q : ∀ p', H p' = none → Q (.ref p') (upd H p' (.tup (cutV xs lo hi)))) : rSlT K (.ref p) lo hi H Q := ⟨p, xs, rfl, h, hw, q⟩
theorem g_slL {lo hi : Option Int} (h : SqL K H p xs) (q : ∀ p', H p' = none → Q (.ref p') (upd H p' (.lst (cutV xs lo hi)))) : rSlL K (.ref p) lo hi H Q := ⟨p, xs, rfl, h, q⟩
theorem g_cat {l b : Addr} {xs zs : List V} (h1 : H l = some (.lst xs)) (h2 : H b = some (.lst zs)) (hl : xs.length + zs.length ≤ sizeLine) (q : ∀ p', H p' = none → Q (.ref p') (upd H p' (.lst (xs ++ zs)))) : rCat (.ref l) (.ref b) H Q := ⟨l, b, xs, zs, rfl, rfl, h1, h2, hl, q⟩
theorem g_lc {wi : TI} {g : TG} {tt : TT} {vs : List Nat} (q : wi σ H fun J H1 => ∀ D, H1 D = none → ∃ W : Nat → Nat → Hp → Prop, (∃ m, W 0 m (upd H1 D (.lst []))) ∧ ∀ i m H, W i m H →
  (J.stop i H ∧ Q (.ref D) H) ∨ (J.go i H ∧ ∃ Nx : Hp → Prop, (∀ H', Nx H' → ∃ m', m' < m ∧ W (i + 1) m' H') ∧ ∀ x H', J.yld i H x H' → g x (wipe σ vs) H' fun σ2 H2 => wipe σ2 vs = wipe σ vs ∧ tt σ2 H2 fun b H3 =>
    if b = true then te σ2 H3 fun y H4 => ∃ acc, H4 D = some (.lst acc) ∧ acc.length < sizeLine ∧ Nx (upd H4 D (.lst (acc ++ [y]))) else Nx H3)) : tLc wi g tt te vs σ H Q := q
theorem g_bm {T : String} {r : V → List V → Hp → VK → Prop} {t : TA} (q : te σ H fun x H1 => tyV K T x H1 ∧ t σ H1 fun xs H2 => r x xs H2 Q) : tBM K T r te t σ H Q := q
theorem g_bm0 {T : String} {r : V → List V → Hp → VK → Prop} (q : te σ H fun x H1 => tyV K T x H1 ∧ r x [] H1 Q) : tBM0 K T r te σ H Q := q
theorem g_append {l : Addr} {y : V} (h : H l = some (.lst xs)) (hl : xs.length < sizeLine) (q : Q .non (upd H l (.lst (xs ++ [y])))) : rAppend (.ref l) [y] H Q := ⟨l, xs, y, rfl, rfl, h, hl, q⟩
theorem tyL {l : Addr} (h : H l = some (.lst xs)) : tyV K "list" (.ref l) H := .inl ⟨rfl, _, SqL.of h⟩
theorem g_max2 {i j : Int} {P : Int → Prop} (q : P (if j > i then j else i)) : ∃ i' j' : Int, [V.int i, V.int j] = [V.int i', V.int j'] ∧ P (if j' > i' then j' else i') := ⟨i, j, rfl, q⟩
end
theorem upd_self {H : Hp} {p : Addr} {o : HO} (h : H p = some o) : upd H p o = H := by
  funext b
  unfold upd
  by_cases e : b = p
  · rw [if_pos e, e, h]
  · rw [if_neg e]
/-- all but p is kept -/
def Keep (p : Addr) (H H' : Hp) : Prop := ∀ b u, b ≠ p → H b = some u → H' b = some u
theorem Keep.refl {p : Addr} {H : Hp} : Keep p H H := fun _ _ _ h => h
theorem Keep.trans {p : Addr} {H H1 H2 : Hp} (a : Keep p H H1) (b : Keep p H1 H2) : Keep p H H2 := fun c u n h => b c u n (a c u n h)
theorem Keep.put {p : Addr} {H H' : Hp} {o : HO} (a : Keep p H H') : Keep p H (upd H' p o) := fun c u n h => by
  rw [upd_ne n]
  exact a c u n h
theorem Keep.new {p x : Addr} {H H' : Hp} {o : HO} (a : Keep p H H') (hx : H' x = none) : Keep p H (upd H' x o) := fun c u n h => by
  rw [upd_ne (ne_of_none (a c u n h) hx)]
  exact a c u n h
theorem Keep.seq {K : PySem.W.Frag} {p a : Addr} {H H' : Hp} {xs : List V} (k : Keep p H H') (n : a ≠ p) (h : SqL K H a xs) : SqL K H' a xs := by
  rcases h with (h | ⟨o, h⟩) | h
  · exact .inl (.inl (k _ _ n h))
  · exact .inl (.inr ⟨o, k _ _ n h⟩)
  · exact .inr h
theorem Keep.seqN {K : PySem.W.Frag} {p a : Addr} {H H' : Hp} {xs : List V} (k : Keep p H H') (n : H p = none) (h : SqL K H a xs) : SqL K H' a xs := by
  rcases h with (h | ⟨o, h⟩) | h
  · exact .inl (.inl (k _ _ (ne_of_none h n) h))
  · exact .inl (.inr ⟨o, k _ _ (ne_of_none h n) h⟩)
  · exact .inr h
/-! ### numbers -/
theorem bits_le {n : Int} (h0 : 0 ≤ n) (h : n ≤ 1000000000000000000000000000000) : Builtin.Int.intBits n ≤ 100 := by
  have e : (2 : Nat) ^ 100 = 1267650600228229401496703205376 := by decide
  have hb : n.natAbs < 2 ^ 100 := by omega
  have l := PySem.Flt.log2_lt_of (by decide) hb
  unfold Builtin.Int.intBits
  split <;> omega
theorem div_ok {i n : Int} (h0 : 0 < n) (h : n ≤ 1000000000000000000000000000000) : CDivW i n := by
  have e : (2 : Nat) ^ 100 = 1267650600228229401496703205376 := by decide
  exact wide_div h0 (b := 100) (by omega) (by decide) (by decide)
theorem pow_ok {i j : Int} (h : decide (0 ≤ j ∧ (Builtin.Int.intBits i : Int) * j ≤ 2 ^ 27) = true) : CPowW i j := (show _ ∧ _ from of_decide_eq_true h)
end Lw

/-! The call of a class of errors that has its own __init__, whatever built-in class it stands over; keywords too. -/
namespace PySem
namespace EcP
open PySem.W PySem.Calls PyProof.Rows
section
variable {M : Model} {prog : Program} {w : World} {A : Around} {E : Value → Shared → Prop} {R : Result → Shared → Prop} {h : Heap} {g : Array GenState} {d : Drawn} {t : Nat} {os : OsState}
variable {nm q : Str} {C N : Addr} {bs bm bmB : List Value} {hdct : Bool} {sn : List Str} {sub : List Value} {ab : Bool} {col : Option Bool} {dd : Option Addr} {k0 k1 k2 k3 k5 : Option Value} {B newId initId : String} {rest : List Value} {kw : List (Str × Value)}
/-- what the tail of a class of errors must hold, that B's own maker makes its instances -/
structure Tail (bm : List Value) (B : String) : Prop where
  b : bm.contains (.type B) = true
  a : bm.contains (.type "AttributeError") = false
  n : bm.contains (.type "NameError") = false
theorem Tail.c {C : Addr} (T : Tail bm B) : ((Value.ref C :: bm).contains (.type B) = true ∧ (Value.ref C :: bm).contains (.type "AttributeError") = false) ∧ (Value.ref C :: bm).contains (.type "NameError") = false := by
  refine ⟨⟨?_, ?_⟩, ?_⟩ <;> rw [List.contains_cons]
  · rw [T.b, Bool.or_true]
  · rw [T.a]; rfl
  · rw [T.n]; rfl
theorem ask_new (F : ExcBaseFacts B newId initId bmB) (T : Tail bm B) {Q : Unit → Shared → Prop} (hC : h.get? C = some (excClassObj nm q C N bs bm hdct sn sub ab col dd k0 k1 k2 k3 k5 newId)) (hq : Q () ⟨h, g, d, t, os⟩) :
    wpAny M A (checkBuiltinCall newId ⟨.ref C :: rest, kw⟩) Q E ⟨h, g, d, t, os⟩ := by
  have c := (T.c (C := C)).1.1
  have st := F.noStar
  simp only [checkBuiltinCall, F.newKind, F.newSplit, F.newRow]
  repeat (first
    | refine wpAny_loadPart_at hC ?_
    | (refine wpAny_isSubtype_exc hC ?_; rw [c])
    | refine wpAny_staticBase_exc hC ?_
    | refine wpAny_madeBy_exc hC ?_
    | simp only [bne_self_eq_false, Bool.false_eq_true, if_false]
    | wp_step)
  exact hq
theorem run_new (F : ExcBaseFacts B newId initId bmB) (T : Tail bm B) (hC : h.get? C = some (excClassObj nm q C N bs bm hdct sn sub ab col dd k0 k1 k2 k3 k5 newId)) (hz : rest.length ≤ sizeLine)
    (hq : R (.ok (.ret (.ref (h.objs.size + 1)))) ⟨(h.push (kdv_tup rest)).push (HandSPX.excO C h.objs.size), g, d, t, os⟩) :
    codeAny (model prog w) A (.builtin newId ⟨.ref C :: rest, kw⟩) R ⟨h, g, d, t, os⟩ := by
  have en := F.ends
  obtain ⟨⟨cB, cA⟩, cN⟩ := T.c (C := C)
  refine codeAny_builtinAt F.entry ?_
  unfold Builtin.«BaseException.__new__»
  refine wpAt_bind ?_
  show wpAt _ _ _ (stack >>= _) _ _ _
  refine wpAt_bind (wpAt_stack fun p0 below0 => wpAt_of_wpAny ?_)
  wp_walk
  refine wpAt_of_wpAny ?_
  rw [F.owner]
  repeat (first
    | with_reducible refine wpAny_madeHere_exc F.canon hC ?_
    | with_reducible refine wpAny_loadPart_at hC ?_
    | (with_reducible refine wpAny_isSubtype_exc hC ?_; first | rw [cB] | rw [cA] | rw [cN])
    | wp_step)
  show R _ _
  rw [Heap.size_push]
  exact hq
theorem run_type (F : ExcBaseFacts B newId initId bmB) (T : Tail bm B) {fI : Addr} {Q : Fin → Shared → Prop} (hC : h.get? C = some (excClassObj nm q C N bs bm hdct sn sub ab col dd k0 k1 k2 k3 k5 newId))
    (hi : Looks (model prog w) h (typeLookup (.ref C) "__init__") (some (.ref fI))) (hb : ∀ x, Looks (model prog w) h (bindSpecial (.ref fI) x) (.ref fI, [x])) (hz : rest.length ≤ sizeLine)
    (hq : codeAny (model prog w) A (.call (.ref fI) ⟨.ref (h.objs.size + 1) :: rest, kw⟩)
      (fun r s' => match r with | .ok (.ret v) => v = .none ∧ Q (.done (.ret (.ref (h.objs.size + 1)))) s' | .ok _ => False | .error e => E e s') ⟨(h.push (kdv_tup rest)).push (HandSPX.excO C h.objs.size), g, d, t, os⟩) :
    wpAny (model prog w) A (Builtin.«type.__call__» ⟨.ref C :: rest, kw⟩) Q E ⟨h, g, d, t, os⟩ := by
  repeat (first
    | with_reducible refine wpAny_loadPart_at hC ?_
    | with_reducible refine wpAny_madeBy_exc hC ?_
    | wp_step)
  refine codeAny_call_builtin_code (Code.quiet_builtin _ F.quiet) (ask_new F T hC (run_new F T hC hz ?_))
  show wpAny _ _ _ _ _ _
  have up : ∀ b o, h.get? b = some o → ((h.push (kdv_tup rest)).push (HandSPX.excO C h.objs.size)).get? b = some o := fun b o e => Heap.get?_push_of_some _ (Heap.get?_push_of_some _ e)
  have hC1 := up _ _ hC
  have at1 : ((h.push (kdv_tup rest)).push (HandSPX.excO C h.objs.size)).get? (h.objs.size + 1) = some (HandSPX.excO C h.objs.size) := by heap_get
  have cC : (Value.ref C :: bm).contains (.ref C) = true := by simp
  have i1 := hi.keeps up
  have b1 := (hb (.ref (h.objs.size + 1))).keeps up
  unfold isInstance
  repeat (first
    | with_reducible refine wpAny_loadPart_at at1 ?_
    | (with_reducible refine wpAny_isSubtype_exc hC1 ?_; rw [cC])
    | wp_step)
  show wpAny _ _ (typeLookup (.ref C) _) _ _ _
  refine i1.at (wpAny_holding (wpAny_bind (b1.at (wpAny_bind (wpAny_call (codeAny_mono hq fun r s' z => ?_))))))
  rcases r with e | (v | _ | _ | _) <;> first | exact z | exact z.elim | skip
  obtain ⟨rfl, z⟩ := z
  first | exact wpAny_pure (wpAny_pure z) | (wp_walk; exact z)
theorem ask_type {Q : Unit → Shared → Prop} (hC : h.get? C = some (excClassObj nm q C N bs bm hdct sn sub ab col dd k0 k1 k2 k3 k5 newId)) (hq : Q () ⟨h, g, d, t, os⟩) :
    wpAny M A (checkBuiltinCall "type.__call__" ⟨.ref C :: rest, kw⟩) Q E ⟨h, g, d, t, os⟩ := by
  have ts := tc_sub
  have ty : (⟨h, g, d, t, os⟩ : Shared).TypeIs (.ref C) "type" := ⟨_, hC, rfl⟩
  simp only [checkBuiltinCall, tc_kind, tc_split]
  repeat (any_goals (first
    | assumption
    | with_reducible refine wpAny_loadPart_at hC ?_
    | with_reducible refine wpAny_onRaise ?_
    | with_reducible refine wpAny_map ?_
    | wp_step))
/-- C(.., k = ..), C with an __init__ of its own -/
theorem call_make (F : ExcBaseFacts B newId initId bmB) (T : Tail bm B) {fI : Addr} (hC : h.get? C = some (excClassObj nm q C N bs bm hdct sn sub ab col dd k0 k1 k2 k3 k5 newId))
    (hi : Looks (model prog w) h (typeLookup (.ref C) "__init__") (some (.ref fI))) (hb : ∀ x, Looks (model prog w) h (bindSpecial (.ref fI) x) (.ref fI, [x])) (hz : rest.length ≤ sizeLine)
    (hq : codeAny (model prog w) (A.under (.builtin "type.__call__" ⟨.ref C :: rest, kw⟩)) (.call (.ref fI) ⟨.ref (h.objs.size + 1) :: rest, kw⟩) (InitBack (h.objs.size + 1) R) ⟨(h.push (kdv_tup rest)).push (HandSPX.excO C h.objs.size), g, d, t, os⟩) :
    codeAny (model prog w) A (.call (.ref C) ⟨rest, kw⟩) R ⟨h, g, d, t, os⟩ := by
  have tl := tc_lookup
  have tb := tc_bind (.ref C)
  have ty : (⟨h, g, d, t, os⟩ : Shared).TypeIs (.ref C) "type" := ⟨_, hC, rfl⟩
  refine codeAny_of_tree ?_
  show wpAny _ _ (callAny (.ref C) _) _ _ _
  repeat (any_goals (first | assumption | with_reducible refine wpAny_loadPart_at hC ?_ | wp_step))
  refine ⟨rfl, codeAny_call_builtin_at (Code.quiet_builtin _ (by decide +kernel)) entry_typeCall (ask_type hC (run_type F T hC hi hb hz (codeAny_mono hq fun r s' z => ?_)))⟩
  rcases r with e | (v | _ | _ | _) <;> exact z
end
end EcP
end PySem

namespace PySem
namespace F
theorem store_KeyError : StoreFacts "KeyError" [.type "KeyError", .type "LookupError", .type "Exception", .type "BaseException", .type "object"] "object.__setattr__" "object" := ⟨by kernel_rfl,
  .of (owner := "object") (n := "__setattr__") (by rw [typeLookup_type, builtinLookup_eq_fast]; kernel_rfl) (by decide +kernel) (by decide +kernel) (by decide +kernel) (by first | exact .inl (by decide +kernel) | exact .inr (by decide +kernel))
    (by rw [isSubtype_type]; kernel_rfl), entry_object_sa, by decide +kernel, by decide +kernel, by decide +kernel, fun a b c => by unfold argsOk; kernel_rfl, fun self => by kernel_rfl⟩
end F
namespace EcP
open PySem.W PySem.Calls PyProof.Rows
def tailV : List Value := [.type "ValueError", .type "Exception", .type "BaseException", .type "object"]
def tailK : List Value := [.type "KeyError", .type "LookupError", .type "Exception", .type "BaseException", .type "object"]
/-- a built-in class of errors over which own classes may stand -/
structure Base (B newId : String) (bmT : List Value) : Prop where
  ex : ∃ initId bmB, ExcBaseFacts B newId initId bmB
  t : Tail bmT B
  s : ∃ T, StoreFacts T bmT "object.__setattr__" "object"
theorem baseV : Base "ValueError" "ValueError.__new__" tailV := ⟨⟨_, _, F.excBase_ValueError⟩, ⟨by decide +kernel, by decide +kernel, by decide +kernel⟩, ⟨_, F.store_ValueError⟩⟩
theorem baseK : Base "LookupError" "LookupError.__new__" tailK := ⟨⟨_, _, F.excBase_LookupError⟩, ⟨by decide +kernel, by decide +kernel, by decide +kernel⟩, ⟨_, F.store_KeyError⟩⟩
theorem Tail.of {bmT bm : List Value} {B : String} (T : Tail bmT B) (e : excTail bmT bm = true) : Tail bm B := ⟨(excTail_contains B _ e).trans T.b, (excTail_contains _ _ e).trans T.a, (excTail_contains _ _ e).trans T.n⟩

/-! ### self.f = v -/
section
open Builtin Builtin.ObjectAttr
variable {prog : Program} {w : World} {A : Around} {R : Result → Shared → Prop} {hp : Heap} {g : Array GenState} {d : Drawn} {t : Nat} {os : OsState}
variable {K : Frag} {name : Str} {tk : Tok} {v : Value} {x C : Addr} {fv : Array Value} {cd : ClassData} {T : String} {bmT : List Value}
theorem put_new (SF : StoreFacts T bmT "object.__setattr__" "object") (X : K.In hp) (hx : hp.get? x = some { cls := .ref C, data := .fields fv }) (ov : excOver K C bmT = true) (hcd : clsIn K C = some cd) (hh : cd.hasDict = true) (ha : findIn K (.ref C) name = some none)
    (hq : ∀ h' tk' dx, (∀ b o, b ≠ x → hp.get? b = some o → h'.get? b = some o) → hp.objs.size ≤ dx → dx ≠ x → h'.get? x = some { cls := .ref C, dict := some dx, data := .fields fv } → h'.Ns1 dx (fun y => if y = name then some v else none) → R (.ok (.ret .none)) ⟨h', g, d, tk', os⟩) :
    codeAny (model prog w) A (.call (.builtin "object.__setattr__") ⟨[.ref x, .str name tk, v], []⟩) R ⟨hp, g, d, t, os⟩ := by
  have I : InstAt hp x { cls := .ref C, data := .fields fv } C none := ⟨hx, rfl, rfl, trivial⟩
  have ne : x ≠ hp.objs.size := Nat.ne_of_lt (Heap.lt_size hx)
  have lc : Looks (model prog w) hp (classData C) cd := looks_clsIn X hcd
  refine osa_openX (r := none) SF X I ov (by unfold takerIn; rw [ha]; rfl) fun b => ?_
  show wpAny _ _ (storeInOwnDict (.ref x) (.ref C) (.str name tk) name v b) _ _ _
  obtain ⟨nm, bs, mro, ns, qn, hd, sn, sb, ab, col, del⟩ := cd
  dsimp only at hh
  subst hh
  unfold storeInOwnDict ownDictForStores
  repeat (first
    | with_reducible refine HandSPX.store_in_new ?_ ?_
    | with_reducible refine wpAny_loadPart_at hx ?_
    | with_reducible refine lc.at ?_
    | wp_step)
  · exact ⟨_, #[], _, (Heap.get?_update_ne _ _ _ _ ne.symm).trans (Heap.get?_push_at rfl rfl), rfl, fun e he => absurd he (by simp), fun _ => rfl⟩
  · intro h' tk' hn' hs
    have hx1 : (hp.push { cls := .type "dict", data := .dict #[] }).get? x = some { cls := .ref C, data := .fields fv } := Heap.get?_push_of_some _ hx
    exact hq h' tk' hp.objs.size (fun b o hb ho => (hs.2 b (Nat.ne_of_lt (Heap.lt_size ho))).trans ((Heap.get?_update_ne _ _ _ _ hb).trans (Heap.get?_push_of_some _ ho))) (Nat.le_refl _) ne.symm ((hs.2 x ne).trans (Heap.get?_update_self _ hx1 rfl)) hn'
theorem put_old {dx : Addr} {m0 : Str → Option Value} {nl : List Str} (SF : StoreFacts T bmT "object.__setattr__" "object") (X : K.In hp) (hx : hp.get? x = some { cls := .ref C, dict := some dx, data := .fields fv }) (hns : hp.Ns1 dx m0) (hw : Within m0 nl) (hz : nl.length ≤ 1000)
    (ov : excOver K C bmT = true) (hcd : clsIn K C = some cd) (hh : cd.hasDict = true) (ha : findIn K (.ref C) name = some none)
    (hq : ∀ h' tk', (∀ b o, b ≠ dx → hp.get? b = some o → h'.get? b = some o) → h'.Ns1 dx (fun y => if y = name then some v else m0 y) → R (.ok (.ret .none)) ⟨h', g, d, tk', os⟩) :
    codeAny (model prog w) A (.call (.builtin "object.__setattr__") ⟨[.ref x, .str name tk, v], []⟩) R ⟨hp, g, d, t, os⟩ := by
  obtain ⟨oD, esD, epD, hoD, hdD, _⟩ := hns.count hw
  have I : InstAt hp x { cls := .ref C, dict := some dx, data := .fields fv } C (some oD) := ⟨hx, rfl, rfl, hoD⟩
  have lc : Looks (model prog w) hp (classData C) cd := looks_clsIn X hcd
  refine osa_openX (r := none) SF X I ov (by unfold takerIn; rw [ha]; rfl) fun b => ?_
  show wpAny _ _ (storeInOwnDict (.ref x) (.ref C) (.str name tk) name v b) _ _ _
  obtain ⟨nm, bs, mro, ns, qn, hd, sn, sb, ab, col, del⟩ := cd
  dsimp only at hh
  subst hh
  unfold storeInOwnDict ownDictForStores
  repeat (first
    | with_reducible refine OEX.store_in_old hns hw hz ?_
    | with_reducible refine wpAny_loadPart_at hx ?_
    | with_reducible refine lc.at ?_
    | wp_step)
  exact fun h' tk' hn' hs => hq h' tk' (fun b o hb ho => (hs.2 b hb).trans ho) hn'
end
end EcP
end PySem

/-! Errors as values: made, written, their fields read, asked for their class. -/
namespace Ec
open PySem PySem.Spec PyProof.Rows L2

/-! ### what the written part says of an own class of errors -/
def Shape (K : PySem.W.Frag) (C : Addr) (bmT : List Value) (newId : String) : Prop :=
  ∃ nm q N bs bm sn sub ab col dd k0 k1 k2 k3 k5, K.lookup C = some (excClassObj nm q C N bs bm true sn sub ab col dd k0 k1 k2 k3 k5 newId) ∧ PySem.W.excTail bmT bm = true
def shapeB (K : PySem.W.Frag) (C : Addr) (bmT : List Value) (newId : String) : Bool := match K.lookup C with
  | some ⟨.type "type", _, .cls cd, sl⟩ => (match cd.mro, sl.toList with
    | .ref D :: bm, [_, _, _, _, some (.builtin n), _] => D == C && (n == newId && (cd.hasDict && (!cd.hasDel && PySem.W.excTail bmT bm)))
    | _, _ => false)
  | _ => false
theorem shape_ok {K : PySem.W.Frag} {C : Addr} {bmT : List Value} {newId : String} (h : shapeB K C bmT newId = true) : Shape K C bmT newId := by
  unfold shapeB at h
  split at h
  · rename_i dd cd sl hl
    split at h
    · rename_i D bm k0 k1 k2 k3 n k5 e1 e2
      obtain ⟨nm, bs, mro, ns, qn, hd, sn, sub, ab, col, hdel⟩ := cd
      obtain ⟨sll⟩ := sl
      simp only [Bool.and_eq_true, beq_iff_eq, Bool.not_eq_true'] at h e1 e2
      obtain ⟨rfl, rfl, rfl, rfl, hr⟩ := h
      subst e1
      subst e2
      exact ⟨nm, qn, ns, bs, bm, sn, sub, ab, col, dd, k0, k1, k2, k3, k5, hl, hr⟩
    · cases h
  · cases h
structure Own (K : PySem.W.Frag) (C : Addr) : Prop where
  maker : ∃ B newId bmT, PySem.EcP.Base B newId bmT ∧ Shape K C bmT newId
  sa : PySem.W.findIn K (.ref C) "__setattr__" = some (some (.builtin "object.__setattr__"))
  exC : PySem.W.subIn K (.ref C) (.type "BaseException") = some true
  tyC : PySem.W.typeIn K (.ref C) = some (.type "type")
  kC : PySem.W.keepIn K (.ref C) = true
  cl : (PySem.W.clsIn K C).isSome = true
  ga : PySem.W.findIn K (.ref C) "__getattribute__" = some (some (.builtin "BaseException.__getattribute__"))
  gg : PySem.W.findIn K (.ref C) "__getattr__" = some none
  ca : PySem.W.findIn K (.ref C) "__class__" = some (some (.builtin "object.__class__"))
  sp : PySem.W.specialIn K (.builtin "object.__class__") "__get__" = some (some (.builtin "getset_descriptor.__get__"))
  tk : PySem.W.takesIn K (.builtin "object.__class__") = some true
  mr : PySem.W.mroIn K C (.type "object") = some true
  hd : PySem.W.hasDictIn K C = true
def ownB (K : PySem.W.Frag) (C : Addr) : Bool := (shapeB K C PySem.EcP.tailV "ValueError.__new__" || shapeB K C PySem.EcP.tailK "LookupError.__new__") && (decide (PySem.W.findIn K (.ref C) "__setattr__" = some (some (.builtin "object.__setattr__"))) &&
  (decide (PySem.W.subIn K (.ref C) (.type "BaseException") = some true) && (decide (PySem.W.typeIn K (.ref C) = some (.type "type")) && (PySem.W.keepIn K (.ref C) && ((PySem.W.clsIn K C).isSome &&
  (decide (PySem.W.findIn K (.ref C) "__getattribute__" = some (some (.builtin "BaseException.__getattribute__"))) && (decide (PySem.W.findIn K (.ref C) "__getattr__" = some none) && (decide (PySem.W.findIn K (.ref C) "__class__" = some (some (.builtin "object.__class__"))) &&
  (decide (PySem.W.specialIn K (.builtin "object.__class__") "__get__" = some (some (.builtin "getset_descriptor.__get__"))) && (decide (PySem.W.takesIn K (.builtin "object.__class__") = some true) && (decide (PySem.W.mroIn K C (.type "object") = some true) && PySem.W.hasDictIn K C)))))))))))
theorem own_ok {K : PySem.W.Frag} {C : Addr} (h : ownB K C = true) : Own K C := by
  unfold ownB at h
  simp only [Bool.and_eq_true, Bool.or_eq_true, decide_eq_true_eq] at h
  obtain ⟨h1, h2, h3, h4, h5, h6, h7, h8, h9, h10, h11, h12, h13⟩ := h
  exact ⟨h1.elim (fun z => ⟨_, _, _, PySem.EcP.baseV, shape_ok z⟩) (fun z => ⟨_, _, _, PySem.EcP.baseK, shape_ok z⟩), h2, h3, h4, h5, h6, h7, h8, h9, h10, h11, h12, h13⟩

/-- at a: an error of the class at C, with these fields -/
inductive Exc (H : Hp) (a C : Addr) : List (Str × V) → Prop
  | bare (h : H a = some (exo a C none)) : Exc H a C []
  | dict {d : Addr} {fs : List (Str × V)} (h : H a = some (exo a C (some d))) (hd : H d = some (exd d fs)) : Exc H a C fs
theorem Exc.keep {H H' : Hp} {a C : Addr} {fs : List (Str × V)} (e : Exc H a C fs) (k : ∀ b u, H b = some u → H' b = some u) : Exc H' a C fs := by
  cases e with
  | bare h => exact .bare (k _ _ h)
  | dict h hd => exact .dict (k _ _ h) (k _ _ hd)
theorem Exc.inst {P : Program} {w : World} {H : Hp} {h : Heap} {a C : Addr} {fs : List (Str × V)} (hok : HOk P w H h) (e : Exc H a C fs) : ∃ ox od, PySem.W.InstAt h a ox C od := by
  cases e with
  | bare q =>
    obtain ⟨t, ho⟩ := exo_at hok q
    exact ⟨_, none, ho, rfl, rfl, trivial⟩
  | dict q qd =>
    obtain ⟨t, ho⟩ := exo_at hok q
    obtain ⟨mA, hns, _⟩ := exd_at hok qd
    obtain ⟨o, hd, _⟩ := lookIn_ns hns
    exact ⟨_, some o, ho, rfl, rfl, hd⟩

/-! ### isinstance of such a value -/
def rIsX (K : PySem.W.Frag) : List V → Hp → VK → Prop := fun xs H Q => ∃ (a C : Addr) (fs : List (Str × V)) (c : V) (u : Value) (b : Bool), xs = [.ref a, c] ∧ Own K C ∧ Exc H a C fs ∧ ClsV c u ∧ PySem.W.kitOne K (.ref C) u = some b ∧ Q (.bl b) H
section
variable {X : Cx}
theorem call_isX : CallR X (.builtin "isinstance") (rIsX X.K) := by
  intro pins s σ H xs us Q I r h
  obtain ⟨a, C, fs, c, u, b, rfl, O, x, k, e, q⟩ := h
  obtain ⟨u1, u2, rfl, r1, r2⟩ := r.two
  cases (show u1 = Value.ref a from r1)
  have e2 := k.eq r2
  subst e2
  obtain ⟨ox, od, J⟩ := x.inst I.hok
  exact PySem.W.kia_one (PySem.W.kitx_exc O.cl O.ga O.gg O.exC O.ca O.sp O.tk O.mr) I.kIn J e (fun z => nomatch z) fun tk => ⟨.bl b, H, I.tok tk, rfl, q⟩
/-- isinstance of a plain value or of such an error -/
theorem call_isXi : CallR X (.builtin "isinstance") (fun xs H Q => rIsX X.K xs H Q ∨ rIsi X.K xs H Q) := fun pins s σ H xs us Q I r h => h.elim (call_isX pins s σ H xs us Q I r) (call_isi pins s σ H xs us Q I r)

/-! ### a field of such a value -/
def tFx (K : PySem.W.Frag) (f : Str) (te : TE) : TE := fun σ H Q => te σ H fun x H1 => ∃ (a C : Addr) (fs : List (Str × V)) (v : V), x = .ref a ∧ Own K C ∧ PySem.W.findIn K (.ref C) f = some none ∧ Exc H1 a C fs ∧ fs.lookup f = some v ∧ Q v H1
theorem pe_fx {e : Expr} {te : TE} {pos : Pos} {n : Str} (he : PE X e te) (hb : attributeBase e n X.env (eval e X.env) = eval e X.env := by rfl) :
    PE X (.Attribute e n pos) (tFx X.K n te) := by
  refine ⟨fun pins s σ H Q I h => attr_of hb (thn (he.run pins s σ H _ I h) fun u s1 hh => ?_)⟩
  obtain ⟨x, H1, I1, rx, a, C, fs, v, ex, O, hno, ee, l, q⟩ := hh
  subst ex
  obtain rfl : u = Value.ref a := rx
  cases ee with
  | bare _ => cases l
  | @dict d _ ea ed =>
    obtain ⟨t1, ho⟩ := exo_at I1.hok ea
    obtain ⟨mA, hns, hr⟩ := exd_at I1.hok ed
    obtain ⟨od, hod, hl⟩ := lookIn_ns hns
    obtain ⟨u, hu, ru⟩ := RelO.some_of (v := v) (o := mA n) (by rw [← l]; exact hr n)
    have J : PySem.W.InstAt s1.heap a { cls := .ref C, dict := some d, data := .fields #[.ref t1, .none, .none, .none, .bool false, .none] } C (some od) := ⟨ho, rfl, rfl, hod⟩
    exact HandSPX.exc_get I1.kIn J O.ga O.gg O.exC (PySem.W.findObj_own O.hd hno rfl (by rw [hl, hu])) (handed_of ru) ⟨v, H1, I1.tok _, ru, q⟩

/-! ### self.f = y -/
variable {pins : List (Addr × Obj)} {σ : L2.St} {H : Hp} {s : Shared} {a C dx : Addr} {f : Str} {y : V} {u : Value} {fs : List (Str × V)} {Q : Unit → Shared → Prop} {E : Value → Shared → Prop} {A : Around}
theorem Own.cd {K : PySem.W.Frag} {C : Addr} (O : Own K C) : ∃ T bmT cd, StoreFacts T bmT "object.__setattr__" "object" ∧ PySem.W.excOver K C bmT = true ∧ PySem.W.clsIn K C = some cd ∧ cd.hasDict = true := by
  obtain ⟨B, newId, bmT, Bs, nm, q, N, bs, bm, sn, sub, ab, col, dd, k0, k1, k2, k3, k5, hC, ht⟩ := O.maker
  obtain ⟨T, SF⟩ := Bs.s
  have hcl : PySem.W.clsIn K C = some { name := nm, bases := bs, mro := .ref C :: bm, ns := N, qualname := q, hasDict := true, slotNames := sn, subclasses := sub, abstract := ab, collection := col, hasDel := false } := by unfold PySem.W.clsIn; rw [hC] <;> rfl
  refine ⟨T, bmT, _, SF, ?_, hcl, rfl⟩
  unfold PySem.W.excOver
  rw [hcl]
  show (C == C && PySem.W.excTail bmT bm) = true
  rw [ht, beq_self_eq_true] <;> rfl
/-- two tracked objects changed at once: the error, and the dict that it gets -/
theorem un_dict {h h' : Heap} {t1 : Addr} {o : HO} {fo : Obj} (hok : HOk X.prog X.w H h) (e : H a = some (exo a C none)) (n : h.objs.size ≤ dx) (ne : dx ≠ a) (k : ∀ b o, b ≠ a → h.get? b = some o → h'.get? b = some o) (hx : h'.get? a = some fo) :
    Un X.fs [] H (upd (upd H dx (exd dx fs)) a (exo a C (some dx))) h h' := by
  have hd : H dx = none := hok.fresh n
  have nd : ∀ {b : Addr} {o : Obj}, h.get? b = some o → b ≠ dx := fun {b o} q => Nat.ne_of_lt (Nat.lt_of_lt_of_le (Heap.lt_size q) n)
  have na : ∀ {b : Addr}, H b = none → b ≠ a := fun {b} q z => by rw [z, e] at q; cases q
  have low : ∀ {b : Addr} {v : HO}, H b = some v → b ≠ a → upd (upd H dx (exd dx fs)) a (exo a C (some dx)) b = some v := fun {b v} q z => by rw [upd_ne z, upd_ne (ne_of_none q hd)]; exact q
  refine ⟨fun b o q z _ _ => k b o (na z) q, fun b o q z _ _ => ⟨o.slots, k b o (na z) q⟩, fun b o q z _ => ?_, fun b o q _ => ?_, fun b xs q => low q (at_ne e q exo_tup), fun b o v q => low q (at_ne e q exo_frz), fun b ps q => ⟨#[], ?_⟩⟩
  · rw [upd_ne (na z), upd_ne (nd q)]
    exact z
  · by_cases hb : b = a
    · exact ⟨_, by rw [hb]; exact hx⟩
    · exact ⟨o, k b o hb q⟩
  · rw [low q (at_ne e q exo_tbl)]
    simp
theorem put_first (O : Own X.K C) (I : Inv X pins σ H s) (e : H a = some (exo a C none)) (hno : PySem.W.findIn X.K (.ref C) f = some none) (ry : RelV y u)
    (h : ∀ dx s', H dx = none → dx ≠ a → Inv X pins σ (upd (upd H dx (exd dx [(f, y)])) a (exo a C (some dx))) s' → Q () s') : wpAny (model X.prog X.w) A (setAttr (.ref a) f u) Q E s := by
  obtain ⟨T, bmT, cd, SF, ov, hcl, hh⟩ := O.cd
  obtain ⟨t1, ho⟩ := exo_at I.hok e
  obtain ⟨hp, g, d, t, os⟩ := s
  refine PySem.W.set_plain I.kIn (ox := { cls := .ref C, dict := none, data := .fields #[.ref t1, .none, .none, .none, .bool false, .none] }) (od := none) ⟨ho, rfl, rfl, trivial⟩ O.sa ?_
  refine PySem.EcP.put_new SF I.kIn ho ov hcl hh hno fun h' tk' dx k dn dne hx hn => ?_
  have hnd : H dx = none := I.hok.fresh dn
  refine h dx _ hnd dne (I.un (t' := tk') (un_dict (t1 := t1) (o := exd dx []) I.hok e dn dne k hx) fun b o q => ?_)
  by_cases hb : b = a
  · subst hb
    rw [upd_same] at q
    cases q
    exact exo_ok hx
  by_cases hd : b = dx
  · subst hd
    rw [upd_ne hb, upd_same] at q
    cases q
    exact exd_ok hn (relO_put (fs := []) ry fun g => True.intro)
  rw [upd_ne hb, upd_ne hd] at q
  refine (I.hok b o q).stay (fun c v hc z => k c v ?_ z) (fun c hc => ?_) fun c xs hc => ?_
  · rcases hc with rfl | hc
    · exact hb
    · exact at_ne e hc exo_own
  · rw [upd_ne (at_ne e hc exo_own), upd_ne (ne_of_none hc hnd)]
    exact hc
  · rw [upd_ne (at_ne e hc exo_tup), upd_ne (ne_of_none hc hnd)]
    exact hc
theorem put_more (O : Own X.K C) (I : Inv X pins σ H s) (e : H a = some (exo a C (some dx))) (ed : H dx = some (exd dx fs)) (hl : fs.length ≤ 900) (hno : PySem.W.findIn X.K (.ref C) f = some none) (ry : RelV y u)
    (h : ∀ s', Inv X pins σ (upd H dx (exd dx ((f, y) :: fs))) s' → Q () s') : wpAny (model X.prog X.w) A (setAttr (.ref a) f u) Q E s := by
  obtain ⟨T, bmT, cd, SF, ov, hcl, hh⟩ := O.cd
  obtain ⟨t1, ho⟩ := exo_at I.hok e
  obtain ⟨mA, hns, rel⟩ := exd_at I.hok ed
  have hw := within_of rel
  obtain ⟨hp, g, d, t, os⟩ := s
  obtain ⟨oD, _, _, hoD, _, _⟩ := hns.count hw
  refine PySem.W.set_plain I.kIn (ox := { cls := .ref C, dict := some dx, data := .fields #[.ref t1, .none, .none, .none, .bool false, .none] }) (od := some oD) ⟨ho, rfl, rfl, hoD⟩ O.sa ?_
  refine PySem.EcP.put_old SF I.kIn ho hns hw (by rw [List.length_map]; omega) ov hcl hh hno fun h' tk' k hn => ?_
  have hd : ∃ o, h'.get? dx = some o := by
    obtain ⟨o, _, _, e', _⟩ := hn
    exact ⟨o, e'⟩
  exact h _ (I.write (t' := tk') (x := dx) (e := dx) (o := exd dx ((f, y) :: fs)) (by rw [ed]; exact True.intro) (.inl rfl) k hd (exd_ok hn (relO_put ry rel)))
def tSt (K : PySem.W.Frag) (f : Str) (to te : TE) : TS := fun D σ H => te σ H fun y H1 => to σ H1 fun x H2 => ∃ a C : Addr, x = .ref a ∧ Own K C ∧ PySem.W.findIn K (.ref C) f = some none ∧
  ((H2 a = some (exo a C none) ∧ ∀ dx, H2 dx = none → dx ≠ a → D.nx σ (upd (upd H2 dx (exd dx [(f, y)])) a (exo a C (some dx)))) ∨
    ∃ (dx : Addr) (fs : List (Str × V)), H2 a = some (exo a C (some dx)) ∧ H2 dx = some (exd dx fs) ∧ fs.length ≤ 900 ∧ D.nx σ (upd H2 dx (exd dx ((f, y) :: fs))))
theorem ps_st {o e : Expr} {to te : TE} {f : Str} {p' pos : Pos} (ho : PE X o to) (he : PE X e te) (hs : swapsWith e (some (.Attribute o f p')) pos.line X.env = pure false := by rfl) : PS X (.Assign [.Attribute o f p'] e pos) (tSt X.K f to te) := by
  refine ⟨fun pins s σ H D I h => plainObj_wpAny_Assign_Attribute (thn (he.run pins s σ H _ I h) fun v s1 ⟨y, H1, I1, r1, q1⟩ => thn (ho.run pins s1 σ H1 _ I1 q1) fun u s2 ⟨x, H2, I2, r2, a, C, ex, O, hno, q⟩ => ?_) hs⟩
  subst ex
  obtain rfl : u = Value.ref a := r2
  rcases q with ⟨ea, q⟩ | ⟨dx, fs, ea, ed, hl, q⟩
  · exact put_first O I2 ea hno r1 fun dx s' n ne J => ⟨σ, _, J, q dx n ne⟩
  · exact put_more O I2 ea ed hl hno r1 fun s' J => ⟨σ, _, J, q⟩
end
end Ec

/-! Errors as values: the calls that make them. -/
namespace Ec
open PySem PySem.Spec PyProof.Rows L2
/-- the class at C has an __init__ of its own, at fI -/
structure Init (K : PySem.W.Frag) (C fI : Addr) : Prop where
  own : Own K C
  i : PySem.W.findIn K (.ref C) "__init__" = some (some (.ref fI))
  ty : PySem.W.typeIn K (.ref fI) = some (.type "function")
section
variable {X : Cx} {pins : List (Addr × Obj)} {σ : L2.St} {H : Hp} {s : Shared} {C fI : Addr} {fd : FuncData} {k : Nat} {ps ks : List Str} {sp : Sp} {Q : VK}
theorem make_at {us : List Value} {kw : List (Str × Value)} {args : Addr → List Value} {argV : Addr → List V} (N : Init X.K C fI) (F : FnOk X.prog X.w X.K X.mg X.base CX0 k fI fd ps sp) (hr : Room (k + 1) X.A) (I : Inv X pins σ H s) (hz : us.length ≤ sizeLine)
    (hb : ∀ (s : Shared) (a : Addr), X.K.In s.heap → (args a).length = ps.length → BindsTo s fd ⟨.ref a :: us, kw⟩ (ps.zip (args a))) (hv : ∀ a, Vals (argV a) (args a))
    (q : ∀ a, H a = none → sp (argV a) (upd H a (exo a C none)) (fun v H2 => v = .non ∧ Q (.ref a) H2) E0) : wpAny (model X.prog X.w) X.A (call (.ref C) us kw) (EP X pins σ Q) X.xe s := by
  obtain ⟨B, newId, bmT, Bs, nm, qn, Nn, bs, bm, sn, sub, ab, col, dd, k0, k1, k2, k3, k5, hC, ht⟩ := N.own.maker
  obtain ⟨initId, bmB, FB⟩ := Bs.ex
  obtain ⟨hp, g, dr, tk, os⟩ := s
  have hsz : hp.objs.size ≤ hp.objs.size + 1 := Nat.le_succ _
  have hn : H (hp.objs.size + 1) = none := I.hok.fresh hsz
  have hq := q (hp.objs.size + 1) hn
  have up : ∀ b o, hp.get? b = some o → ((hp.push (PySem.W.kdv_tup us)).push (PySem.HandSPX.excO C hp.objs.size)).get? b = some o := fun b o e => Heap.get?_push_of_some _ (Heap.get?_push_of_some _ e)
  have at1 : ((hp.push (PySem.W.kdv_tup us)).push (PySem.HandSPX.excO C hp.objs.size)).get? (hp.objs.size + 1) = some (PySem.HandSPX.excO C hp.objs.size) := by heap_get
  have I2 : Inv X pins σ (upd H (hp.objs.size + 1) (exo (hp.objs.size + 1) C none)) ⟨(hp.push (PySem.W.kdv_tup us)).push (PySem.HandSPX.excO C hp.objs.size), g, dr, tk, os⟩ := I.laid (t' := tk) (a := hp.objs.size + 1) (o := exo (hp.objs.size + 1) C none) up hsz (exo_ok at1)
  have hl : (args (hp.objs.size + 1)).length = ps.length := by rw [← (hv _).length]; exact F.len _ _ _ _ hq
  refine wpAny_call (PySem.EcP.call_make FB (Bs.t.of ht) (I.kIn _ _ hC) (PySem.W.looks_findIn I.kIn N.i) (fun x => PySem.W.bind_fn I.kIn x N.ty) hz (codeAny_mono (F.run _ X.stack _ _ ⟨Value.ref (hp.objs.size + 1) :: us, kw⟩ (args (hp.objs.size + 1)) _ _ E0 (hr.make C us kw) (I2.env0.make C us kw) (hb _ _ I2.kIn hl) (hv _) hq) fun r s' hq' => ?_))
  cases r with
  | error er => exact pass0 pins σ _ _ er s' I2 hq'
  | ok fl =>
    cases fl with
    | ret u =>
      obtain ⟨v, H2, J, rv, ev, q2⟩ := I2.after hq'
      subst ev
      exact ⟨rv, .ref (hp.objs.size + 1), H2, J, rfl, q2⟩
    | next => exact False.elim hq'
    | brk => exact False.elim hq'
    | cont => exact False.elim hq'
/-- a class without an __init__ of its own -/
structure Plain (K : PySem.W.Frag) (C : Addr) : Prop where
  own : Own K C
  e : PySem.W.excIn K C PySem.EcP.tailV "ValueError.__new__" = true
theorem make_plain {us : List Value} (N : Plain X.K C) (I : Inv X pins σ H s) (hz : us.length ≤ sizeLine) (q : ∀ a, H a = none → Q (.ref a) (upd H a (exo a C none))) : wpAny (model X.prog X.w) X.A (call (.ref C) us) (EP X pins σ Q) X.xe s := by
  obtain ⟨bm, N', nm, qn, bs, hdct, sn, sub, ab, col, dd, k0, k1, k2, k3, k5, mN, hC, hN, hni, T⟩ := exc_obj I.kIn N.e
  obtain ⟨hp, g, dr, tk, os⟩ := s
  refine wpAny_call_exc_subT F.excBase_ValueError T hC hN hni (fun h' a hm => ?_) hz
  have hn : H a = none := I.hok.gone hm.new
  obtain ⟨t, ht, _, _⟩ := hm.there
  exact ⟨.ref a, upd H a (exo a C none), I.laidN hm.keeps hm.new hn (exo_ok ht), rfl, q a hn⟩
end

/-! ### the rules -/
/-- C(e, ..), its own __init__ keeps sp -/
def tMkI (C : Addr) (sp : Sp) (dvs : List V) (t : TA) : TE := fun σ H Q => t σ H fun vs H1 => vs.length ≤ 1000 ∧ ∀ a, H1 a = none → sp (.ref a :: (vs ++ dvs)) (upd H1 a (exo a C none)) (fun v H2 => v = .non ∧ Q (.ref a) H2) E0
/-- C(k = e, ..) -/
def tMkK (C : Addr) (sp : Sp) (gV : List V → List V → List V) (tk : TA) : TE := fun σ H Q => tk σ H fun zs H1 => ∀ a, H1 a = none → sp (gV [.ref a] zs) (upd H1 a (exo a C none)) (fun v H2 => v = .non ∧ Q (.ref a) H2) E0
/-- C(e, ..), without an __init__ of its own -/
def tMkP (C : Addr) (t : TA) : TE := fun σ H Q => t σ H fun vs H1 => vs.length ≤ 1000 ∧ ∀ a, H1 a = none → Q (.ref a) (upd H1 a (exo a C none))
section
variable {X : Cx} {C fI : Addr} {fd : FuncData} {k : Nat} {ps ks : List Str} {sp : Sp} {ds : List Value} {dvs : List V} {x : Str} {p pos : Pos} {e : Expr} {es : List Expr} {kws : List Keyword} {t tk : TA} {g : List Value → List Value → List Value} {gV : List V → List V → List V}
theorem len_line {vs : List V} {us : List Value} (r : Vals vs us) (h : vs.length ≤ 1000) : us.length ≤ sizeLine := by
  rw [← Paired.length r, sizeLine_eq]
  omega
theorem pe_mkI (N : Init X.K C fI) (F : FnOk X.prog X.w X.K X.mg X.base CX0 k fI fd ps sp) (hr : Room (k + 1) X.A) (hb : Binds X.K fd ps ds) (hd : Vals dvs ds) (hm : X.mg x = some (.ref C)) (ha : PA X (e :: es) t) (hg : Gl X x := by rfl)
    (hdb : (x == ("__debug__" : Str)) = false := by decide) (he : starEach (e :: es) X.env = (false, eval e X.env) :: starEach es X.env := by rfl) (hpl : (backTo pos (starEach es X.env)).any (·.1) = false := by rfl) :
    PE X (.Call (.Name x p) (e :: es) [] pos) (tMkI C sp dvs t) := by
  refine ⟨fun pins s σ H Q I h => wpAny_Call_Name_kw (ld_glob I hg hm ?_ hdb)⟩
  refine PySem.W.callWith_K (h₀ := X.base) I.ok.mod.kin N.own.kC (thn (ha.run pos pins s σ H _ I h) fun us s1 ⟨vs, H1, I1, r1, hz, q1⟩ => ⟨I1.kIn, ?_⟩) he hpl
  exact make_at (args := fun a => .ref a :: (us ++ ds)) (argV := fun a => .ref a :: (vs ++ dvs)) N F hr I1 (len_line r1 hz) (fun s a K e => hb s (.ref a :: us) K e) (fun a => .cons rfl (r1.append hd)) q1
theorem pe_mkI0 (N : Init X.K C fI) (F : FnOk X.prog X.w X.K X.mg X.base CX0 k fI fd ps sp) (hr : Room (k + 1) X.A) (hb : Binds X.K fd ps ds) (hd : Vals dvs ds) (hm : X.mg x = some (.ref C)) (hg : Gl X x := by rfl) (hdb : (x == ("__debug__" : Str)) = false := by decide) :
    PE X (.Call (.Name x p) [] [] pos) (tMkI C sp dvs tNil) := by
  refine ⟨fun pins s σ H Q I h => wpAny_Call_Name_kw (ld_glob I hg hm ?_ hdb)⟩
  refine PySem.W.callWith_K0 I.kIn N.own.kC ?_
  obtain ⟨hz, q⟩ := h
  rw [List.nil_append] at q
  refine make_at (us := []) (args := fun a => .ref a :: ds) (argV := fun a => .ref a :: dvs) N F hr I (Nat.zero_le _) (fun s a K e => ?_) (fun a => .cons rfl hd) q
  have z := hb s [.ref a] K
  rw [show [Value.ref a] ++ ds = .ref a :: ds from rfl] at z
  exact z e
theorem pe_mkK (N : Init X.K C fI) (F : FnOk X.prog X.w X.K X.mg X.base CX0 k fI fd ps sp) (hr : Room (k + 1) X.A) (hb : KBinds X.K fd ps ks g gV) (hm : X.mg x = some (.ref C)) (hkw : PK X kws tk) (hg : Gl X x := by rfl)
    (hall : (backToKw pos (keywordEach kws X.env)).all (·.1.isSome) = true := by rfl) (hks : (backToKw pos (keywordEach kws X.env)).filterMap (·.1) = ks := by rfl) (hdb : (x == ("__debug__" : Str)) = false := by decide)
    (hpl : ((backTo pos (starEach [] X.env)).any (·.1) || (backToKw pos (keywordEach kws X.env)).any (·.1.isNone)) = false := by rfl) :
    PE X (.Call (.Name x p) [] kws pos) (tMkK C sp gV tk) := by
  refine ⟨fun pins s σ H Q I h => wpAny_Call_Name_kw (ld_glob I hg hm ?_ hdb)⟩
  refine PySem.W.callWith_KW0 (h₀ := X.base) I.ok.mod.kin N.own.kC hall ?_ hpl
  refine thn (hkw.run pos pins s σ H _ I h) fun ws s2 ⟨zs, H2, I2, rz, q2⟩ => ⟨I2.kIn, ?_⟩
  rw [hks]
  exact make_at (us := []) (kw := ks.zip ws) (args := fun a => g [.ref a] ws) (argV := fun a => gV [.ref a] zs) N F hr I2 (Nat.zero_le _) (fun s a K e => hb.to s [.ref a] ws K e) (fun a => hb.rel (.cons rfl .nil) rz) q2
theorem pe_mkP (N : Plain X.K C) (hm : X.mg x = some (.ref C)) (ha : PA X (e :: es) t) (hg : Gl X x := by rfl) (hdb : (x == ("__debug__" : Str)) = false := by decide)
    (he : starEach (e :: es) X.env = (false, eval e X.env) :: starEach es X.env := by rfl) (hpl : (backTo pos (starEach es X.env)).any (·.1) = false := by rfl) : PE X (.Call (.Name x p) (e :: es) [] pos) (tMkP C t) := by
  refine ⟨fun pins s σ H Q I h => wpAny_Call_Name_kw (ld_glob I hg hm ?_ hdb)⟩
  exact PySem.W.callWith_K (h₀ := X.base) I.ok.mod.kin N.own.kC (thn (ha.run pos pins s σ H _ I h) fun us s1 ⟨vs, H1, I1, r1, hz, q1⟩ => ⟨I1.kIn, make_plain N I1 (len_line r1 hz) q1⟩) he hpl
theorem pe_mkP0 (N : Plain X.K C) (hm : X.mg x = some (.ref C)) (hg : Gl X x := by rfl) (hdb : (x == ("__debug__" : Str)) = false := by decide) : PE X (.Call (.Name x p) [] [] pos) (tMkP C tNil) := by
  refine ⟨fun pins s σ H Q I h => wpAny_Call_Name_kw (ld_glob I hg hm ?_ hdb)⟩
  exact PySem.W.callWith_K0 I.kIn N.own.kC (make_plain (us := []) N I (Nat.zero_le _) h.2)
end
end Ec

/-! Calls by keywords of a def with defaults; what the head tells of a program's classes of errors. -/
namespace Ec
open PySem PySem.Spec PyProof.Rows L2
def grd {α : Type} (n m : Nat) (g : List α → List α → List α) (us ws : List α) : List α := if us.length = n ∧ ws.length = m then g us ws else []
theorem grd_eq {α : Type} {n m : Nat} {g : List α → List α → List α} {us ws : List α} (h : us.length = n) (h' : ws.length = m) : grd n m g us ws = g us ws := if_pos ⟨h, h'⟩
section
variable {K : PySem.W.Frag} {x qual : Str} {params : Arguments} {body : List Stmt} {scope : Scope} {dvs : List V} {kws : List (Str × V)} {f : Addr} {fd : FuncData} {ps ks : List Str}
/-- n values by place, m by keywords, the others from the defaults -/
theorem kb_dfl (G : {α : Type} → List α → List α → List α → List α) (n m : Nat) (F : FunD K x qual params body scope dvs kws f fd) (hd : dvs ≠ []) (hp : 0 < ps.length)
    (hr : ∀ {vs zs ds : List V} {us ws its : List Value}, Vals vs us → Vals zs ws → Vals ds its → Vals (G vs zs ds) (G us ws its))
    (h : ∀ (T : Addr) (kV doc pm : Value) (an : Option Addr) (cdv ct : Value) (us ws its : List Value), us.length = n → ws.length = m → its.length = dvs.length →
      ∃ k, bindArgs (PySem.W.fnOf x qual params body scope (.ref T) kV doc pm an cdv ct) ⟨us, ks.zip ws⟩ = seqItems? (.ref T) >>= k ∧ k (some its.toArray) = pure (ps.zip (G us ws its))) :
    ∃ g, KBinds K fd ps ks g (grd n m fun vs zs => G vs zs dvs) := by
  obtain ⟨oc, od, dV, kV, doc, pm, an, cdv, ct, osl, rfl, lk, hcd, hD, hK⟩ := F.ex
  rcases hD with ⟨e, _⟩ | ⟨_, T, o, its, mm, rfl, lT, oT, rT⟩
  · exact absurd e hd
  refine ⟨grd n m fun us ws => G us ws its, fun s us ws X hlen => ?_, fun {vs us zs ws} r1 r2 => ?_⟩
  · unfold grd at hlen ⊢
    by_cases c : us.length = n ∧ ws.length = m
    · rw [if_pos c] at hlen ⊢
      obtain ⟨k, e1, e2⟩ := h T kV doc pm an cdv ct us ws its c.1 c.2 rT.length.symm
      refine BindsTo.of_looks fun M => ?_
      rw [e1]
      exact looks_items X lT oT (.of_pure e2)
    · rw [if_neg c] at hlen
      have z : (0 : Nat) = ps.length := hlen
      omega
  · unfold grd
    rw [r1.length, r2.length]
    by_cases c : us.length = n ∧ ws.length = m
    · rw [if_pos c, if_pos c]
      exact hr r1 r2 rT
    · rw [if_neg c, if_neg c]
      exact .nil
end

/-! ### a program's classes of errors -/
/-- the classes: name, has it an __init__ of its own, its fields -/
abbrev Cl : Type := Str × Bool × List Str
abbrev cA (K : PySem.W.Frag) (x : Str) : Addr := He.ga K x
abbrev iA (K : PySem.W.Frag) (x : Str) : Addr := He.fAd K (x, some "__init__")
def clB (K : PySem.W.Frag) (c : Cl) : Bool := ownB K (cA K c.1) && ((if c.2.1 = true then decide (PySem.W.findIn K (.ref (cA K c.1)) "__init__" = some (some (.ref (iA K c.1)))) && decide (PySem.W.typeIn K (.ref (iA K c.1)) = some (.type "function")) else PySem.W.excIn K (cA K c.1) PySem.EcP.tailV "ValueError.__new__") &&
  c.2.2.all fun f => decide (PySem.W.findIn K (.ref (cA K c.1)) f = some none))
def kinB (K : PySem.W.Frag) (p : Str × Str × Bool) : Bool := decide (PySem.W.kitOne K (.ref (cA K p.1)) (.ref (cA K p.2.1)) = some p.2.2)
def kitB (K : PySem.W.Frag) (p : Str × String × Bool) : Bool := decide (PySem.W.kitOne K (.ref (cA K p.1)) (.type p.2.1) = some p.2.2)
def exB (cs : List Cl) (ks : List (Str × Str × Bool)) (bs : List (Str × String × Bool)) (K : PySem.W.Frag) : Bool := cs.all (clB K) && (ks.all (kinB K) && bs.all (kitB K))
structure Errs (cs : List Cl) (ks : List (Str × Str × Bool)) (bs : List (Str × String × Bool)) (K : PySem.W.Frag) : Prop where
  cl : ∀ c ∈ cs, clB K c = true
  kin : ∀ p ∈ ks, PySem.W.kitOne K (.ref (cA K p.1)) (.ref (cA K p.2.1)) = some p.2.2
  kit : ∀ p ∈ bs, PySem.W.kitOne K (.ref (cA K p.1)) (.type p.2.1) = some p.2.2
section
variable {cs : List Cl} {ks : List (Str × Str × Bool)} {bs : List (Str × String × Bool)} {K : PySem.W.Frag}
theorem errs_of (h : exB cs ks bs K = true) : Errs cs ks bs K := by
  unfold exB at h
  simp only [Bool.and_eq_true, List.all_eq_true] at h
  exact ⟨h.1, fun p hp => of_decide_eq_true (h.2.1 p hp), fun p hp => of_decide_eq_true (h.2.2 p hp)⟩
theorem Errs.own (E : Errs cs ks bs K) {x : Str} {b : Bool} {fs : List Str} (h : (x, b, fs) ∈ cs) : Own K (cA K x) := by
  have z := E.cl _ h
  unfold clB at z
  exact own_ok (Bool.and_eq_true_iff.mp z).1
theorem Errs.init (E : Errs cs ks bs K) {x : Str} {fs : List Str} (h : (x, true, fs) ∈ cs) : Init K (cA K x) (iA K x) := by
  have z := E.cl _ h
  unfold clB at z
  obtain ⟨z1, z⟩ := Bool.and_eq_true_iff.mp z
  obtain ⟨z2, _⟩ := Bool.and_eq_true_iff.mp z
  rw [if_pos rfl] at z2
  obtain ⟨z3, z4⟩ := Bool.and_eq_true_iff.mp z2
  exact ⟨own_ok z1, of_decide_eq_true z3, of_decide_eq_true z4⟩
theorem Errs.plain (E : Errs cs ks bs K) {x : Str} {fs : List Str} (h : (x, false, fs) ∈ cs) : Plain K (cA K x) := by
  have z := E.cl _ h
  unfold clB at z
  obtain ⟨z1, z⟩ := Bool.and_eq_true_iff.mp z
  obtain ⟨z2, _⟩ := Bool.and_eq_true_iff.mp z
  exact ⟨own_ok z1, z2⟩
theorem Errs.fld (E : Errs cs ks bs K) {x f : Str} {b : Bool} {fs : List Str} (h : (x, b, fs) ∈ cs) (hf : f ∈ fs) : PySem.W.findIn K (.ref (cA K x)) f = some none := by
  have z := E.cl _ h
  unfold clB at z
  obtain ⟨_, z⟩ := Bool.and_eq_true_iff.mp z
  obtain ⟨_, z⟩ := Bool.and_eq_true_iff.mp z
  exact of_decide_eq_true (List.all_eq_true.mp z f hf)
end
end Ec

namespace K80
open PySem PySem.Spec PyProof.Rows L2 Lw Ec
def top (i : Nat) : Stmt := PySem.Challenge.pw_landweave_k80_refusals_made.main.body.getD i (.Pass ⟨0, 0, 0, 0⟩)
def meth (s : Stmt) (i : Nat) : Stmt := match s with
  | .ClassDef _ _ _ b _ _ _ _ _ _ _ => b.getD i (.Pass ⟨0, 0, 0, 0⟩)
  | _ => .Pass ⟨0, 0, 0, 0⟩
def cs : List Cl := [("LandError", false, []), ("NoRules", true, ["path", "why"]), ("NoBox", false, []), ("NoPoint", false, []), ("NoLevel", false, []), ("NoCount", false, []), ("NoEdit", true, ["why"]), ("Full", false, []), ("NoDeed", false, []), ("NoBrush", true, ["path", "why"]), ("NoText", true, ["row", "spot"]), ("NoLine", false, []), ("NoSuch", true, ["number"])]
def nm12 : List Str := ["NoBox", "NoPoint", "NoLevel", "NoCount", "Full", "NoDeed", "NoLine", "NoRules", "NoEdit", "NoBrush", "NoText", "NoSuch", "LandError"]
def kins : List (Str × Str × Bool) := (nm12.flatMap fun x => (nm12.take 12).map fun y => (x, y, decide (x = y))) ++ nm12.map fun x => (x, ("LandError" : Str), !decide (x = ("NoSuch" : Str)))
def kits : List (Str × String × Bool) := (nm12.map fun x => (x, "ValueError", !decide (x = ("NoSuch" : Str)))) ++ nm12.map fun x => (x, "KeyError", decide (x = ("NoSuch" : Str)))
def iStmt (i : Nat) : Stmt := meth (top i) 0
def dd (x q : Str) (i : Nat) (ds : List He.Dv) : He.DefD := ⟨(x, some "__init__"), "__init__", q, defArgs (iStmt i), defBody (iStmt i), defScope (iStmt i), ds, []⟩
def dfl (x : Str) : He.Dv := .adr (He.dflAt (x, some "__init__") 0)
def dn (x : Str) (i : Nat) : He.DefD := ⟨(x, none), x, x, defArgs (top i), defBody (top i), defScope (top i), [], []⟩
def fn : List He.DefD := [dd "NoRules" "NoRules.__init__" 2 [dfl "NoRules", .str ""], dd "NoEdit" "NoEdit.__init__" 7 [.str ""], dd "NoBrush" "NoBrush.__init__" 10 [dfl "NoBrush", .str ""], dd "NoText" "NoText.__init__" 11 [.int 0, .int 0], dd "NoSuch" "NoSuch.__init__" 13 [.int 0],
  dn "_law_mixed" 15, dn "_law_purse" 16, dn "_law_draw" 17, dn "_law_sorts" 18, dn "_law_kinds" 19, dn "_law_row_right" 20, dn "_law_fields" 21, dn "law" 22]
def fa : List He.Fa := (cs.map fun c => He.Fa.glo c.1) ++ ((["_law_mixed", "_law_purse", "_law_draw", "_law_sorts", "_law_kinds", "_law_row_right", "_law_fields", "law"] : List Str).map He.Fa.glo) ++ ((["sum", "max", "range", "isinstance", "ValueError", "KeyError", "enumerate"] : List Str).map He.Fa.free)
def nilB (K : PySem.W.Frag) (a : Addr) : Bool := match K.lookup a with
  | some ⟨.type "tuple", _, .seq its _, _⟩ => its.isEmpty
  | _ => false
def ex (K : PySem.W.Frag) : Bool := exB cs kins kits K && (nilB K (He.dflAt ("NoRules", some "__init__") 0 K) && nilB K (He.dflAt ("NoBrush", some "__init__") 0 K))
def loose : List Str := ["LandError", "NoRules", "NoBox", "NoPoint", "NoLevel", "NoCount", "NoEdit", "Full", "NoDeed", "NoBrush", "NoText", "NoLine", "NoSuch", "_law_mixed", "_law_purse", "_law_draw", "_law_sorts", "_law_kinds", "_law_row_right", "_law_fields"]
abbrev R : PySem.W.OpenRow := PySem.W.OpenLaw.row PySem.Challenge.rw_landweave_k80_refusals_made
abbrev hk : PySem.W.Hook := He.hookX 6 fa fn [] [] ex
def ob (s : PySem.W.SharedT) : He.AlX := He.obsX 6 fa fn [] [] ex (HandSHeadRun.getT s)
theorem ob_eq (s : PySem.W.SharedT) : ob s = hk.obs s.abs := He.obsX_eq (HandSHeadRun.getT_eq s)
theorem run (w : World) : HandSHeadRun.RunEq R (PySem.W.view R.prog [22]) hk ob 30000 loose w := by
  intro os
  kernel_rfl
end K80

namespace K80
open PySem PySem.Spec PyProof.Rows L2 Lw Ec
local macro_rules | `(tactic| walk_at "lw one") => `(tactic| first
  | with_reducible refine' g_seq ?_
  | with_reducible refine' g_asg ?_
  | with_reducible refine' g_name ?_
  | with_reducible refine' g_ret ?_
  | with_reducible refine' g_retN ?_
  | with_reducible refine' g_next ?_
  | with_reducible refine' g_drop ?_
  | with_reducible refine' g_ifS ?_
  | with_reducible refine' g_op ?_
  | with_reducible refine' g_c ?_
  | ((with_reducible refine' g_var ?hv ?_); case hv => exact rfl)
  | with_reducible refine' g_I0 ?_
  | ((with_reducible refine' g_I ?_ ?_); first | (show CMul _ _; first | exact Or.inl ⟨by omega, by omega⟩ | exact Or.inr ⟨by omega, by omega⟩) | (show CDiv _ _; exact ⟨by omega, by omega⟩) | (show CDivW _ _; exact div_ok (by omega) (by omega)) | (show CPowW _ _; exact pow_ok (by decide +kernel)) | (show CPow _ _; exact ⟨by decide, by decide, by decide⟩) | (show (0 : Int) < _; first | omega | decide +kernel) | (show (0 : Int) ≤ _; omega) | assumption)
  | with_reducible refine' g_test ?_
  | with_reducible refine' g_B ?_
  | with_reducible refine' g_and ?_
  | with_reducible refine' g_or ?_
  | with_reducible refine' g_not ?_
  | with_reducible refine' g_andV ?_
  | with_reducible refine' g_orV ?_
  | with_reducible refine' g_notV ?_
  | with_reducible refine' g_if ?_
  | with_reducible refine' g_chain ?_
  | with_reducible refine' g_un ?_
  | with_reducible refine' g_U ?_
  | with_reducible refine' g_nil ?_
  | with_reducible refine' g_cons ?_
  | with_reducible refine' g_tup ?_
  | with_reducible refine' g_lst ?_
  | with_reducible refine' g_CB ?_
  | with_reducible refine' g_call ?_
  | with_reducible refine' g_callK ?_
  | with_reducible refine' g_bits ?_
  | with_reducible refine' g_sub ?_
  | with_reducible refine' g_for ?_
  | with_reducible refine' g_rng1 ?_
  | ((with_reducible refine' g_eq ?_ ?_); exact rfl)
  | ((with_reducible refine' g_ne ?_ ?_); exact rfl)
  | with_reducible refine' g_dget ?_
  | with_reducible refine' g_bm ?_
  | with_reducible refine' g_bm0 ?_
  | with_reducible refine' g_lc ?_
  | with_reducible refine' g_itup ?_
  | with_reducible refine' g_ilist ?_
  | with_reducible refine' g_sl ?_
  | with_reducible refine' g_part ?_
  | with_reducible refine' g_nopart ?_
  | with_reducible refine' g_gcons ?_
  | with_reducible refine' g_gnil ?_
  | with_reducible refine' g_dput ?_
  | with_reducible refine' g_bl ?_
  | ((with_reducible refine' iteSE ?_ ?_); exact rfl)
  | ((with_reducible refine' iteSN ?_ ?_); first | decide +kernel | fail)
  | with_reducible refine' g_int ?_
  | (with_reducible refine' iteNT ?_)
  | (with_reducible refine' iteNF ?_)
  | (with_reducible refine' iteT ?_)
  | (with_reducible refine' iteF ?_))
local macro_rules | `(tactic| walk_at "lw go") => `(tactic| repeat walk_at "lw one")
def Ext (H H' : Hp) : Prop := ∀ b u, H b = some u → H' b = some u
theorem Ext.refl {H : Hp} : Ext H H := fun _ _ h => h
theorem Ext.trans {H H1 H2 : Hp} (a : Ext H H1) (b : Ext H1 H2) : Ext H H2 := fun c u h => b c u (a c u h)
theorem Ext.new {H H' : Hp} {p : Addr} {o : HO} (a : Ext H H') (n : H' p = none) : Ext H (upd H' p o) := fun c u h => by
  rw [upd_ne (ne_of_none (a c u h) n)]
  exact a c u h
/-- an __init__ that stores what it is given, under these names -/
def spIni (K : PySem.W.Frag) (C : Addr) (names : List Str) : Sp := fun vs H Q _ => ∃ (a : Addr) (ys : List V), vs = .ref a :: ys ∧ ys.length = names.length ∧ Own K C ∧ (∀ f ∈ names, PySem.W.findIn K (.ref C) f = some none) ∧ H a = some (exo a C none) ∧
  ∀ H', Exc H' a C (names.zip ys).reverse → (∀ b u, b ≠ a → H b = some u → H' b = some u) → Q .non H'
section
variable {P : Program} {w : World} {K : PySem.W.Frag} {mg : Str → Option Value} {base : Heap} {f : Addr} {fd : FuncData} {C : Addr}
theorem one_put {σ : L2.St} {H : Hp} {a : Addr} {g : Str} {y : V} {D : Ends} (O : Own K C) (hf : PySem.W.findIn K (.ref C) g = some none) (h : H a = some (exo a C none)) {i j : Nat} (hi : σ[i]? = some (some (.ref a))) (hj : σ[j]? = some (some y))
    (q : ∀ H', Exc H' a C [(g, y)] → (∀ b u, b ≠ a → H b = some u → H' b = some u) → (∃ d, a ≠ d ∧ H d = none ∧ H' a = some (exo a C (some d)) ∧ H' d = some (exd d [(g, y)])) → D.nx σ H') : tSt K g (tVar i) (tVar j) D σ H := by
  refine g_var hj (g_var hi ⟨a, C, rfl, O, hf, .inl ⟨h, fun dx n ne => ?_⟩⟩)
  have e1 : upd (upd H dx (exd dx [(g, y)])) a (exo a C (some dx)) dx = some (exd dx [(g, y)]) := by rw [upd_ne ne, upd_same]
  refine q _ (.dict upd_same e1) (fun b u nb hb => ?_) ⟨dx, ne.symm, n, upd_same, e1⟩
  rw [upd_ne nb, upd_ne (ne_of_none hb n)]
  exact hb
theorem two_put {σ : L2.St} {H : Hp} {a d : Addr} {g : Str} {y : V} {fs : List (Str × V)} {D : Ends} (O : Own K C) (hf : PySem.W.findIn K (.ref C) g = some none) (h : H a = some (exo a C (some d))) (hd : H d = some (exd d fs)) (ne : a ≠ d) (hl : fs.length ≤ 900) {i j : Nat} (hi : σ[i]? = some (some (.ref a))) (hj : σ[j]? = some (some y))
    (q : ∀ H', Exc H' a C ((g, y) :: fs) → (∀ b u, b ≠ d → H b = some u → H' b = some u) → D.nx σ H') : tSt K g (tVar i) (tVar j) D σ H := by
  refine g_var hj (g_var hi ⟨a, C, rfl, O, hf, .inr ⟨d, fs, h, hd, hl, ?_⟩⟩)
  exact q _ (.dict (by rw [upd_ne ne]; exact h) upd_same) (fun b u nb hb => by rw [upd_ne nb]; exact hb)
end
section
variable {P : Program} {w : World} {K : PySem.W.Frag} {mg : Str → Option Value} {base : Heap} {f : Addr} {fd : FuncData} {C : Addr} {dvs : List V} {kws : List (Str × V)}
theorem sc_NoRules : FnScope ["self", "path", "why"] ["self", "path", "why"] (defScope (iStmt 2)) := ⟨rfl, rfl, rfl, by decide +kernel, rfl, by decide +kernel, by decide +kernel⟩
theorem ok_NoRules (F : FunD K "__init__" "NoRules.__init__" (defArgs (iStmt 2)) (defBody (iStmt 2)) (defScope (iStmt 2)) dvs kws f fd) : FnOk P w K mg base CX0 1 f fd ["self", "path", "why"] (spIni K C ["path", "why"]) := by
  refine F.ok sc_NoRules (fun vs H Q E h => ?_) (fun cdv A outer s H vs Q E hr h => ⟨_, PSs.nox (pss_cons (ps_st (pv 0) (pv 1)) (pss_one (ps_st (pv 0) (pv 2)))), ?_⟩)
  · obtain ⟨a, ys, rfl, hl, _⟩ := h
    rw [List.length_cons, hl]
    rfl
  · obtain ⟨a, ys, rfl, hl, O, hf, ha, q⟩ := h
    match ys, hl with
    | [y0, y1], _ =>
    walk_at "lw go"
    refine one_put O (hf _ (by simp)) ha rfl rfl fun H1 e1 k1 ⟨d, ne, hd0, h1, h2⟩ => ?_
    walk_at "lw go"
    refine two_put O (hf _ (by simp)) h1 h2 ne (by show 1 ≤ 900; decide) rfl rfl fun H2 e2 k2 => ?_
    walk_at "lw go"
    exact q _ e2 fun b u nb hb => k2 b u (ne_of_none hb hd0) (k1 b u nb hb)
theorem sc_NoEdit : FnScope ["self", "why"] ["self", "why"] (defScope (iStmt 7)) := ⟨rfl, rfl, rfl, by decide +kernel, rfl, by decide +kernel, by decide +kernel⟩
theorem ok_NoEdit (F : FunD K "__init__" "NoEdit.__init__" (defArgs (iStmt 7)) (defBody (iStmt 7)) (defScope (iStmt 7)) dvs kws f fd) : FnOk P w K mg base CX0 1 f fd ["self", "why"] (spIni K C ["why"]) := by
  refine F.ok sc_NoEdit (fun vs H Q E h => ?_) (fun cdv A outer s H vs Q E hr h => ⟨_, PSs.nox (pss_one (ps_st (pv 0) (pv 1))), ?_⟩)
  · obtain ⟨a, ys, rfl, hl, _⟩ := h
    rw [List.length_cons, hl]
    rfl
  · obtain ⟨a, ys, rfl, hl, O, hf, ha, q⟩ := h
    match ys, hl with
    | [y0], _ =>
    walk_at "lw go"
    refine one_put O (hf _ (by simp)) ha rfl rfl fun H1 e1 k1 _ => ?_
    walk_at "lw go"
    exact q _ e1 k1
theorem sc_NoBrush : FnScope ["self", "path", "why"] ["self", "path", "why"] (defScope (iStmt 10)) := ⟨rfl, rfl, rfl, by decide +kernel, rfl, by decide +kernel, by decide +kernel⟩
theorem ok_NoBrush (F : FunD K "__init__" "NoBrush.__init__" (defArgs (iStmt 10)) (defBody (iStmt 10)) (defScope (iStmt 10)) dvs kws f fd) : FnOk P w K mg base CX0 1 f fd ["self", "path", "why"] (spIni K C ["path", "why"]) := by
  refine F.ok sc_NoBrush (fun vs H Q E h => ?_) (fun cdv A outer s H vs Q E hr h => ⟨_, PSs.nox (pss_cons (ps_st (pv 0) (pv 1)) (pss_one (ps_st (pv 0) (pv 2)))), ?_⟩)
  · obtain ⟨a, ys, rfl, hl, _⟩ := h
    rw [List.length_cons, hl]
    rfl
  · obtain ⟨a, ys, rfl, hl, O, hf, ha, q⟩ := h
    match ys, hl with
    | [y0, y1], _ =>
    walk_at "lw go"
    refine one_put O (hf _ (by simp)) ha rfl rfl fun H1 e1 k1 ⟨d, ne, hd0, h1, h2⟩ => ?_
    walk_at "lw go"
    refine two_put O (hf _ (by simp)) h1 h2 ne (by show 1 ≤ 900; decide) rfl rfl fun H2 e2 k2 => ?_
    walk_at "lw go"
    exact q _ e2 fun b u nb hb => k2 b u (ne_of_none hb hd0) (k1 b u nb hb)
theorem sc_NoText : FnScope ["self", "row", "spot"] ["self", "row", "spot"] (defScope (iStmt 11)) := ⟨rfl, rfl, rfl, by decide +kernel, rfl, by decide +kernel, by decide +kernel⟩
theorem ok_NoText (F : FunD K "__init__" "NoText.__init__" (defArgs (iStmt 11)) (defBody (iStmt 11)) (defScope (iStmt 11)) dvs kws f fd) : FnOk P w K mg base CX0 1 f fd ["self", "row", "spot"] (spIni K C ["row", "spot"]) := by
  refine F.ok sc_NoText (fun vs H Q E h => ?_) (fun cdv A outer s H vs Q E hr h => ⟨_, PSs.nox (pss_cons (ps_st (pv 0) (pv 1)) (pss_one (ps_st (pv 0) (pv 2)))), ?_⟩)
  · obtain ⟨a, ys, rfl, hl, _⟩ := h
    rw [List.length_cons, hl]
    rfl
  · obtain ⟨a, ys, rfl, hl, O, hf, ha, q⟩ := h
    match ys, hl with
    | [y0, y1], _ =>
    walk_at "lw go"
    refine one_put O (hf _ (by simp)) ha rfl rfl fun H1 e1 k1 ⟨d, ne, hd0, h1, h2⟩ => ?_
    walk_at "lw go"
    refine two_put O (hf _ (by simp)) h1 h2 ne (by show 1 ≤ 900; decide) rfl rfl fun H2 e2 k2 => ?_
    walk_at "lw go"
    exact q _ e2 fun b u nb hb => k2 b u (ne_of_none hb hd0) (k1 b u nb hb)
theorem sc_NoSuch : FnScope ["self", "number"] ["self", "number"] (defScope (iStmt 13)) := ⟨rfl, rfl, rfl, by decide +kernel, rfl, by decide +kernel, by decide +kernel⟩
theorem ok_NoSuch (F : FunD K "__init__" "NoSuch.__init__" (defArgs (iStmt 13)) (defBody (iStmt 13)) (defScope (iStmt 13)) dvs kws f fd) : FnOk P w K mg base CX0 1 f fd ["self", "number"] (spIni K C ["number"]) := by
  refine F.ok sc_NoSuch (fun vs H Q E h => ?_) (fun cdv A outer s H vs Q E hr h => ⟨_, PSs.nox (pss_one (ps_st (pv 0) (pv 1))), ?_⟩)
  · obtain ⟨a, ys, rfl, hl, _⟩ := h
    rw [List.length_cons, hl]
    rfl
  · obtain ⟨a, ys, rfl, hl, O, hf, ha, q⟩ := h
    match ys, hl with
    | [y0], _ =>
    walk_at "lw go"
    refine one_put O (hf _ (by simp)) ha rfl rfl fun H1 e1 k1 _ => ?_
    walk_at "lw go"
    exact q _ e1 k1
end

/-! ### the classes by name -/
structure Mk (P : Program) (w : World) (K : PySem.W.Frag) (mg : Str → Option Value) (base : Heap) (x : Str) (names : List Str) (dvs : List V) : Prop where
  ex : ∃ (fd : FuncData) (ps : List Str) (ds : List Value), mg x = some (.ref (cA K x)) ∧ Init K (cA K x) (iA K x) ∧ FnOk P w K mg base CX0 1 (iA K x) fd ps (spIni K (cA K x) names) ∧ Binds K fd ps ds ∧ Vals dvs ds
structure Mkk (P : Program) (w : World) (K : PySem.W.Frag) (mg : Str → Option Value) (base : Heap) (x : Str) (ks names : List Str) (gV : List V → List V → List V) : Prop where
  ex : ∃ (fd : FuncData) (ps : List Str) (g : List Value → List Value → List Value), mg x = some (.ref (cA K x)) ∧ Init K (cA K x) (iA K x) ∧ FnOk P w K mg base CX0 1 (iA K x) fd ps (spIni K (cA K x) names) ∧ KBinds K fd ps ks g gV
section
variable {X : Cx} {x : Str} {names ks : List Str} {dvs : List V} {p pos : Pos} {e : Expr} {es : List Expr} {kws : List Keyword} {t tk : TA} {gV : List V → List V → List V}
theorem pe_cls {C : Addr} (hm : X.mg x = some (.ref C)) (hg : Gl X x := by rfl) (hd : (x == ("__debug__" : Str)) = false := by decide) : PE X (.Name x pos) (tC (.ref C)) := pe_glob hg hm rfl hd
theorem pe_mk (M : Mk X.prog X.w X.K X.mg X.base x names dvs) (hr : Room 2 X.A) (ha : PA X (e :: es) t) (hg : Gl X x := by rfl) (hdb : (x == ("__debug__" : Str)) = false := by decide)
    (he : starEach (e :: es) X.env = (false, eval e X.env) :: starEach es X.env := by rfl) (hpl : (backTo pos (starEach es X.env)).any (·.1) = false := by rfl) : PE X (.Call (.Name x p) (e :: es) [] pos) (tMkI (cA X.K x) (spIni X.K (cA X.K x) names) dvs t) := by
  obtain ⟨fd, ps, ds, hm, N, F, hb, hd⟩ := M.ex
  exact pe_mkI N F hr hb hd hm ha hg hdb he hpl
theorem pe_mk0 (M : Mk X.prog X.w X.K X.mg X.base x names dvs) (hr : Room 2 X.A) (hg : Gl X x := by rfl) (hdb : (x == ("__debug__" : Str)) = false := by decide) : PE X (.Call (.Name x p) [] [] pos) (tMkI (cA X.K x) (spIni X.K (cA X.K x) names) dvs tNil) := by
  obtain ⟨fd, ps, ds, hm, N, F, hb, hd⟩ := M.ex
  exact pe_mkI0 N F hr hb hd hm hg hdb
theorem pe_mkk (M : Mkk X.prog X.w X.K X.mg X.base x ks names gV) (hr : Room 2 X.A) (hkw : PK X kws tk) (hg : Gl X x := by rfl)
    (hall : (backToKw pos (keywordEach kws X.env)).all (·.1.isSome) = true := by rfl) (hks : (backToKw pos (keywordEach kws X.env)).filterMap (·.1) = ks := by rfl) (hdb : (x == ("__debug__" : Str)) = false := by decide)
    (hpl : ((backTo pos (starEach [] X.env)).any (·.1) || (backToKw pos (keywordEach kws X.env)).any (·.1.isNone)) = false := by rfl) : PE X (.Call (.Name x p) [] kws pos) (tMkK (cA X.K x) (spIni X.K (cA X.K x) names) gV tk) := by
  obtain ⟨fd, ps, g, hm, N, F, hb⟩ := M.ex
  exact pe_mkK N F hr hb hm hkw hg hall hks hdb hpl
end
section
variable {K : PySem.W.Frag} {C : Addr} {names : List Str} {Q : VK} {σ : L2.St} {H : Hp} {dvs : List V} {t : TA}
theorem ini_mk {ys : List V} {E : XK} {H : Hp} (O : Own K C) (hf : ∀ f ∈ names, PySem.W.findIn K (.ref C) f = some none) (hl : ys.length = names.length) (q : ∀ a H', H a = none → Exc H' a C (names.zip ys).reverse → Ext H H' → Q (.ref a) H') :
    ∀ a, H a = none → spIni K C names (.ref a :: ys) (upd H a (exo a C none)) (fun v H2 => v = .non ∧ Q (.ref a) H2) E := fun a ha => by
  refine ⟨a, ys, rfl, hl, O, hf, upd_same, fun H' e k => ⟨rfl, q a H' ha e fun b u hb => k b u (ne_of_none hb ha) ?_⟩⟩
  rw [upd_ne (ne_of_none hb ha)]
  exact hb
theorem g_mkI {sp : Sp} (q : t σ H fun vs H1 => vs.length ≤ 1000 ∧ ∀ a, H1 a = none → sp (.ref a :: (vs ++ dvs)) (upd H1 a (exo a C none)) (fun v H2 => v = .non ∧ Q (.ref a) H2) E0) : tMkI C sp dvs t σ H Q := q
theorem g_mkK {sp : Sp} {gV : List V → List V → List V} (q : t σ H fun zs H1 => ∀ a, H1 a = none → sp (gV [.ref a] zs) (upd H1 a (exo a C none)) (fun v H2 => v = .non ∧ Q (.ref a) H2) E0) : tMkK C sp gV t σ H Q := q
theorem g_mkP (q : t σ H fun vs H1 => vs.length ≤ 1000 ∧ ∀ a, H1 a = none → Q (.ref a) (upd H1 a (exo a C none))) : tMkP C t σ H Q := q
theorem mkP_go {H : Hp} (q : ∀ a H', H a = none → Exc H' a C [] → Ext H H' → Q (.ref a) H') : ∀ a, H a = none → Q (.ref a) (upd H a (exo a C none)) := fun a ha => q a _ ha (.bare upd_same) (Ext.refl.new ha)
theorem g_fx {f : Str} {te : TE} (q : te σ H fun x H1 => ∃ (a C : Addr) (fs : List (Str × V)) (v : V), x = .ref a ∧ Own K C ∧ PySem.W.findIn K (.ref C) f = some none ∧ Exc H1 a C fs ∧ fs.lookup f = some v ∧ Q v H1) : tFx K f te σ H Q := q
end
structure Gs (P : Program) (w : World) (K : PySem.W.Frag) (mg : Str → Option Value) (base : Heap) : Prop where
  e : Errs cs kins kits K
  g_LandError : mg "LandError" = some (.ref (cA K "LandError"))
  p_LandError : Plain K (cA K "LandError")
  g_NoRules : mg "NoRules" = some (.ref (cA K "NoRules"))
  g_NoBox : mg "NoBox" = some (.ref (cA K "NoBox"))
  p_NoBox : Plain K (cA K "NoBox")
  g_NoPoint : mg "NoPoint" = some (.ref (cA K "NoPoint"))
  p_NoPoint : Plain K (cA K "NoPoint")
  g_NoLevel : mg "NoLevel" = some (.ref (cA K "NoLevel"))
  p_NoLevel : Plain K (cA K "NoLevel")
  g_NoCount : mg "NoCount" = some (.ref (cA K "NoCount"))
  p_NoCount : Plain K (cA K "NoCount")
  g_NoEdit : mg "NoEdit" = some (.ref (cA K "NoEdit"))
  g_Full : mg "Full" = some (.ref (cA K "Full"))
  p_Full : Plain K (cA K "Full")
  g_NoDeed : mg "NoDeed" = some (.ref (cA K "NoDeed"))
  p_NoDeed : Plain K (cA K "NoDeed")
  g_NoBrush : mg "NoBrush" = some (.ref (cA K "NoBrush"))
  g_NoText : mg "NoText" = some (.ref (cA K "NoText"))
  g_NoLine : mg "NoLine" = some (.ref (cA K "NoLine"))
  p_NoLine : Plain K (cA K "NoLine")
  g_NoSuch : mg "NoSuch" = some (.ref (cA K "NoSuch"))
  m_NoRules_0 : Mk P w K mg base "NoRules" ["path", "why"] [.ref (He.dflAt ("NoRules", some "__init__") 0 K), .str ""]
  m_NoRules_1 : Mk P w K mg base "NoRules" ["path", "why"] [.str ""]
  m_NoRules_2 : Mk P w K mg base "NoRules" ["path", "why"] []
  m_NoEdit_0 : Mk P w K mg base "NoEdit" ["why"] [.str ""]
  m_NoEdit_1 : Mk P w K mg base "NoEdit" ["why"] []
  m_NoBrush_0 : Mk P w K mg base "NoBrush" ["path", "why"] [.ref (He.dflAt ("NoBrush", some "__init__") 0 K), .str ""]
  m_NoBrush_2 : Mk P w K mg base "NoBrush" ["path", "why"] []
  m_NoText_0 : Mk P w K mg base "NoText" ["row", "spot"] [.int 0, .int 0]
  m_NoText_1 : Mk P w K mg base "NoText" ["row", "spot"] [.int 0]
  m_NoText_2 : Mk P w K mg base "NoText" ["row", "spot"] []
  m_NoSuch_0 : Mk P w K mg base "NoSuch" ["number"] [.int 0]
  m_NoSuch_1 : Mk P w K mg base "NoSuch" ["number"] []
  k_NoRules_why_path : Mkk P w K mg base "NoRules" ["why", "path"] ["path", "why"] (grd 1 2 fun us ws => us ++ ws.reverse)
  k_NoEdit_why : Mkk P w K mg base "NoEdit" ["why"] ["why"] (grd 1 1 fun us ws => us ++ ws)
  k_NoBrush_why_path : Mkk P w K mg base "NoBrush" ["why", "path"] ["path", "why"] (grd 1 2 fun us ws => us ++ ws.reverse)
  k_NoBrush_why : Mkk P w K mg base "NoBrush" ["why"] ["path", "why"] (grd 1 1 fun us ws => us ++ (([.ref (He.dflAt ("NoBrush", some "__init__") 0 K), .str ""] : List V).take 1 ++ ws))
  k_NoText_spot_row : Mkk P w K mg base "NoText" ["spot", "row"] ["row", "spot"] (grd 1 2 fun us ws => us ++ ws.reverse)
  k_NoSuch_number : Mkk P w K mg base "NoSuch" ["number"] ["number"] (grd 1 1 fun us ws => us ++ ws)
  n1 : ∀ H, SqT K H (He.dflAt ("NoRules", some "__init__") 0 K) []
  n2 : ∀ H, SqT K H (He.dflAt ("NoBrush", some "__init__") 0 K) []
structure Bi (mg : Str → Option Value) : Prop where
  sum : mg "sum" = none
  max : mg "max" = none
  range : mg "range" = none
  isinstance : mg "isinstance" = none
  ValueError : mg "ValueError" = none
  KeyError : mg "KeyError" = none
  enumerate : mg "enumerate" = none
abbrev FnP (K : PySem.W.Frag) (x : Str) (st : Stmt) (f : Addr) (fd : FuncData) : Prop := FunD K x x (defArgs st) (defBody st) (defScope st) [] [] f fd
theorem own_nm {K : PySem.W.Frag} (E : Errs cs kins kits K) {x : Str} (h : x ∈ nm12) : Own K (cA K x) := by
  simp only [nm12, List.mem_cons, List.not_mem_nil, or_false] at h
  rcases h with rfl | rfl | rfl | rfl | rfl | rfl | rfl | rfl | rfl | rfl | rfl | rfl | rfl
  all_goals first
    | exact E.own (b := false) (fs := []) (by decide)
    | exact E.own (b := true) (fs := ["path", "why"]) (by decide)
    | exact E.own (b := true) (fs := ["why"]) (by decide)
    | exact E.own (b := true) (fs := ["row", "spot"]) (by decide)
    | exact E.own (b := true) (fs := ["number"]) (by decide)
section
variable {K : PySem.W.Frag} {Q : VK} {H : Hp} {a : Addr} {x : Str} {fs : List (Str × V)}
theorem is_go {y : Str} (E : Errs cs kins kits K) (hx : x ∈ nm12) (e : Exc H a (cA K x) fs) (q : Q (.bl (decide (x = y))) H) (hy : y ∈ nm12.take 12 := by decide) : rIsX K [.ref a, .ref (cA K y)] H Q ∨ rIsi K [.ref a, .ref (cA K y)] H Q :=
  .inl ⟨a, _, fs, _, _, _, rfl, own_nm E hx, e, .own _, E.kin (x, y, decide (x = y)) (List.mem_append_left _ (List.mem_flatMap.mpr ⟨x, hx, List.mem_map.mpr ⟨y, hy, rfl⟩⟩)), q⟩
theorem is_land (E : Errs cs kins kits K) (hx : x ∈ nm12) (e : Exc H a (cA K x) fs) (q : Q (.bl (!decide (x = ("NoSuch" : Str)))) H) : rIsX K [.ref a, .ref (cA K "LandError")] H Q ∨ rIsi K [.ref a, .ref (cA K "LandError")] H Q :=
  .inl ⟨a, _, fs, _, _, _, rfl, own_nm E hx, e, .own _, E.kin (x, "LandError", !decide (x = ("NoSuch" : Str))) (List.mem_append_right _ (List.mem_map.mpr ⟨x, hx, rfl⟩)), q⟩
theorem is_val (E : Errs cs kins kits K) (hx : x ∈ nm12) (e : Exc H a (cA K x) fs) (q : Q (.bl (!decide (x = ("NoSuch" : Str)))) H) : rIsX K [.ref a, .ty "ValueError"] H Q ∨ rIsi K [.ref a, .ty "ValueError"] H Q :=
  .inl ⟨a, _, fs, _, _, _, rfl, own_nm E hx, e, .ty _, E.kit (x, "ValueError", !decide (x = ("NoSuch" : Str))) (List.mem_append_left _ (List.mem_map.mpr ⟨x, hx, rfl⟩)), q⟩
theorem is_key (E : Errs cs kins kits K) (hx : x ∈ nm12) (e : Exc H a (cA K x) fs) (q : Q (.bl (decide (x = ("NoSuch" : Str)))) H) : rIsX K [.ref a, .ty "KeyError"] H Q ∨ rIsi K [.ref a, .ty "KeyError"] H Q :=
  .inl ⟨a, _, fs, _, _, _, rfl, own_nm E hx, e, .ty _, E.kit (x, "KeyError", decide (x = ("NoSuch" : Str))) (List.mem_append_right _ (List.mem_map.mpr ⟨x, hx, rfl⟩)), q⟩
end
def sortsL (x : Str) : List V := (nm12.take 12).map fun y => V.bl (decide (x = y))
def kindsL (x : Str) : List V := [.bl (!decide (x = ("NoSuch" : Str))), .bl (!decide (x = ("NoSuch" : Str))), .bl (decide (x = ("NoSuch" : Str)))]
def spSorts (K : PySem.W.Frag) : Sp := fun vs H Q _ => ∃ (a : Addr) (x : Str) (fs : List (Str × V)), vs = [.ref a] ∧ x ∈ nm12 ∧ Exc H a (cA K x) fs ∧ ∀ l H', Ext H H' → H' l = some (.lst (sortsL x)) → Q (.ref l) H'
def spKinds (K : PySem.W.Frag) : Sp := fun vs H Q _ => ∃ (a : Addr) (x : Str) (fs : List (Str × V)), vs = [.ref a] ∧ x ∈ nm12 ∧ Exc H a (cA K x) fs ∧ ∀ l H', Ext H H' → H' l = some (.lst (kindsL x)) → Q (.ref l) H'
section
variable {P : Program} {w : World} {K : PySem.W.Frag} {mg : Str → Option Value} {base : Heap} {f : Addr} {fd : FuncData}
abbrev N_law_sorts : List Str := ["_law_it", "_law_found"]
abbrev s_law_sorts : Stmt := top 18
theorem sc_law_sorts : FnScope N_law_sorts ["_law_it"] (defScope s_law_sorts) := ⟨rfl, rfl, rfl, by decide +kernel, rfl, by decide +kernel, by decide +kernel⟩
theorem ok_law_sorts (F : FnP K "_law_sorts" s_law_sorts f fd) (T : Bi mg) (G : Gs P w K mg base) : FnOk P w K mg base CX0 1 f fd ["_law_it"] (spSorts K) := by
  refine F.ok sc_law_sorts (fun vs H Q E h => ?_) (fun cdv A outer s H vs Q E hr h => ⟨_, PSs.nox
(pss_cons (ps_set (i := 1) sc_law_sorts.nd rfl (Or.inl rfl) (pe_lst (pa_cons (pe_callB call_isXi (by rfl) T.isinstance (by decide +kernel) (pa_cons (pv 0) (pa_cons (pe_cls G.g_NoBox) pa_nil))) (pa_cons (pe_callB call_isXi (by rfl) T.isinstance (by decide +kernel) (pa_cons (pv 0) (pa_cons (pe_cls G.g_NoPoint) pa_nil))) (pa_cons (pe_callB call_isXi (by rfl) T.isinstance (by decide +kernel) (pa_cons (pv 0) (pa_cons (pe_cls G.g_NoLevel) pa_nil))) (pa_cons (pe_callB call_isXi (by rfl) T.isinstance (by decide +kernel) (pa_cons (pv 0) (pa_cons (pe_cls G.g_NoCount) pa_nil))) pa_nil))))))
  (pss_cons (ps_set (i := 1) sc_law_sorts.nd rfl (Or.inl rfl) (pe_op op_cat (pv 1) (pe_lst (pa_cons (pe_callB call_isXi (by rfl) T.isinstance (by decide +kernel) (pa_cons (pv 0) (pa_cons (pe_cls G.g_Full) pa_nil))) (pa_cons (pe_callB call_isXi (by rfl) T.isinstance (by decide +kernel) (pa_cons (pv 0) (pa_cons (pe_cls G.g_NoDeed) pa_nil))) (pa_cons (pe_callB call_isXi (by rfl) T.isinstance (by decide +kernel) (pa_cons (pv 0) (pa_cons (pe_cls G.g_NoLine) pa_nil))) (pa_cons (pe_callB call_isXi (by rfl) T.isinstance (by decide +kernel) (pa_cons (pv 0) (pa_cons (pe_cls G.g_NoRules) pa_nil))) pa_nil)))))))
  (pss_one (ps_ret (pe_op op_cat (pv 1) (pe_lst (pa_cons (pe_callB call_isXi (by rfl) T.isinstance (by decide +kernel) (pa_cons (pv 0) (pa_cons (pe_cls G.g_NoEdit) pa_nil))) (pa_cons (pe_callB call_isXi (by rfl) T.isinstance (by decide +kernel) (pa_cons (pv 0) (pa_cons (pe_cls G.g_NoBrush) pa_nil))) (pa_cons (pe_callB call_isXi (by rfl) T.isinstance (by decide +kernel) (pa_cons (pv 0) (pa_cons (pe_cls G.g_NoText) pa_nil))) (pa_cons (pe_callB call_isXi (by rfl) T.isinstance (by decide +kernel) (pa_cons (pv 0) (pa_cons (pe_cls G.g_NoSuch) pa_nil))) pa_nil)))))))))), ?_⟩)
  · obtain ⟨_, _, _, rfl, _⟩ := h
    rfl
  · obtain ⟨a, x, fs, rfl, hx, e, q⟩ := h
    walk_at "lw go"
    refine is_go G.e hx e ?_
    walk_at "lw go"
    refine is_go G.e hx e ?_
    walk_at "lw go"
    refine is_go G.e hx e ?_
    walk_at "lw go"
    refine is_go G.e hx e ?_
    walk_at "lw go"
    refine ⟨by show 4 ≤ sizeLine; decide, fun l1 h1 => ?_⟩
    walk_at "lw go"
    refine is_go G.e hx (e.keep (Ext.refl.new h1)) ?_
    walk_at "lw go"
    refine is_go G.e hx (e.keep (Ext.refl.new h1)) ?_
    walk_at "lw go"
    refine is_go G.e hx (e.keep (Ext.refl.new h1)) ?_
    walk_at "lw go"
    refine is_go G.e hx (e.keep (Ext.refl.new h1)) ?_
    walk_at "lw go"
    refine ⟨by show 4 ≤ sizeLine; decide, fun l2 h2 => g_cat (by rw [upd_ne (ne_of_none upd_same h2), upd_same]) upd_same (by show 8 ≤ sizeLine; decide) fun l3 h3 => ?_⟩
    walk_at "lw go"
    refine is_go G.e hx (e.keep (((Ext.refl.new h1).new h2).new h3)) ?_
    walk_at "lw go"
    refine is_go G.e hx (e.keep (((Ext.refl.new h1).new h2).new h3)) ?_
    walk_at "lw go"
    refine is_go G.e hx (e.keep (((Ext.refl.new h1).new h2).new h3)) ?_
    walk_at "lw go"
    refine is_go G.e hx (e.keep (((Ext.refl.new h1).new h2).new h3)) ?_
    walk_at "lw go"
    refine ⟨by show 4 ≤ sizeLine; decide, fun l4 h4 => g_cat (by rw [upd_ne (ne_of_none upd_same h4), upd_same]) upd_same (by show 12 ≤ sizeLine; decide) fun l5 h5 => ?_⟩
    exact q l5 _ (((((Ext.refl.new h1).new h2).new h3).new h4).new h5) (by rw [upd_same]; rfl)
abbrev N_law_kinds : List Str := ["_law_it"]
abbrev s_law_kinds : Stmt := top 19
theorem sc_law_kinds : FnScope N_law_kinds ["_law_it"] (defScope s_law_kinds) := ⟨rfl, rfl, rfl, by decide +kernel, rfl, by decide +kernel, by decide +kernel⟩
theorem ok_law_kinds (F : FnP K "_law_kinds" s_law_kinds f fd) (T : Bi mg) (G : Gs P w K mg base) : FnOk P w K mg base CX0 1 f fd ["_law_it"] (spKinds K) := by
  refine F.ok sc_law_kinds (fun vs H Q E h => ?_) (fun cdv A outer s H vs Q E hr h => ⟨_, PSs.nox
(pss_one (ps_ret (pe_lst (pa_cons (pe_callB call_isXi (by rfl) T.isinstance (by decide +kernel) (pa_cons (pv 0) (pa_cons (pe_cls G.g_LandError) pa_nil))) (pa_cons (pe_callB call_isXi (by rfl) T.isinstance (by decide +kernel) (pa_cons (pv 0) (pa_cons (pe_bltn (v := .ty "ValueError") (by rfl) T.ValueError PyProof.Rows.Boot.«ValueError» rfl) pa_nil))) (pa_cons (pe_callB call_isXi (by rfl) T.isinstance (by decide +kernel) (pa_cons (pv 0) (pa_cons (pe_bltn (v := .ty "KeyError") (by rfl) T.KeyError PyProof.Rows.Boot.«KeyError» rfl) pa_nil))) pa_nil)))))), ?_⟩)
  · obtain ⟨_, _, _, rfl, _⟩ := h
    rfl
  · obtain ⟨a, x, fs, rfl, hx, e, q⟩ := h
    walk_at "lw go"
    refine is_land G.e hx e ?_
    walk_at "lw go"
    refine is_val G.e hx e ?_
    walk_at "lw go"
    refine is_key G.e hx e ?_
    walk_at "lw go"
    exact ⟨by show 3 ≤ sizeLine; decide, fun l hl => q l _ (Ext.refl.new hl) upd_same⟩
end

def nm (i : Nat) : Str := nm12.getD i ""
theorem twelve {i : Nat} (h : i < 12) : i = 0 ∨ i = 1 ∨ i = 2 ∨ i = 3 ∨ i = 4 ∨ i = 5 ∨ i = 6 ∨ i = 7 ∨ i = 8 ∨ i = 9 ∨ i = 10 ∨ i = 11 := by omega
theorem nm_in {i : Nat} (h : i < 12) : nm i ∈ nm12 := by
  rcases twelve h with rfl | rfl | rfl | rfl | rfl | rfl | rfl | rfl | rfl | rfl | rfl | rfl <;> decide
def rowB (i : Nat) : List Bool := (List.range 12).map fun j => decide (((0 : Int) + (j : Nat)) = (i : Nat))
def kindB (i : Nat) : List Bool := [decide (((i : Nat) : Int) < 11), decide (((i : Nat) : Int) < 11), decide (((i : Nat) : Int) = 11)]
def datB (bs : List Bool) : PyData := .list (bs.map .bool)
theorem sorts_row {i : Nat} (h : i < 12) : sortsL (nm i) = (rowB i).map V.bl := by
  rcases twelve h with rfl | rfl | rfl | rfl | rfl | rfl | rfl | rfl | rfl | rfl | rfl | rfl <;> rfl
theorem kinds_row {i : Nat} (h : i < 12) : kindsL (nm i) = (kindB i).map V.bl := by
  rcases twelve h with rfl | rfl | rfl | rfl | rfl | rfl | rfl | rfl | rfl | rfl | rfl | rfl <;> rfl
theorem shaped_row {i : Nat} (h : i < 12) : SeqAt.shaped (datB (rowB i)) = true ∧ SeqAt.shaped (datB (kindB i)) = true := by
  rcases twelve h with rfl | rfl | rfl | rfl | rfl | rfl | rfl | rfl | rfl | rfl | rfl | rfl <;> exact ⟨by decide +kernel, by decide +kernel⟩
theorem Ext.put {H H' : Hp} {p : Addr} {o : HO} (a : Ext H H') (n : H p = none) : Ext H (upd H' p o) := fun c u h => by
  rw [upd_ne (ne_of_none h n)]
  exact a c u h
section
variable {K : PySem.W.Frag} {H : Hp} {Q : VK} {x y : V} {d : PyData} {l : Addr}
theorem dp_bools : ∀ bs : List Bool, DpAll K H (bs.map V.bl) (bs.map .bool)
  | [] => .nil
  | b :: bs => .cons (.bl b) (dp_bools bs)
theorem dp_row {bs : List Bool} (h : H l = some (.lst (bs.map V.bl))) : Dp K H (.ref l) (datB bs) := .lst (SqL.of h) (dp_bools bs)
theorem ne_same (hd : SeqAt.shaped d = true) (h1 : Dp K H x d) (h2 : Dp K H y d) (q : Q (.bl false) H) : rNeD K x y H Q := ⟨d, d, h1, h2, hd, hd, by
  rw [PySem.SeqAt.eqv_refl d (SeqAt.canLay_of_shaped hd)]
  exact q⟩
theorem eq_same (hd : SeqAt.shaped d = true) (h1 : Dp K H x d) (h2 : Dp K H y d) (q : Q (.bl true) H) : rEqD K x y H Q := ⟨d, d, h1, h2, hd, hd, by
  rw [PySem.SeqAt.eqv_refl d (SeqAt.canLay_of_shaped hd)]
  exact q⟩
end
theorem g_enum {K : PySem.W.Frag} {ta : TA} {σ : L2.St} {H : Hp} {R : It → Hp → Prop} (q : ta σ H fun vs H1 => ∃ a xs, vs = [.ref a] ∧ SqL K H1 a xs ∧ R (Ite K a) H1) : iEnum K ta σ H R := q
theorem g_yes {σ : L2.St} {H : Hp} {Q : Bool → Hp → Prop} (q : Q true H) : tYes σ H Q := q
theorem dec_int (a b : Int) : decide (V.int a = V.int b) = decide (a = b) := by simp
def rowL (as : Nat → Addr) : List V := (List.range 12).map fun i => V.ref (as i)
def spRow (K : PySem.W.Frag) : Sp := fun vs H Q _ => ∃ (l : Addr) (as : Nat → Addr), vs = [.ref l] ∧ H l = some (.lst (rowL as)) ∧ (∀ i, i < 12 → ∃ fs, Exc H (as i) (cA K (nm i)) fs) ∧ ∀ H', Ext H H' → Q (.bl true) H'
def spFields (K : PySem.W.Frag) : Sp := fun vs H Q _ => ∃ (l : Addr) (as : Nat → Addr) (f7 f8 f9 f10 f11 : List (Str × V)) (v0 v1 v2 v3 v4 v5 v6 v7 : V), vs = [.ref l] ∧ H l = some (.lst (rowL as)) ∧
  (Exc H (as 7) (cA K "NoRules") f7 ∧ f7.lookup ("path" : Str) = some v0 ∧ f7.lookup ("why" : Str) = some v1) ∧ (Exc H (as 8) (cA K "NoEdit") f8 ∧ f8.lookup ("why" : Str) = some v2) ∧ (Exc H (as 9) (cA K "NoBrush") f9 ∧ f9.lookup ("path" : Str) = some v3 ∧ f9.lookup ("why" : Str) = some v4) ∧
  (Exc H (as 10) (cA K "NoText") f10 ∧ f10.lookup ("row" : Str) = some v5 ∧ f10.lookup ("spot" : Str) = some v6) ∧ (Exc H (as 11) (cA K "NoSuch") f11 ∧ f11.lookup ("number" : Str) = some v7) ∧ ∀ m H', Ext H H' → H' m = some (.lst [v0, v1, v2, v3, v4, v5, v6, v7]) → Q (.ref m) H'
section
variable {P : Program} {w : World} {K : PySem.W.Frag} {mg : Str → Option Value} {base : Heap} {f : Addr} {fd : FuncData}
abbrev N_law_row_right : List Str := ["_law_some", "_law_k", "_law_it", "_law_j"]
abbrev s_law_row_right : Stmt := top 20
theorem sc_law_row_right : FnScope N_law_row_right ["_law_some"] (defScope s_law_row_right) := ⟨rfl, rfl, rfl, by decide +kernel, rfl, by decide +kernel, by decide +kernel⟩
theorem ok_law_row_right (F : FnP K "_law_row_right" s_law_row_right f fd) (T : Bi mg) (D_law_sorts : Df P w K mg base "_law_sorts" ["_law_it"] 1 (spSorts K)) (D_law_kinds : Df P w K mg base "_law_kinds" ["_law_it"] 1 (spKinds K)) : FnOk P w K mg base CX0 2 f fd ["_law_some"] (spRow K) := by
  refine F.ok sc_law_row_right (fun vs H Q E h => ?_) (fun cdv A outer s H vs Q E hr h => ⟨_, PSs.nox
(pss_cons (ps_for PassesOwn.never rfl (pi_enum (by rfl) T.enumerate (pa_cons (pv 0) pa_nil)) (pg_tup (by rfl) (pgs_cons (pg_name (i := 1) sc_law_row_right.nd rfl (Or.inr rfl)) (pgs_cons (pg_name (i := 2) sc_law_row_right.nd rfl (Or.inl rfl)) pgs_nil)))
  (pss_one (ps_if (PW.pt (pw_or (pt_cmpR (op_neD hr.units) (pe_df D_law_sorts (hr.mono (by first | decide | omega)) (pa_cons (pv 2) pa_nil)) (pe_lc (own := [("_law_j", 3)]) (g := gName 3) (tt := tYes) rfl sc_law_row_right.nd (pi_range1 (by rfl) T.range (pa_cons pe_int pa_nil)) (blkOk_by (N := N_law_row_right) (sc := defScope s_law_row_right) (by decide +kernel)) (fun _ _ _ _ _ => pg_name (i := 3) sc_law_row_right.nd rfl (Or.inl rfl)) (fun _ _ _ _ _ => pts_nil) (fun _ _ _ _ _ => (pe_cmpR op_eq (pv 3) (pv 1) (nomark _)))) (nomark _)) (pw_or1 (pt_cmpR (op_neD hr.units) (pe_df D_law_kinds (hr.mono (by first | decide | omega)) (pa_cons (pv 2) pa_nil)) (pe_lst (pa_cons (pe_cmpR op_lt (pv 1) pe_int (nomark _)) (pa_cons (pe_cmpR op_lt (pv 1) pe_int (nomark _)) (pa_cons (pe_cmpR op_eq (pv 1) pe_int (nomark _)) pa_nil)))) (nomark _)))))
  (pss_one (ps_ret pe_bl))
  pss_nil)))
  (pss_one (ps_ret pe_bl))), ?_⟩)
  · obtain ⟨_, _, rfl, _⟩ := h
    rfl
  · obtain ⟨l, as, rfl, hl, he, q⟩ := h
    walk_at "lw go"
    refine g_enum ?_
    walk_at "lw go"
    refine ⟨l, rowL as, rfl, SqL.of hl, for_it walk_enum (fun i σ H' => Ext H H' ∧ ∃ v1 v2, σ = [some (.ref l), v1, v2, none]) ⟨Ext.refl, none, none, rfl⟩ (fun i σ H' _ z => SqL.of (z.1 _ _ hl)) ?_ ?_⟩
    · rintro i x σ H1 H2 hi ⟨k1, v1, v2, rfl⟩ ⟨T0, a, b, rfl, hT, rfl, ea, eb⟩
      cases ea
      have hi2 : i < 12 := hi
      obtain rfl : b = .ref (as i) := by
        have eb2 : (rowL as)[i]? = some b := eb
        rw [rowL, List.getElem?_map, List.getElem?_range hi2] at eb2
        exact (Option.some.inj eb2).symm
      refine g_tupT (SqT.of upd_same) rfl ?_
      walk_at "lw go"
      obtain ⟨fs, e⟩ := he i hi2
      refine ⟨as i, nm i, fs, rfl, nm_in hi2, e.keep (k1.new hT), fun l1 H3 k3 h3 => ?_⟩
      walk_at "lw go"
      refine ⟨12, rfl, by decide, by decide, fun D hD => lc_range (fun j H4 => Ext H3 H4 ∧ H4 D = some (.lst (((List.range j).map fun j => decide (((0 : Int) + (j : Nat)) = (i : Nat))).map V.bl))) ⟨Ext.refl.new hD, upd_same⟩ ?_ ?_⟩
      · rintro j H4 hj ⟨k4, h4⟩
        walk_at "lw go"
        refine ⟨rfl, ?_⟩
        refine g_yes ?_
        walk_at "lw go"
        refine ⟨_, h4, by rw [List.length_map, List.length_map, List.length_range, sizeLine_eq]; omega, k4.put hD, ?_⟩
        rw [upd_same, List.range_succ, List.map_append, List.map_append, dec_int]
        rfl
      · rintro H4 ⟨k4, h4⟩
        walk_at "lw go"
        rw [sorts_row hi2] at h3
        refine ne_same (shaped_row hi2).1 (dp_row (k4 _ _ h3)) (dp_row h4) ?_
        walk_at "lw go"
        refine ⟨as i, nm i, fs, rfl, nm_in hi2, e.keep ((k1.new hT).trans (k3.trans k4)), fun l2 H5 k5 h5 => ?_⟩
        walk_at "lw go"
        refine ⟨by show 3 ≤ sizeLine; decide, fun l3 hl3 => ?_⟩
        rw [kinds_row hi2] at h5
        refine ne_same (shaped_row hi2).2 (dp_row ((Ext.refl.new hl3) _ _ h5)) (dp_row (by rw [upd_same, dec_int]; rfl)) ?_
        walk_at "lw go"
        exact ⟨((k1.new hT).trans (k3.trans (k4.trans k5))).new hl3, _, _, rfl⟩
    · rintro σ H1 ⟨k1, v1, v2, rfl⟩
      walk_at "lw go"
      exact q _ k1

theorem fx_go {σ : L2.St} {H : Hp} {Q : VK} {m : Nat} {l : Addr} {as : Nat → Addr} {i : Int} {a : Addr} {f x : Str} {fs : List (Str × V)} {v : V} (hσ : σ[m]? = some (some (.ref l))) (hl : H l = some (.lst (rowL as))) (e : Exc H a (cA K x) fs) (lk : fs.lookup f = some v) (O : Own K (cA K x))
    (hf : PySem.W.findIn K (.ref (cA K x)) f = some none) (q : Q v H) (ha : atI (rowL as) i = some (.ref a) := by rfl) : tFx K f (tOp (rIxL K) (tVar m) (tC (.int i))) σ H Q := g_fx (g_op (g_var hσ (g_c (g_ixL (SqL.of hl) ha ⟨a, _, fs, v, rfl, O, hf, e, lk, q⟩))))
abbrev N_law_fields : List Str := ["_law_some", "_law_found"]
abbrev s_law_fields : Stmt := top 21
theorem sc_law_fields : FnScope N_law_fields ["_law_some"] (defScope s_law_fields) := ⟨rfl, rfl, rfl, by decide +kernel, rfl, by decide +kernel, by decide +kernel⟩
theorem ok_law_fields (F : FnP K "_law_fields" s_law_fields f fd) (T : Bi mg) (G : Gs P w K mg base) : FnOk P w K mg base CX0 1 f fd ["_law_some"] (spFields K) := by
  refine F.ok sc_law_fields (fun vs H Q E h => ?_) (fun cdv A outer s H vs Q E hr h => ⟨_, PSs.nox
(pss_cons (ps_set (i := 1) sc_law_fields.nd rfl (Or.inl rfl) (pe_lst (pa_cons (pe_fx (pe_ix ix_list (pv 0) pe_int (fun _ _ => rfl))) (pa_cons (pe_fx (pe_ix ix_list (pv 0) pe_int (fun _ _ => rfl))) (pa_cons (pe_fx (pe_ix ix_list (pv 0) pe_int (fun _ _ => rfl))) (pa_cons (pe_fx (pe_ix ix_list (pv 0) pe_int (fun _ _ => rfl))) (pa_cons (pe_fx (pe_ix ix_list (pv 0) pe_int (fun _ _ => rfl))) pa_nil)))))))
  (pss_one (ps_ret (pe_op op_cat (pv 1) (pe_lst (pa_cons (pe_fx (pe_ix ix_list (pv 0) pe_int (fun _ _ => rfl))) (pa_cons (pe_fx (pe_ix ix_list (pv 0) pe_int (fun _ _ => rfl))) (pa_cons (pe_fx (pe_ix ix_list (pv 0) pe_int (fun _ _ => rfl))) pa_nil)))))))), ?_⟩)
  · obtain ⟨_, _, _, _, _, _, _, _, _, _, _, _, _, _, _, rfl, _⟩ := h
    rfl
  · obtain ⟨l, as, f7, f8, f9, f10, f11, v0, v1, v2, v3, v4, v5, v6, v7, rfl, hl, ⟨e7, a0, a1⟩, ⟨e8, a2⟩, ⟨e9, a3, a4⟩, ⟨e10, a5, a6⟩, ⟨e11, a7⟩, q⟩ := h
    walk_at "lw go"
    refine fx_go rfl hl e7 a0 (own_nm G.e (x := "NoRules") (by decide)) (G.e.fld (x := "NoRules") (f := "path") (b := true) (fs := ["path", "why"]) (by decide) (by decide)) ?_
    walk_at "lw go"
    refine fx_go rfl hl e7 a1 (own_nm G.e (x := "NoRules") (by decide)) (G.e.fld (x := "NoRules") (f := "why") (b := true) (fs := ["path", "why"]) (by decide) (by decide)) ?_
    walk_at "lw go"
    refine fx_go rfl hl e8 a2 (own_nm G.e (x := "NoEdit") (by decide)) (G.e.fld (x := "NoEdit") (f := "why") (b := true) (fs := ["why"]) (by decide) (by decide)) ?_
    walk_at "lw go"
    refine fx_go rfl hl e9 a3 (own_nm G.e (x := "NoBrush") (by decide)) (G.e.fld (x := "NoBrush") (f := "path") (b := true) (fs := ["path", "why"]) (by decide) (by decide)) ?_
    walk_at "lw go"
    refine fx_go rfl hl e9 a4 (own_nm G.e (x := "NoBrush") (by decide)) (G.e.fld (x := "NoBrush") (f := "why") (b := true) (fs := ["path", "why"]) (by decide) (by decide)) ?_
    walk_at "lw go"
    refine ⟨by show 5 ≤ sizeLine; decide, fun l1 h1 => ?_⟩
    walk_at "lw go"
    refine fx_go rfl ((Ext.refl.new h1) _ _ hl) (e10.keep (Ext.refl.new h1)) a5 (own_nm G.e (x := "NoText") (by decide)) (G.e.fld (x := "NoText") (f := "row") (b := true) (fs := ["row", "spot"]) (by decide) (by decide)) ?_
    walk_at "lw go"
    refine fx_go rfl ((Ext.refl.new h1) _ _ hl) (e10.keep (Ext.refl.new h1)) a6 (own_nm G.e (x := "NoText") (by decide)) (G.e.fld (x := "NoText") (f := "spot") (b := true) (fs := ["row", "spot"]) (by decide) (by decide)) ?_
    walk_at "lw go"
    refine fx_go rfl ((Ext.refl.new h1) _ _ hl) (e11.keep (Ext.refl.new h1)) a7 (own_nm G.e (x := "NoSuch") (by decide)) (G.e.fld (x := "NoSuch") (f := "number") (b := true) (fs := ["number"]) (by decide) (by decide)) ?_
    walk_at "lw go"
    refine ⟨by show 3 ≤ sizeLine; decide, fun l2 h2 => g_cat (by rw [upd_ne (ne_of_none upd_same h2), upd_same]) upd_same (by show 8 ≤ sizeLine; decide) fun l3 h3 => ?_⟩
    exact q l3 _ (((Ext.refl.new h1).new h2).new h3) (by rw [upd_same]; rfl)
end

def spMixed : Sp := fun vs H Q _ => ∃ (a k : Int), vs = [.int a, .int k] ∧ 0 ≤ k ∧ k < 2 ^ 64 ∧ ∀ n : Int, Q (.int n) H
/-- a purse: two numbers and a count of at most m -/
structure Purse (m : Int) (o : HO) : Prop where
  ex : ∃ a b c : Int, o = .lst [.int a, .int b, .int c] ∧ 0 ≤ c ∧ c ≤ m
def spPurse (K : PySem.W.Frag) : Sp := fun vs H Q _ => ∃ (a : Addr) (ns : List Int), vs = [.ref a, .int 0] ∧ SqL K H a (ns.map V.int) ∧ ∀ p o H', Ext H H' → H' p = some o → Purse 64000 o → Q (.ref p) H'
def spDraw : Sp := fun vs H Q _ => ∃ (p : Addr) (n m : Int) (o : HO), vs = [.ref p, .int n] ∧ H p = some o ∧ Purse m o ∧ m ≤ 1000000000000000 ∧ 0 < n ∧ n ≤ 1000000000000000000000000000000 ∧
  ∀ (d : Int) (o' : HO), 0 ≤ d → d < n → Purse (m + 4) o' → Q (.int d) (upd H p o')
theorem cut_ints (ns : List Int) (lo hi : Option Int) : ∃ ms : List Int, cutV (ns.map V.int) lo hi = ms.map V.int ∧ ms.length ≤ ns.length := by
  refine ⟨((ns.drop (HT.sIx ns.length 0 lo)).take (HT.sIx ns.length ns.length hi - HT.sIx ns.length 0 lo)), ?_, ?_⟩
  · unfold cutV
    rw [List.length_map, List.map_take, List.map_drop]
  · rw [List.length_take, List.length_drop]
    omega
section
variable {P : Program} {w : World} {K : PySem.W.Frag} {mg : Str → Option Value} {base : Heap} {f : Addr} {fd : FuncData}
abbrev N_law_mixed : List Str := ["_law_cell", "_law_k", "_law_figure"]
abbrev s_law_mixed : Stmt := top 15
theorem sc_law_mixed : FnScope N_law_mixed ["_law_cell", "_law_k"] (defScope s_law_mixed) := ⟨rfl, rfl, rfl, by decide +kernel, rfl, by decide +kernel, by decide +kernel⟩
theorem ok_law_mixed (F : FnP K "_law_mixed" s_law_mixed f fd) (T : Bi mg)  : FnOk P w K mg base CX0 1 f fd ["_law_cell", "_law_k"] spMixed := by
  refine F.ok sc_law_mixed (fun vs H Q E h => ?_) (fun cdv A outer s H vs Q E hr h => ⟨_, PSs.nox
(pss_cons (ps_set (i := 2) sc_law_mixed.nd rfl (Or.inl rfl) (pe_op op_mod (pe_op op_add (pe_op op_add (pe_op op_add (pe_op op_mul (pv 0) pe_int) (pe_op op_mul (pe_op op_mul pe_int (pv 1)) (pv 1))) (pv 1)) pe_int) pe_int))
  (pss_cons (ps_set (i := 2) sc_law_mixed.nd rfl (Or.inl rfl) (pe_op op_mod (pe_op op_add (pe_op op_mul (pv 2) (pv 2)) pe_int) pe_int))
  (pss_one (ps_ret (pe_op op_mod (pe_op op_mul (pv 2) pe_int) pe_int))))), ?_⟩)
  · obtain ⟨a, k, rfl, _⟩ := h
    rfl
  · obtain ⟨a, k, rfl, h0, h1, q⟩ := h
    walk_at "lw go"
    exact q _
abbrev N_law_purse : List Str := ["_law_script", "_law_at", "_law_cell"]
abbrev s_law_purse : Stmt := top 16
theorem sc_law_purse : FnScope N_law_purse ["_law_script", "_law_at"] (defScope s_law_purse) := ⟨rfl, rfl, rfl, by decide +kernel, rfl, by decide +kernel, by decide +kernel⟩
theorem ok_law_purse (F : FnP K "_law_purse" s_law_purse f fd) (T : Bi mg)  : FnOk P w K mg base CX0 1 f fd ["_law_script", "_law_at"] (spPurse K) := by
  refine F.ok sc_law_purse (fun vs H Q E h => ?_) (fun cdv A outer s H vs Q E hr h => ⟨_, PSs.nox
(pss_cons (ps_set (i := 2) sc_law_purse.nd rfl (Or.inl rfl) (pe_callB (cr_sum rfl) (by rfl) T.sum (by decide +kernel) (pa_cons (pe_slice sl_list (pv 0) (po_some (pv 1)) (po_some (pe_op op_add (pv 1) pe_int))) pa_nil)))
  (pss_one (ps_ret (pe_lst (pa_cons (pe_op op_mod (pe_callB (call_max2 rfl) (by rfl) T.max (by decide +kernel) (pa_cons (pe_op op_sub (pv 2) (pe_op op_pow pe_int pe_int)) (pa_cons pe_int pa_nil))) (pe_op op_powW (pe_op op_pow pe_int pe_int) pe_int)) (pa_cons (pe_op op_mod (pv 2) pe_int) (pa_cons (pe_op op_mul pe_int (pv 1)) pa_nil))))))), ?_⟩)
  · obtain ⟨_, _, rfl, _⟩ := h
    rfl
  · obtain ⟨a, ns, rfl, hS, q⟩ := h
    walk_at "lw go"
    refine g_slL hS fun l hl => ?_
    walk_at "lw go"
    obtain ⟨ms, e, _⟩ := cut_ints ns (some 0) (some (0 + 1))
    refine ⟨l, ms, rfl, SqL.of (by rw [upd_same, e]), ?_⟩
    walk_at "lw go"
    refine ⟨_, _, rfl, ?_⟩
    walk_at "lw go"
    refine ⟨by show 3 ≤ sizeLine; decide, fun p hp => q p _ _ ((Ext.refl.new hl).new hp) upd_same ⟨_, _, _, rfl, by omega, by omega⟩⟩
abbrev N_law_draw : List Str := ["_law_purse_here", "_law_out_of", "_law_drawn", "_law_figure", "_law_k"]
abbrev s_law_draw : Stmt := top 17
theorem sc_law_draw : FnScope N_law_draw ["_law_purse_here", "_law_out_of"] (defScope s_law_draw) := ⟨rfl, rfl, rfl, by decide +kernel, rfl, by decide +kernel, by decide +kernel⟩
theorem ok_law_draw (F : FnP K "_law_draw" s_law_draw f fd) (T : Bi mg) (D_law_mixed : Df P w K mg base "_law_mixed" ["_law_cell", "_law_k"] 1 spMixed) : FnOk P w K mg base CX0 2 f fd ["_law_purse_here", "_law_out_of"] spDraw := by
  refine F.ok sc_law_draw (fun vs H Q E h => ?_) (fun cdv A outer s H vs Q E hr h => ⟨_, PSs.nox
(pss_cons (ps_if (pt_cmpR op_gt (pe_ix ix_list (pv 0) pe_int (fun _ _ => rfl)) pe_int (nomark _))
  (pss_cons (ps_set (i := 2) sc_law_draw.nd rfl (Or.inl rfl) (pe_op op_mod (pe_ix ix_list (pv 0) pe_int (fun _ _ => rfl)) (pv 1)))
  (pss_cons (ps_asg (pe_op op_fdivW (pe_ix ix_list (pv 0) pe_int (fun _ _ => rfl)) (pv 1)) (pg_sub (pv 0) pe_int set_list))
  (pss_one (ps_ret (pv 2)))))
  pss_nil)
  (pss_cons (ps_set (i := 3) sc_law_draw.nd rfl (Or.inl rfl) pe_int)
  (pss_cons (ps_for PassesOwn.never rfl (pi_range1 (by rfl) T.range (pa_cons (pe_op op_add pe_int (pe_op op_fdiv (pe_bits (pv 1)) pe_int)) pa_nil)) (pg_name (i := 4) sc_law_draw.nd rfl (Or.inl rfl))
  (pss_cons (ps_asg (pe_op op_add (pe_ix ix_list (pv 0) pe_int (fun _ _ => rfl)) pe_int) (pg_sub (pv 0) pe_int set_list))
  (pss_one (ps_set (i := 3) sc_law_draw.nd rfl (Or.inl rfl) (pe_op op_add (pe_op op_mul (pv 3) pe_int) (pe_df D_law_mixed (hr.mono (by first | decide | omega)) (pa_cons (pe_ix ix_list (pv 0) pe_int (fun _ _ => rfl)) (pa_cons (pe_ix ix_list (pv 0) pe_int (fun _ _ => rfl)) pa_nil))))))))
  (pss_one (ps_ret (pe_op op_mod (pv 3) (pv 1))))))), ?_⟩)
  · obtain ⟨p, n, m, o, rfl, _⟩ := h
    rfl
  · obtain ⟨p, n, m, o, rfl, hp, ⟨a, b, c, rfl, c0, c1⟩, hm, hn, hn2, q⟩ := h
    walk_at "lw go"
    refine g_ixL (SqL.of hp) (v := .int a) rfl ?_
    walk_at "lw go"
    refine g_ite (fun h => ?_) (fun h => ?_)
    · walk_at "lw go"
      refine g_ixL (SqL.of hp) (v := .int a) rfl ?_
      walk_at "lw go"
      refine g_ixL (SqL.of hp) (v := .int a) rfl ?_
      walk_at "lw go"
      refine g_setL (m := 0) hp (by rfl) ?_
      walk_at "lw go"
      exact q _ _ (Int.emod_nonneg _ (by omega)) (Int.emod_lt_of_pos _ hn) ⟨_, _, _, rfl, c0, by omega⟩
    · have hb := bits_le (n := n) (by omega) hn2
      walk_at "lw go"
      refine ⟨_, rfl, by omega, by omega, for_range (fun i σ H' => ∃ (num c' : Int) (v4 : Option V), σ = [some (.ref p), some (.int n), none, some (.int num), v4] ∧ H' p = some (.lst [.int a, .int b, .int c']) ∧ 0 ≤ c' ∧ c' ≤ c + i ∧ (∀ x, upd H' p x = upd H p x) ∧ upd H p (.lst [.int a, .int b, .int c']) = H')
        ⟨0, c, none, rfl, hp, c0, by omega, fun _ => rfl, upd_self hp⟩ ?_ ?_⟩
      · rintro i σ H' hi ⟨num, c', v4, rfl, hp', d0, d1, hu, he⟩
        walk_at "lw go"
        refine g_ixL (SqL.of hp') (v := .int c') rfl ?_
        walk_at "lw go"
        refine g_setL (m := 2) hp' (by rfl) ?_
        walk_at "lw go"
        refine g_ixL (SqL.of upd_same) (v := .int b) rfl ?_
        walk_at "lw go"
        refine g_ixL (SqL.of upd_same) (v := .int (c' + 1)) rfl ?_
        walk_at "lw go"
        refine ⟨b, c' + 1, rfl, by omega, by omega, fun x => ?_⟩
        walk_at "lw go"
        refine ⟨_, c' + 1, _, rfl, upd_same, by omega, by omega, fun x => ?_, ?_⟩
        · rw [upd_upd]; exact hu x
        · exact (hu _).symm
      · rintro σ H' ⟨num, c', v4, rfl, hp', d0, d1, hu, he⟩
        walk_at "lw go"
        rw [← he]
        exact q _ _ (Int.emod_nonneg _ (by omega)) (Int.emod_lt_of_pos _ hn) ⟨_, _, _, rfl, d0, by omega⟩
end

theorem bl_is {b c : Bool} {P : Bool → Prop} (h : b = c) (q : P c) : ∃ k, V.bl b = .bl k ∧ P k := ⟨c, by rw [h], q⟩
theorem g_none {Q : Option Int → Hp → Prop} {σ : L2.St} {H : Hp} (q : Q none H) : tNoPart σ H Q := q
theorem sl_both {K : PySem.W.Frag} {T : Addr} {xs : List V} {lo hi : Option Int} {H : Hp} {Q : VK} (R : Addr → Hp → Prop) (h : SqT K H T xs) (rT : R T H) (rN : ∀ p, H p = none → R p (upd H p (.tup (cutV xs lo hi)))) (q : ∀ tr H', R tr H' → Q (.ref tr) H') : rSlA K (.ref T) lo hi H Q :=
  ⟨T, xs, rfl, h, fun _ => q _ _ rT, fun _ p hp => q _ _ (rN p hp)⟩
theorem ini_mkK {K : PySem.W.Frag} {C : Addr} {names : List Str} {Q : VK} {ys : List V} {E : XK} {H : Hp} {g : Addr → List V} (hg : ∀ a, g a = .ref a :: ys) (O : Own K C) (hf : ∀ f ∈ names, PySem.W.findIn K (.ref C) f = some none) (hl : ys.length = names.length) (q : ∀ a H', H a = none → Exc H' a C (names.zip ys).reverse → Ext H H' → Q (.ref a) H') :
    ∀ a, H a = none → spIni K C names (g a) (upd H a (exo a C none)) (fun v H2 => v = .non ∧ Q (.ref a) H2) E := fun a ha => by
  rw [hg]
  exact ini_mk O hf hl q a ha
section
variable {K : PySem.W.Frag} {C : Addr} {names : List Str} {Q : VK} {dvs : List V} {H : Hp} {σ : L2.St} {m m' : Nat} {v v' : V}
theorem mkP0 (q : ∀ a H', H a = none → Exc H' a C [] → Ext H H' → Q (.ref a) H') : tMkP C tNil σ H Q := ⟨by simp, mkP_go q⟩
theorem mkP1 (h : σ[m]? = some (some v)) (q : ∀ a H', H a = none → Exc H' a C [] → Ext H H' → Q (.ref a) H') : tMkP C (tCons (tVar m) tNil) σ H Q := g_mkP (g_cons (g_var h (g_nil ⟨by simp, mkP_go q⟩)))
theorem mkI0 (O : Own K C) (hf : ∀ f ∈ names, PySem.W.findIn K (.ref C) f = some none) (hl : ([] ++ dvs).length = names.length) (q : ∀ a H', H a = none → Exc H' a C (names.zip ([] ++ dvs)).reverse → Ext H H' → Q (.ref a) H') : tMkI C (spIni K C names) dvs tNil σ H Q :=
  ⟨by simp, ini_mk (ys := [] ++ dvs) O hf hl q⟩
theorem mkI1 (h : σ[m]? = some (some v)) (O : Own K C) (hf : ∀ f ∈ names, PySem.W.findIn K (.ref C) f = some none) (hl : ([v] ++ dvs).length = names.length) (q : ∀ a H', H a = none → Exc H' a C (names.zip ([v] ++ dvs)).reverse → Ext H H' → Q (.ref a) H') :
    tMkI C (spIni K C names) dvs (tCons (tVar m) tNil) σ H Q := g_mkI (g_cons (g_var h (g_nil ⟨by simp, ini_mk (ys := [v] ++ dvs) O hf hl q⟩)))
theorem mkI2 (h : σ[m]? = some (some v)) (h' : σ[m']? = some (some v')) (O : Own K C) (hf : ∀ f ∈ names, PySem.W.findIn K (.ref C) f = some none) (hl : ([v, v'] ++ dvs).length = names.length) (q : ∀ a H', H a = none → Exc H' a C (names.zip ([v, v'] ++ dvs)).reverse → Ext H H' → Q (.ref a) H') :
    tMkI C (spIni K C names) dvs (tCons (tVar m) (tCons (tVar m') tNil)) σ H Q := g_mkI (g_cons (g_var h (g_cons (g_var h' (g_nil ⟨by simp, ini_mk (ys := [v, v'] ++ dvs) O hf hl q⟩)))))
variable {gV : List V → List V → List V} {ys : List V}
theorem mkK1 (h : σ[m]? = some (some v)) (hg : ∀ a : Addr, gV [.ref a] [v] = .ref a :: ys) (O : Own K C) (hf : ∀ f ∈ names, PySem.W.findIn K (.ref C) f = some none) (hl : ys.length = names.length) (q : ∀ a H', H a = none → Exc H' a C (names.zip ys).reverse → Ext H H' → Q (.ref a) H') :
    tMkK C (spIni K C names) gV (tCons (tVar m) tNil) σ H Q := g_mkK (g_cons (g_var h (g_nil (ini_mkK hg O hf hl q))))
theorem mkK2 (h : σ[m]? = some (some v)) (h' : σ[m']? = some (some v')) (hg : ∀ a : Addr, gV [.ref a] [v, v'] = .ref a :: ys) (O : Own K C) (hf : ∀ f ∈ names, PySem.W.findIn K (.ref C) f = some none) (hl : ys.length = names.length) (q : ∀ a H', H a = none → Exc H' a C (names.zip ys).reverse → Ext H H' → Q (.ref a) H') :
    tMkK C (spIni K C names) gV (tCons (tVar m) (tCons (tVar m') tNil)) σ H Q := g_mkK (g_cons (g_var h (g_cons (g_var h' (g_nil (ini_mkK hg O hf hl q))))))
end
def txtAll : Str := "abcxyz >:"
theorem txt_ok {d : Int} (h0 : 0 ≤ d) (h : d < 9) : PyData.strOk (cutS txtAll (some d) none) = true := by
  rcases (show d = 0 ∨ d = 1 ∨ d = 2 ∨ d = 3 ∨ d = 4 ∨ d = 5 ∨ d = 6 ∨ d = 7 ∨ d = 8 by omega) with rfl | rfl | rfl | rfl | rfl | rfl | rfl | rfl | rfl <;> decide +kernel
theorem can_ints : ∀ ms : List Int, PyData.canLayAll0 (ms.map .int) = true
  | [] => rfl
  | m :: ms => by
    rw [List.map_cons, PyData.canLayAll0, can_ints ms]
    rfl
theorem dep_ints : ∀ ms : List Int, PyData.depthAll (ms.map .int) = 0
  | [] => rfl
  | m :: ms => by
    rw [List.map_cons, PyData.depthAll, dep_ints ms]
    rfl
def dat8 (ms : List Int) (t : Str) (near far : Int) : PyData := .list [.tuple (ms.map .int), .str t, .str t, .tuple (ms.map .int), .str t, .int near, .int far, .int far]
theorem shaped8 (ms : List Int) (t : Str) (near far : Int) (h : PyData.strOk t = true) : SeqAt.shaped (dat8 ms t near far) = true := by
  unfold SeqAt.shaped dat8
  simp [PyData.canLay0, PyData.canLayAll0, PyData.depth, PyData.depthAll, can_ints, dep_ints, h]
theorem dp_ints {K : PySem.W.Frag} {H : Hp} : ∀ ms : List Int, DpAll K H (ms.map V.int) (ms.map .int)
  | [] => .nil
  | m :: ms => .cons (.int m) (dp_ints ms)
theorem dp8 {K : PySem.W.Frag} {H : Hp} {l a b : Addr} {ms : List Int} {t : Str} {near far : Int} (h : H l = some (.lst [.ref a, .str t, .str t, .ref b, .str t, .int near, .int far, .int far])) (ha : SqT K H a (ms.map V.int)) (hb : SqT K H b (ms.map V.int)) : Dp K H (.ref l) (dat8 ms t near far) :=
  .lst (SqL.of h) (.cons (.tup ha (dp_ints ms)) (.cons (.str t) (.cons (.str t) (.cons (.tup hb (dp_ints ms)) (.cons (.str t) (.cons (.int near) (.cons (.int far) (.cons (.int far) .nil))))))))
theorem sqT_ext {K : PySem.W.Frag} {H H' : Hp} {a : Addr} {xs : List V} (k : Ext H H') (h : SqT K H a xs) : SqT K H' a xs := by
  rcases h with (h | h) | h
  · exact .inl (.inl (k _ _ h))
  · obtain ⟨o, h⟩ := h
    exact .inl (.inr ⟨o, k _ _ h⟩)
  · exact .inr h
section
variable {P : Program} {w : World} {K : PySem.W.Frag} {mg : Str → Option Value} {base : Heap} {f : Addr} {fd : FuncData}
def spLaw (K : PySem.W.Frag) : Sp := fun vs H Q _ => ∃ (a : Addr) (ns : List Int), vs = [.ref a] ∧ SqL K H a (ns.map V.int) ∧ ∀ H', Q (.bl true) H'
abbrev N_law : List Str := ["_law_script", "_law_purse_here", "_law_text", "_law_far", "_law_near", "_law_trail", "_law_bare", "_law_nothing", "_law_plain", "_law_told", "_law_right"]
abbrev s_law : Stmt := top 22
theorem sc_law : FnScope N_law ["_law_script"] (defScope s_law) := ⟨rfl, rfl, rfl, by decide +kernel, rfl, by decide +kernel, by decide +kernel⟩
theorem ok_law (F : FnP K "law" s_law f fd) (T : Bi mg) (G : Gs P w K mg base) (D_law_purse : Df P w K mg base "_law_purse" ["_law_script", "_law_at"] 1 (spPurse K)) (D_law_draw : Df P w K mg base "_law_draw" ["_law_purse_here", "_law_out_of"] 2 spDraw) (D_law_row_right : Df P w K mg base "_law_row_right" ["_law_some"] 2 (spRow K)) (D_law_fields : Df P w K mg base "_law_fields" ["_law_some"] 1 (spFields K))
    (D_law_sorts : Df P w K mg base "_law_sorts" ["_law_it"] 1 (spSorts K)) (D_law_kinds : Df P w K mg base "_law_kinds" ["_law_it"] 1 (spKinds K)) : FnOk P w K mg base CX0 3 f fd ["_law_script"] (spLaw K) := by
  refine F.ok sc_law (fun vs H Q E h => ?_) (fun cdv A outer s H vs Q E hr h => ⟨_, PSs.nox
(pss_cons (ps_set (i := 1) sc_law.nd rfl (Or.inl rfl) (pe_df D_law_purse (hr.mono (by first | decide | omega)) (pa_cons (pv 0) (pa_cons pe_int pa_nil))))
  (pss_cons (ps_set (i := 2) sc_law.nd rfl (Or.inl rfl) (pe_slice sl_str pe_str (po_some (pe_df D_law_draw (hr.mono (by first | decide | omega)) (pa_cons (pv 1) (pa_cons pe_int pa_nil)))) po_none))
  (pss_cons (ps_set (i := 3) sc_law.nd rfl (Or.inl rfl) (pe_df D_law_draw (hr.mono (by first | decide | omega)) (pa_cons (pv 1) (pa_cons (pe_op op_pow pe_int pe_int) pa_nil))))
  (pss_cons (ps_set (i := 4) sc_law.nd rfl (Or.inl rfl) (pe_df D_law_draw (hr.mono (by first | decide | omega)) (pa_cons (pv 1) (pa_cons pe_int pa_nil))))
  (pss_cons (ps_set (i := 5) sc_law.nd rfl (Or.inl rfl) (pe_slice sl_tupA (pe_tup (pa_cons pe_int (pa_cons (pv 4) (pa_cons pe_int pa_nil)))) po_none (po_some (pe_df D_law_draw (hr.mono (by first | decide | omega)) (pa_cons (pv 1) (pa_cons pe_int pa_nil))))))
  (pss_cons (ps_set (i := 6) sc_law.nd rfl (Or.inl rfl) (pe_lst (pa_cons (pe_mkP0 (x := "NoBox") (G.p_NoBox) G.g_NoBox) (pa_cons (pe_mkP0 (x := "NoPoint") (G.p_NoPoint) G.g_NoPoint) (pa_cons (pe_mkP0 (x := "NoLevel") (G.p_NoLevel) G.g_NoLevel) (pa_cons (pe_mkP0 (x := "NoCount") (G.p_NoCount) G.g_NoCount) (pa_cons (pe_mkP0 (x := "Full") (G.p_Full) G.g_Full) (pa_cons (pe_mkP0 (x := "NoDeed") (G.p_NoDeed) G.g_NoDeed) (pa_cons (pe_mkP0 (x := "NoLine") (G.p_NoLine) G.g_NoLine) (pa_cons (pe_mk0 G.m_NoRules_0 (hr.mono (by first | decide | omega))) (pa_cons (pe_mk0 G.m_NoEdit_0 (hr.mono (by first | decide | omega))) (pa_cons (pe_mk0 G.m_NoBrush_0 (hr.mono (by first | decide | omega))) pa_nil))))))))))))
  (pss_cons (ps_set (i := 6) sc_law.nd rfl (Or.inl rfl) (pe_op op_cat (pv 6) (pe_lst (pa_cons (pe_mk0 G.m_NoText_0 (hr.mono (by first | decide | omega))) (pa_cons (pe_mk0 G.m_NoSuch_0 (hr.mono (by first | decide | omega))) pa_nil)))))
  (pss_cons (ps_set (i := 7) sc_law.nd rfl (Or.inl rfl) (pe_lst (pa_cons (pe_tup pa_nil) (pa_cons pe_str (pa_cons pe_str (pa_cons (pe_tup pa_nil) (pa_cons pe_str (pa_cons pe_int (pa_cons pe_int (pa_cons pe_int pa_nil))))))))))
  (pss_cons (ps_if (PW.pt (pw_or (pt_not (pt_val (pe_df D_law_row_right (hr.mono (by first | decide | omega)) (pa_cons (pv 6) pa_nil)))) (pw_or1 (pt_cmpR (op_neD hr.units) (pe_df D_law_fields (hr.mono (by first | decide | omega)) (pa_cons (pv 6) pa_nil)) (pv 7) (nomark _)))))
  (pss_one (ps_ret pe_bl))
  pss_nil)
  (pss_cons (ps_set (i := 8) sc_law.nd rfl (Or.inl rfl) (pe_lst (pa_cons (pe_mkP (x := "NoBox") (G.p_NoBox) G.g_NoBox (pa_cons (pv 2) pa_nil)) (pa_cons (pe_mkP (x := "NoPoint") (G.p_NoPoint) G.g_NoPoint (pa_cons (pv 2) pa_nil)) (pa_cons (pe_mkP (x := "NoLevel") (G.p_NoLevel) G.g_NoLevel (pa_cons (pv 2) pa_nil)) (pa_cons (pe_mkP (x := "NoCount") (G.p_NoCount) G.g_NoCount (pa_cons (pv 2) pa_nil)) (pa_cons (pe_mkP (x := "Full") (G.p_Full) G.g_Full (pa_cons (pv 2) pa_nil)) (pa_cons (pe_mkP (x := "NoDeed") (G.p_NoDeed) G.g_NoDeed (pa_cons (pv 2) pa_nil)) (pa_cons (pe_mkP (x := "NoLine") (G.p_NoLine) G.g_NoLine (pa_cons (pv 2) pa_nil)) pa_nil)))))))))
  (pss_cons (ps_set (i := 9) sc_law.nd rfl (Or.inl rfl) (pe_op op_cat (pv 8) (pe_lst (pa_cons (pe_mk G.m_NoRules_2 (hr.mono (by first | decide | omega)) (pa_cons (pv 5) (pa_cons (pv 2) pa_nil))) (pa_cons (pe_mk G.m_NoEdit_1 (hr.mono (by first | decide | omega)) (pa_cons (pv 2) pa_nil)) (pa_cons (pe_mk G.m_NoBrush_2 (hr.mono (by first | decide | omega)) (pa_cons (pv 5) (pa_cons (pv 2) pa_nil))) (pa_cons (pe_mk G.m_NoText_2 (hr.mono (by first | decide | omega)) (pa_cons (pv 4) (pa_cons (pv 3) pa_nil))) (pa_cons (pe_mk G.m_NoSuch_1 (hr.mono (by first | decide | omega)) (pa_cons (pv 3) pa_nil)) pa_nil))))))))
  (pss_cons (ps_set (i := 10) sc_law.nd rfl (Or.inl rfl) (pe_lst (pa_cons (pv 5) (pa_cons (pv 2) (pa_cons (pv 2) (pa_cons (pv 5) (pa_cons (pv 2) (pa_cons (pv 4) (pa_cons (pv 3) (pa_cons (pv 3) pa_nil))))))))))
  (pss_cons (ps_if (PW.pt (pw_or (pt_not (pt_val (pe_df D_law_row_right (hr.mono (by first | decide | omega)) (pa_cons (pv 9) pa_nil)))) (pw_or1 (pt_cmpR (op_neD hr.units) (pe_df D_law_fields (hr.mono (by first | decide | omega)) (pa_cons (pv 9) pa_nil)) (pv 10) (nomark _)))))
  (pss_one (ps_ret pe_bl))
  pss_nil)
  (pss_cons (ps_set (i := 9) sc_law.nd rfl (Or.inl rfl) (pe_op op_cat (pv 8) (pe_lst (pa_cons (pe_mkk G.k_NoRules_why_path (hr.mono (by first | decide | omega)) (pk_cons (pv 2) (pk_cons (pv 5) pk_nil))) (pa_cons (pe_mkk G.k_NoEdit_why (hr.mono (by first | decide | omega)) (pk_cons (pv 2) pk_nil)) (pa_cons (pe_mkk G.k_NoBrush_why_path (hr.mono (by first | decide | omega)) (pk_cons (pv 2) (pk_cons (pv 5) pk_nil))) pa_nil))))))
  (pss_cons (ps_set (i := 9) sc_law.nd rfl (Or.inl rfl) (pe_op op_cat (pv 9) (pe_lst (pa_cons (pe_mkk G.k_NoText_spot_row (hr.mono (by first | decide | omega)) (pk_cons (pv 3) (pk_cons (pv 4) pk_nil))) (pa_cons (pe_mkk G.k_NoSuch_number (hr.mono (by first | decide | omega)) (pk_cons (pv 3) pk_nil)) pa_nil)))))
  (pss_cons (ps_if (PW.pt (pw_or (pt_not (pt_val (pe_df D_law_row_right (hr.mono (by first | decide | omega)) (pa_cons (pv 9) pa_nil)))) (pw_or (pt_cmpR (op_neD hr.units) (pe_df D_law_fields (hr.mono (by first | decide | omega)) (pa_cons (pv 9) pa_nil)) (pv 10) (nomark _)) (pw_or1 (pt_cmpR (op_neD hr.units) (pe_df D_law_fields (hr.mono (by first | decide | omega)) (pa_cons (pv 6) pa_nil)) (pv 7) (nomark _))))))
  (pss_one (ps_ret pe_bl))
  pss_nil)
  (pss_cons (ps_if (PW.pt (pw_or (pt_cmpR op_in_seq pe_bl (pe_df D_law_sorts (hr.mono (by first | decide | omega)) (pa_cons (pe_mkP0 (x := "LandError") (G.p_LandError) G.g_LandError) pa_nil)) (by rfl)) (pw_or1 (pt_cmpR (op_neD hr.units) (pe_df D_law_kinds (hr.mono (by first | decide | omega)) (pa_cons (pe_mkP (x := "LandError") (G.p_LandError) G.g_LandError (pa_cons (pv 2) pa_nil)) pa_nil)) (pe_lst (pa_cons pe_bl (pa_cons pe_bl (pa_cons pe_bl pa_nil)))) (nomark _)))))
  (pss_one (ps_ret pe_bl))
  pss_nil)
  (pss_one (ps_ret (pe_cmpR (op_eqD hr.units) (pe_lst (pa_cons (pe_fx (pe_mk G.m_NoRules_1 (hr.mono (by first | decide | omega)) (pa_cons (pv 5) pa_nil))) (pa_cons (pe_fx (pe_mk G.m_NoText_1 (hr.mono (by first | decide | omega)) (pa_cons (pv 4) pa_nil))) (pa_cons (pe_fx (pe_mkk G.k_NoBrush_why (hr.mono (by first | decide | omega)) (pk_cons (pv 2) pk_nil))) pa_nil)))) (pe_lst (pa_cons pe_str (pa_cons pe_int (pa_cons (pe_tup pa_nil) pa_nil)))) (nomark _))))))))))))))))))))), ?_⟩)
  · obtain ⟨_, _, rfl, _⟩ := h
    rfl
  · obtain ⟨a, ns, rfl, hS, q⟩ := h
    walk_at "lw go"
    refine ⟨a, ns, rfl, hS, fun p o0 H0 k0 hp0 hP0 => ?_⟩
    walk_at "lw go"
    refine ⟨p, _, _, o0, rfl, hp0, hP0, by omega, by decide, by decide, fun d1 o1 l1 u1 hP1 => ?_⟩
    walk_at "lw go"
    refine ⟨txtAll, rfl, by decide, ?_⟩
    walk_at "lw go"
    have hT := txt_ok l1 u1
    generalize cutS txtAll (some d1) none = tx at hT ⊢
    refine ⟨p, _, _, o1, rfl, upd_same, hP1, by omega, by decide, by decide, fun d2 o2 l2 u2 hP2 => ?_⟩
    walk_at "lw go"
    refine ⟨p, _, _, o2, rfl, upd_same, hP2, by omega, by decide, by decide, fun d3 o3 l3 u3 hP3 => ?_⟩
    walk_at "lw go"
    refine ⟨by show 3 ≤ sizeLine; decide, fun T0 hT0 => ?_⟩
    walk_at "lw go"
    have npT : p ≠ T0 := ne_of_none upd_same hT0
    refine ⟨p, _, _, o3, rfl, by rw [upd_ne npT]; exact upd_same, hP3, by omega, by decide, by decide, fun d4 o4 l4 u4 hP4 => ?_⟩
    walk_at "lw go"
    refine sl_both (fun tr H' => ∃ ms : List Int, SqT K H' tr (ms.map V.int)) (SqT.of (by rw [upd_ne npT.symm]; exact upd_same)) ⟨[1, d3, 2], SqT.of (by rw [upd_ne npT.symm]; exact upd_same)⟩ (fun p1 hp1 => ?_) fun tr Hs ⟨ms, htr⟩ => ?_
    · obtain ⟨ms, e, _⟩ := cut_ints [1, d3, 2] none (some d4)
      exact ⟨ms, SqT.of (by rw [upd_same]; exact congrArg (fun z => some (HO.tup z)) e)⟩
    walk_at "lw go"
    refine mkP0 fun b0 Hb0 nb0 eb0 kb0 => ?_
    walk_at "lw go"
    refine mkP0 fun b1 Hb1 nb1 eb1 kb1 => ?_
    walk_at "lw go"
    refine mkP0 fun b2 Hb2 nb2 eb2 kb2 => ?_
    walk_at "lw go"
    refine mkP0 fun b3 Hb3 nb3 eb3 kb3 => ?_
    walk_at "lw go"
    refine mkP0 fun b4 Hb4 nb4 eb4 kb4 => ?_
    walk_at "lw go"
    refine mkP0 fun b5 Hb5 nb5 eb5 kb5 => ?_
    walk_at "lw go"
    refine mkP0 fun b6 Hb6 nb6 eb6 kb6 => ?_
    walk_at "lw go"
    refine mkI0 (own_nm G.e (x := "NoRules") (by decide)) (fun f hf => G.e.fld (x := "NoRules") (b := true) (fs := ["path", "why"]) (by decide) hf) rfl fun b7 Hb7 nb7 eb7 kb7 => ?_
    walk_at "lw go"
    refine mkI0 (own_nm G.e (x := "NoEdit") (by decide)) (fun f hf => G.e.fld (x := "NoEdit") (b := true) (fs := ["why"]) (by decide) hf) rfl fun b8 Hb8 nb8 eb8 kb8 => ?_
    walk_at "lw go"
    refine mkI0 (own_nm G.e (x := "NoBrush") (by decide)) (fun f hf => G.e.fld (x := "NoBrush") (b := true) (fs := ["path", "why"]) (by decide) hf) rfl fun b9 Hb9 nb9 eb9 kb9 => ?_
    walk_at "lw go"
    refine ⟨by show 10 ≤ sizeLine; decide, fun l1 hl1 => ?_⟩
    walk_at "lw go"
    refine mkI0 (own_nm G.e (x := "NoText") (by decide)) (fun f hf => G.e.fld (x := "NoText") (b := true) (fs := ["row", "spot"]) (by decide) hf) rfl fun b10 Hb10 nb10 eb10 kb10 => ?_
    walk_at "lw go"
    refine mkI0 (own_nm G.e (x := "NoSuch") (by decide)) (fun f hf => G.e.fld (x := "NoSuch") (b := true) (fs := ["number"]) (by decide) hf) rfl fun b11 Hb11 nb11 eb11 kb11 => ?_
    walk_at "lw go"
    refine ⟨by show 2 ≤ sizeLine; decide, fun l2 hl2 => ?_⟩
    walk_at "lw go"
    refine g_cat ((((Ext.refl.trans kb10).trans kb11).new hl2) _ _ upd_same) (Ext.refl _ _ upd_same) (by show 12 ≤ sizeLine; decide) fun l3 hl3 => ?_
    walk_at "lw go"
    refine ⟨by show 0 ≤ sizeLine; decide, fun t1 ht1 => ?_⟩
    walk_at "lw go"
    refine ⟨by show 0 ≤ sizeLine; decide, fun t2 ht2 => ?_⟩
    walk_at "lw go"
    refine ⟨by show 8 ≤ sizeLine; decide, fun l4 hl4 => ?_⟩
    walk_at "lw go"
    refine ⟨l3, (fun i => ([b0, b1, b2, b3, b4, b5, b6, b7, b8, b9, b10, b11] : List Addr).getD i 0), rfl, (((Ext.refl.new ht1).new ht2).new hl4) _ _ upd_same, fun i hi => ?_, fun Hkr1 kr1 => ?_⟩
    · rcases twelve hi with rfl | rfl | rfl | rfl | rfl | rfl | rfl | rfl | rfl | rfl | rfl | rfl
      · exact ⟨_, (eb0.keep (((((((((((((((((Ext.refl.trans kb1).trans kb2).trans kb3).trans kb4).trans kb5).trans kb6).trans kb7).trans kb8).trans kb9).new hl1).trans kb10).trans kb11).new hl2).new hl3).new ht1).new ht2).new hl4))⟩
      · exact ⟨_, (eb1.keep ((((((((((((((((Ext.refl.trans kb2).trans kb3).trans kb4).trans kb5).trans kb6).trans kb7).trans kb8).trans kb9).new hl1).trans kb10).trans kb11).new hl2).new hl3).new ht1).new ht2).new hl4))⟩
      · exact ⟨_, (eb2.keep (((((((((((((((Ext.refl.trans kb3).trans kb4).trans kb5).trans kb6).trans kb7).trans kb8).trans kb9).new hl1).trans kb10).trans kb11).new hl2).new hl3).new ht1).new ht2).new hl4))⟩
      · exact ⟨_, (eb3.keep ((((((((((((((Ext.refl.trans kb4).trans kb5).trans kb6).trans kb7).trans kb8).trans kb9).new hl1).trans kb10).trans kb11).new hl2).new hl3).new ht1).new ht2).new hl4))⟩
      · exact ⟨_, (eb4.keep (((((((((((((Ext.refl.trans kb5).trans kb6).trans kb7).trans kb8).trans kb9).new hl1).trans kb10).trans kb11).new hl2).new hl3).new ht1).new ht2).new hl4))⟩
      · exact ⟨_, (eb5.keep ((((((((((((Ext.refl.trans kb6).trans kb7).trans kb8).trans kb9).new hl1).trans kb10).trans kb11).new hl2).new hl3).new ht1).new ht2).new hl4))⟩
      · exact ⟨_, (eb6.keep (((((((((((Ext.refl.trans kb7).trans kb8).trans kb9).new hl1).trans kb10).trans kb11).new hl2).new hl3).new ht1).new ht2).new hl4))⟩
      · exact ⟨_, (eb7.keep ((((((((((Ext.refl.trans kb8).trans kb9).new hl1).trans kb10).trans kb11).new hl2).new hl3).new ht1).new ht2).new hl4))⟩
      · exact ⟨_, (eb8.keep (((((((((Ext.refl.trans kb9).new hl1).trans kb10).trans kb11).new hl2).new hl3).new ht1).new ht2).new hl4))⟩
      · exact ⟨_, (eb9.keep ((((((((Ext.refl.new hl1).trans kb10).trans kb11).new hl2).new hl3).new ht1).new ht2).new hl4))⟩
      · exact ⟨_, (eb10.keep ((((((Ext.refl.trans kb11).new hl2).new hl3).new ht1).new ht2).new hl4))⟩
      · exact ⟨_, (eb11.keep (((((Ext.refl.new hl2).new hl3).new ht1).new ht2).new hl4))⟩
    walk_at "lw go"
    refine ⟨l3, (fun i => ([b0, b1, b2, b3, b4, b5, b6, b7, b8, b9, b10, b11] : List Addr).getD i 0), _, _, _, _, _, .ref (He.dflAt ("NoRules", some "__init__") 0 K), .str "", .str "", .ref (He.dflAt ("NoBrush", some "__init__") 0 K), .str "", .int 0, .int 0, .int 0, rfl, ((((Ext.refl.new ht1).new ht2).new hl4).trans kr1) _ _ upd_same, ⟨(eb7.keep (((((((((((Ext.refl.trans kb8).trans kb9).new hl1).trans kb10).trans kb11).new hl2).new hl3).new ht1).new ht2).new hl4).trans kr1)), rfl, rfl⟩, ⟨(eb8.keep ((((((((((Ext.refl.trans kb9).new hl1).trans kb10).trans kb11).new hl2).new hl3).new ht1).new ht2).new hl4).trans kr1)), rfl⟩, ⟨(eb9.keep (((((((((Ext.refl.new hl1).trans kb10).trans kb11).new hl2).new hl3).new ht1).new ht2).new hl4).trans kr1)), rfl, rfl⟩, ⟨(eb10.keep (((((((Ext.refl.trans kb11).new hl2).new hl3).new ht1).new ht2).new hl4).trans kr1)), rfl, rfl⟩, ⟨(eb11.keep ((((((Ext.refl.new hl2).new hl3).new ht1).new ht2).new hl4).trans kr1)), rfl⟩, fun mkf1 Hkf1 kf1 hkf1 => ?_⟩
    walk_at "lw go"
    refine ne_same (shaped8 [] "" 0 0 (by decide +kernel)) (dp8 hkf1 (G.n1 _) (G.n2 _)) (dp8 (((Ext.refl.trans kr1).trans kf1) _ _ upd_same) (SqT.of (((((Ext.refl.new ht2).new hl4).trans kr1).trans kf1) _ _ upd_same)) (SqT.of ((((Ext.refl.new hl4).trans kr1).trans kf1) _ _ upd_same))) ?_
    walk_at "lw go"
    refine mkP1 rfl fun b12 Hb12 nb12 eb12 kb12 => ?_
    walk_at "lw go"
    refine mkP1 rfl fun b13 Hb13 nb13 eb13 kb13 => ?_
    walk_at "lw go"
    refine mkP1 rfl fun b14 Hb14 nb14 eb14 kb14 => ?_
    walk_at "lw go"
    refine mkP1 rfl fun b15 Hb15 nb15 eb15 kb15 => ?_
    walk_at "lw go"
    refine mkP1 rfl fun b16 Hb16 nb16 eb16 kb16 => ?_
    walk_at "lw go"
    refine mkP1 rfl fun b17 Hb17 nb17 eb17 kb17 => ?_
    walk_at "lw go"
    refine mkP1 rfl fun b18 Hb18 nb18 eb18 kb18 => ?_
    walk_at "lw go"
    refine ⟨by show 7 ≤ sizeLine; decide, fun l5 hl5 => ?_⟩
    walk_at "lw go"
    refine mkI2 rfl rfl (own_nm G.e (x := "NoRules") (by decide)) (fun f hf => G.e.fld (x := "NoRules") (b := true) (fs := ["path", "why"]) (by decide) hf) rfl fun b19 Hb19 nb19 eb19 kb19 => ?_
    walk_at "lw go"
    refine mkI1 rfl (own_nm G.e (x := "NoEdit") (by decide)) (fun f hf => G.e.fld (x := "NoEdit") (b := true) (fs := ["why"]) (by decide) hf) rfl fun b20 Hb20 nb20 eb20 kb20 => ?_
    walk_at "lw go"
    refine mkI2 rfl rfl (own_nm G.e (x := "NoBrush") (by decide)) (fun f hf => G.e.fld (x := "NoBrush") (b := true) (fs := ["path", "why"]) (by decide) hf) rfl fun b21 Hb21 nb21 eb21 kb21 => ?_
    walk_at "lw go"
    refine mkI2 rfl rfl (own_nm G.e (x := "NoText") (by decide)) (fun f hf => G.e.fld (x := "NoText") (b := true) (fs := ["row", "spot"]) (by decide) hf) rfl fun b22 Hb22 nb22 eb22 kb22 => ?_
    walk_at "lw go"
    refine mkI1 rfl (own_nm G.e (x := "NoSuch") (by decide)) (fun f hf => G.e.fld (x := "NoSuch") (b := true) (fs := ["number"]) (by decide) hf) rfl fun b23 Hb23 nb23 eb23 kb23 => ?_
    walk_at "lw go"
    refine ⟨by show 5 ≤ sizeLine; decide, fun l6 hl6 => ?_⟩
    walk_at "lw go"
    refine g_cat (((((((Ext.refl.trans kb19).trans kb20).trans kb21).trans kb22).trans kb23).new hl6) _ _ upd_same) (Ext.refl _ _ upd_same) (by show 12 ≤ sizeLine; decide) fun l7 hl7 => ?_
    walk_at "lw go"
    refine ⟨by show 8 ≤ sizeLine; decide, fun l8 hl8 => ?_⟩
    walk_at "lw go"
    refine ⟨l7, (fun i => ([b12, b13, b14, b15, b16, b17, b18, b19, b20, b21, b22, b23] : List Addr).getD i 0), rfl, (Ext.refl.new hl8) _ _ upd_same, fun i hi => ?_, fun Hkr2 kr2 => ?_⟩
    · rcases twelve hi with rfl | rfl | rfl | rfl | rfl | rfl | rfl | rfl | rfl | rfl | rfl | rfl
      · exact ⟨_, (eb12.keep (((((((((((((((Ext.refl.trans kb13).trans kb14).trans kb15).trans kb16).trans kb17).trans kb18).new hl5).trans kb19).trans kb20).trans kb21).trans kb22).trans kb23).new hl6).new hl7).new hl8))⟩
      · exact ⟨_, (eb13.keep ((((((((((((((Ext.refl.trans kb14).trans kb15).trans kb16).trans kb17).trans kb18).new hl5).trans kb19).trans kb20).trans kb21).trans kb22).trans kb23).new hl6).new hl7).new hl8))⟩
      · exact ⟨_, (eb14.keep (((((((((((((Ext.refl.trans kb15).trans kb16).trans kb17).trans kb18).new hl5).trans kb19).trans kb20).trans kb21).trans kb22).trans kb23).new hl6).new hl7).new hl8))⟩
      · exact ⟨_, (eb15.keep ((((((((((((Ext.refl.trans kb16).trans kb17).trans kb18).new hl5).trans kb19).trans kb20).trans kb21).trans kb22).trans kb23).new hl6).new hl7).new hl8))⟩
      · exact ⟨_, (eb16.keep (((((((((((Ext.refl.trans kb17).trans kb18).new hl5).trans kb19).trans kb20).trans kb21).trans kb22).trans kb23).new hl6).new hl7).new hl8))⟩
      · exact ⟨_, (eb17.keep ((((((((((Ext.refl.trans kb18).new hl5).trans kb19).trans kb20).trans kb21).trans kb22).trans kb23).new hl6).new hl7).new hl8))⟩
      · exact ⟨_, (eb18.keep (((((((((Ext.refl.new hl5).trans kb19).trans kb20).trans kb21).trans kb22).trans kb23).new hl6).new hl7).new hl8))⟩
      · exact ⟨_, (eb19.keep (((((((Ext.refl.trans kb20).trans kb21).trans kb22).trans kb23).new hl6).new hl7).new hl8))⟩
      · exact ⟨_, (eb20.keep ((((((Ext.refl.trans kb21).trans kb22).trans kb23).new hl6).new hl7).new hl8))⟩
      · exact ⟨_, (eb21.keep (((((Ext.refl.trans kb22).trans kb23).new hl6).new hl7).new hl8))⟩
      · exact ⟨_, (eb22.keep ((((Ext.refl.trans kb23).new hl6).new hl7).new hl8))⟩
      · exact ⟨_, (eb23.keep (((Ext.refl.new hl6).new hl7).new hl8))⟩
    walk_at "lw go"
    refine ⟨l7, (fun i => ([b12, b13, b14, b15, b16, b17, b18, b19, b20, b21, b22, b23] : List Addr).getD i 0), _, _, _, _, _, .ref tr, .str tx, .str tx, .ref tr, .str tx, .int d3, .int d2, .int d2, rfl, ((Ext.refl.new hl8).trans kr2) _ _ upd_same, ⟨(eb19.keep ((((((((Ext.refl.trans kb20).trans kb21).trans kb22).trans kb23).new hl6).new hl7).new hl8).trans kr2)), rfl, rfl⟩, ⟨(eb20.keep (((((((Ext.refl.trans kb21).trans kb22).trans kb23).new hl6).new hl7).new hl8).trans kr2)), rfl⟩, ⟨(eb21.keep ((((((Ext.refl.trans kb22).trans kb23).new hl6).new hl7).new hl8).trans kr2)), rfl, rfl⟩, ⟨(eb22.keep (((((Ext.refl.trans kb23).new hl6).new hl7).new hl8).trans kr2)), rfl, rfl⟩, ⟨(eb23.keep ((((Ext.refl.new hl6).new hl7).new hl8).trans kr2)), rfl⟩, fun mkf2 Hkf2 kf2 hkf2 => ?_⟩
    walk_at "lw go"
    refine ne_same (shaped8 ms tx d3 d2 hT) (dp8 hkf2 (sqT_ext ((((((((((((((((((((((((((((((((((((((Ext.refl.trans kb0).trans kb1).trans kb2).trans kb3).trans kb4).trans kb5).trans kb6).trans kb7).trans kb8).trans kb9).new hl1).trans kb10).trans kb11).new hl2).new hl3).new ht1).new ht2).new hl4).trans kr1).trans kf1).trans kb12).trans kb13).trans kb14).trans kb15).trans kb16).trans kb17).trans kb18).new hl5).trans kb19).trans kb20).trans kb21).trans kb22).trans kb23).new hl6).new hl7).new hl8).trans kr2).trans kf2) htr) (sqT_ext ((((((((((((((((((((((((((((((((((((((Ext.refl.trans kb0).trans kb1).trans kb2).trans kb3).trans kb4).trans kb5).trans kb6).trans kb7).trans kb8).trans kb9).new hl1).trans kb10).trans kb11).new hl2).new hl3).new ht1).new ht2).new hl4).trans kr1).trans kf1).trans kb12).trans kb13).trans kb14).trans kb15).trans kb16).trans kb17).trans kb18).new hl5).trans kb19).trans kb20).trans kb21).trans kb22).trans kb23).new hl6).new hl7).new hl8).trans kr2).trans kf2) htr)) (dp8 (((Ext.refl.trans kr2).trans kf2) _ _ upd_same) (sqT_ext ((((((((((((((((((((((((((((((((((((((Ext.refl.trans kb0).trans kb1).trans kb2).trans kb3).trans kb4).trans kb5).trans kb6).trans kb7).trans kb8).trans kb9).new hl1).trans kb10).trans kb11).new hl2).new hl3).new ht1).new ht2).new hl4).trans kr1).trans kf1).trans kb12).trans kb13).trans kb14).trans kb15).trans kb16).trans kb17).trans kb18).new hl5).trans kb19).trans kb20).trans kb21).trans kb22).trans kb23).new hl6).new hl7).new hl8).trans kr2).trans kf2) htr) (sqT_ext ((((((((((((((((((((((((((((((((((((((Ext.refl.trans kb0).trans kb1).trans kb2).trans kb3).trans kb4).trans kb5).trans kb6).trans kb7).trans kb8).trans kb9).new hl1).trans kb10).trans kb11).new hl2).new hl3).new ht1).new ht2).new hl4).trans kr1).trans kf1).trans kb12).trans kb13).trans kb14).trans kb15).trans kb16).trans kb17).trans kb18).new hl5).trans kb19).trans kb20).trans kb21).trans kb22).trans kb23).new hl6).new hl7).new hl8).trans kr2).trans kf2) htr)) ?_
    walk_at "lw go"
    refine mkK2 rfl rfl (ys := [.ref tr, .str tx]) (fun a => rfl) (own_nm G.e (x := "NoRules") (by decide)) (fun f hf => G.e.fld (x := "NoRules") (b := true) (fs := ["path", "why"]) (by decide) hf) rfl fun b24 Hb24 nb24 eb24 kb24 => ?_
    walk_at "lw go"
    refine mkK1 rfl (ys := [.str tx]) (fun a => rfl) (own_nm G.e (x := "NoEdit") (by decide)) (fun f hf => G.e.fld (x := "NoEdit") (b := true) (fs := ["why"]) (by decide) hf) rfl fun b25 Hb25 nb25 eb25 kb25 => ?_
    walk_at "lw go"
    refine mkK2 rfl rfl (ys := [.ref tr, .str tx]) (fun a => rfl) (own_nm G.e (x := "NoBrush") (by decide)) (fun f hf => G.e.fld (x := "NoBrush") (b := true) (fs := ["path", "why"]) (by decide) hf) rfl fun b26 Hb26 nb26 eb26 kb26 => ?_
    walk_at "lw go"
    refine ⟨by show 3 ≤ sizeLine; decide, fun l9 hl9 => ?_⟩
    walk_at "lw go"
    refine g_cat (((((((((((((((Ext.refl.trans kb19).trans kb20).trans kb21).trans kb22).trans kb23).new hl6).new hl7).new hl8).trans kr2).trans kf2).trans kb24).trans kb25).trans kb26).new hl9) _ _ upd_same) (Ext.refl _ _ upd_same) (by show 10 ≤ sizeLine; decide) fun l10 hl10 => ?_
    walk_at "lw go"
    refine mkK2 rfl rfl (ys := [.int d3, .int d2]) (fun a => rfl) (own_nm G.e (x := "NoText") (by decide)) (fun f hf => G.e.fld (x := "NoText") (b := true) (fs := ["row", "spot"]) (by decide) hf) rfl fun b27 Hb27 nb27 eb27 kb27 => ?_
    walk_at "lw go"
    refine mkK1 rfl (ys := [.int d2]) (fun a => rfl) (own_nm G.e (x := "NoSuch") (by decide)) (fun f hf => G.e.fld (x := "NoSuch") (b := true) (fs := ["number"]) (by decide) hf) rfl fun b28 Hb28 nb28 eb28 kb28 => ?_
    walk_at "lw go"
    refine ⟨by show 2 ≤ sizeLine; decide, fun l11 hl11 => ?_⟩
    walk_at "lw go"
    refine g_cat ((((Ext.refl.trans kb27).trans kb28).new hl11) _ _ upd_same) (Ext.refl _ _ upd_same) (by show 12 ≤ sizeLine; decide) fun l12 hl12 => ?_
    walk_at "lw go"
    refine ⟨l12, (fun i => ([b12, b13, b14, b15, b16, b17, b18, b24, b25, b26, b27, b28] : List Addr).getD i 0), rfl, Ext.refl _ _ upd_same, fun i hi => ?_, fun Hkr3 kr3 => ?_⟩
    · rcases twelve hi with rfl | rfl | rfl | rfl | rfl | rfl | rfl | rfl | rfl | rfl | rfl | rfl
      · exact ⟨_, (eb12.keep ((((((((((((((((((((((((((Ext.refl.trans kb13).trans kb14).trans kb15).trans kb16).trans kb17).trans kb18).new hl5).trans kb19).trans kb20).trans kb21).trans kb22).trans kb23).new hl6).new hl7).new hl8).trans kr2).trans kf2).trans kb24).trans kb25).trans kb26).new hl9).new hl10).trans kb27).trans kb28).new hl11).new hl12))⟩
      · exact ⟨_, (eb13.keep (((((((((((((((((((((((((Ext.refl.trans kb14).trans kb15).trans kb16).trans kb17).trans kb18).new hl5).trans kb19).trans kb20).trans kb21).trans kb22).trans kb23).new hl6).new hl7).new hl8).trans kr2).trans kf2).trans kb24).trans kb25).trans kb26).new hl9).new hl10).trans kb27).trans kb28).new hl11).new hl12))⟩
      · exact ⟨_, (eb14.keep ((((((((((((((((((((((((Ext.refl.trans kb15).trans kb16).trans kb17).trans kb18).new hl5).trans kb19).trans kb20).trans kb21).trans kb22).trans kb23).new hl6).new hl7).new hl8).trans kr2).trans kf2).trans kb24).trans kb25).trans kb26).new hl9).new hl10).trans kb27).trans kb28).new hl11).new hl12))⟩
      · exact ⟨_, (eb15.keep (((((((((((((((((((((((Ext.refl.trans kb16).trans kb17).trans kb18).new hl5).trans kb19).trans kb20).trans kb21).trans kb22).trans kb23).new hl6).new hl7).new hl8).trans kr2).trans kf2).trans kb24).trans kb25).trans kb26).new hl9).new hl10).trans kb27).trans kb28).new hl11).new hl12))⟩
      · exact ⟨_, (eb16.keep ((((((((((((((((((((((Ext.refl.trans kb17).trans kb18).new hl5).trans kb19).trans kb20).trans kb21).trans kb22).trans kb23).new hl6).new hl7).new hl8).trans kr2).trans kf2).trans kb24).trans kb25).trans kb26).new hl9).new hl10).trans kb27).trans kb28).new hl11).new hl12))⟩
      · exact ⟨_, (eb17.keep (((((((((((((((((((((Ext.refl.trans kb18).new hl5).trans kb19).trans kb20).trans kb21).trans kb22).trans kb23).new hl6).new hl7).new hl8).trans kr2).trans kf2).trans kb24).trans kb25).trans kb26).new hl9).new hl10).trans kb27).trans kb28).new hl11).new hl12))⟩
      · exact ⟨_, (eb18.keep ((((((((((((((((((((Ext.refl.new hl5).trans kb19).trans kb20).trans kb21).trans kb22).trans kb23).new hl6).new hl7).new hl8).trans kr2).trans kf2).trans kb24).trans kb25).trans kb26).new hl9).new hl10).trans kb27).trans kb28).new hl11).new hl12))⟩
      · exact ⟨_, (eb24.keep ((((((((Ext.refl.trans kb25).trans kb26).new hl9).new hl10).trans kb27).trans kb28).new hl11).new hl12))⟩
      · exact ⟨_, (eb25.keep (((((((Ext.refl.trans kb26).new hl9).new hl10).trans kb27).trans kb28).new hl11).new hl12))⟩
      · exact ⟨_, (eb26.keep ((((((Ext.refl.new hl9).new hl10).trans kb27).trans kb28).new hl11).new hl12))⟩
      · exact ⟨_, (eb27.keep (((Ext.refl.trans kb28).new hl11).new hl12))⟩
      · exact ⟨_, (eb28.keep ((Ext.refl.new hl11).new hl12))⟩
    walk_at "lw go"
    refine ⟨l12, (fun i => ([b12, b13, b14, b15, b16, b17, b18, b24, b25, b26, b27, b28] : List Addr).getD i 0), _, _, _, _, _, .ref tr, .str tx, .str tx, .ref tr, .str tx, .int d3, .int d2, .int d2, rfl, (Ext.refl.trans kr3) _ _ upd_same, ⟨(eb24.keep (((((((((Ext.refl.trans kb25).trans kb26).new hl9).new hl10).trans kb27).trans kb28).new hl11).new hl12).trans kr3)), rfl, rfl⟩, ⟨(eb25.keep ((((((((Ext.refl.trans kb26).new hl9).new hl10).trans kb27).trans kb28).new hl11).new hl12).trans kr3)), rfl⟩, ⟨(eb26.keep (((((((Ext.refl.new hl9).new hl10).trans kb27).trans kb28).new hl11).new hl12).trans kr3)), rfl, rfl⟩, ⟨(eb27.keep ((((Ext.refl.trans kb28).new hl11).new hl12).trans kr3)), rfl, rfl⟩, ⟨(eb28.keep (((Ext.refl.new hl11).new hl12).trans kr3)), rfl⟩, fun mkf3 Hkf3 kf3 hkf3 => ?_⟩
    walk_at "lw go"
    refine ne_same (shaped8 ms tx d3 d2 hT) (dp8 hkf3 (sqT_ext (((((((((((((((((((((((((((((((((((((((((((((((((Ext.refl.trans kb0).trans kb1).trans kb2).trans kb3).trans kb4).trans kb5).trans kb6).trans kb7).trans kb8).trans kb9).new hl1).trans kb10).trans kb11).new hl2).new hl3).new ht1).new ht2).new hl4).trans kr1).trans kf1).trans kb12).trans kb13).trans kb14).trans kb15).trans kb16).trans kb17).trans kb18).new hl5).trans kb19).trans kb20).trans kb21).trans kb22).trans kb23).new hl6).new hl7).new hl8).trans kr2).trans kf2).trans kb24).trans kb25).trans kb26).new hl9).new hl10).trans kb27).trans kb28).new hl11).new hl12).trans kr3).trans kf3) htr) (sqT_ext (((((((((((((((((((((((((((((((((((((((((((((((((Ext.refl.trans kb0).trans kb1).trans kb2).trans kb3).trans kb4).trans kb5).trans kb6).trans kb7).trans kb8).trans kb9).new hl1).trans kb10).trans kb11).new hl2).new hl3).new ht1).new ht2).new hl4).trans kr1).trans kf1).trans kb12).trans kb13).trans kb14).trans kb15).trans kb16).trans kb17).trans kb18).new hl5).trans kb19).trans kb20).trans kb21).trans kb22).trans kb23).new hl6).new hl7).new hl8).trans kr2).trans kf2).trans kb24).trans kb25).trans kb26).new hl9).new hl10).trans kb27).trans kb28).new hl11).new hl12).trans kr3).trans kf3) htr)) (dp8 ((((((((((((((Ext.refl.trans kr2).trans kf2).trans kb24).trans kb25).trans kb26).new hl9).new hl10).trans kb27).trans kb28).new hl11).new hl12).trans kr3).trans kf3) _ _ upd_same) (sqT_ext (((((((((((((((((((((((((((((((((((((((((((((((((Ext.refl.trans kb0).trans kb1).trans kb2).trans kb3).trans kb4).trans kb5).trans kb6).trans kb7).trans kb8).trans kb9).new hl1).trans kb10).trans kb11).new hl2).new hl3).new ht1).new ht2).new hl4).trans kr1).trans kf1).trans kb12).trans kb13).trans kb14).trans kb15).trans kb16).trans kb17).trans kb18).new hl5).trans kb19).trans kb20).trans kb21).trans kb22).trans kb23).new hl6).new hl7).new hl8).trans kr2).trans kf2).trans kb24).trans kb25).trans kb26).new hl9).new hl10).trans kb27).trans kb28).new hl11).new hl12).trans kr3).trans kf3) htr) (sqT_ext (((((((((((((((((((((((((((((((((((((((((((((((((Ext.refl.trans kb0).trans kb1).trans kb2).trans kb3).trans kb4).trans kb5).trans kb6).trans kb7).trans kb8).trans kb9).new hl1).trans kb10).trans kb11).new hl2).new hl3).new ht1).new ht2).new hl4).trans kr1).trans kf1).trans kb12).trans kb13).trans kb14).trans kb15).trans kb16).trans kb17).trans kb18).new hl5).trans kb19).trans kb20).trans kb21).trans kb22).trans kb23).new hl6).new hl7).new hl8).trans kr2).trans kf2).trans kb24).trans kb25).trans kb26).new hl9).new hl10).trans kb27).trans kb28).new hl11).new hl12).trans kr3).trans kf3) htr)) ?_
    walk_at "lw go"
    refine ⟨l3, (fun i => ([b0, b1, b2, b3, b4, b5, b6, b7, b8, b9, b10, b11] : List Addr).getD i 0), _, _, _, _, _, .ref (He.dflAt ("NoRules", some "__init__") 0 K), .str "", .str "", .ref (He.dflAt ("NoBrush", some "__init__") 0 K), .str "", .int 0, .int 0, .int 0, rfl, ((((((((((((((((((((((((((((((((((Ext.refl.new ht1).new ht2).new hl4).trans kr1).trans kf1).trans kb12).trans kb13).trans kb14).trans kb15).trans kb16).trans kb17).trans kb18).new hl5).trans kb19).trans kb20).trans kb21).trans kb22).trans kb23).new hl6).new hl7).new hl8).trans kr2).trans kf2).trans kb24).trans kb25).trans kb26).new hl9).new hl10).trans kb27).trans kb28).new hl11).new hl12).trans kr3).trans kf3) _ _ upd_same, ⟨(eb7.keep (((((((((((((((((((((((((((((((((((((((((Ext.refl.trans kb8).trans kb9).new hl1).trans kb10).trans kb11).new hl2).new hl3).new ht1).new ht2).new hl4).trans kr1).trans kf1).trans kb12).trans kb13).trans kb14).trans kb15).trans kb16).trans kb17).trans kb18).new hl5).trans kb19).trans kb20).trans kb21).trans kb22).trans kb23).new hl6).new hl7).new hl8).trans kr2).trans kf2).trans kb24).trans kb25).trans kb26).new hl9).new hl10).trans kb27).trans kb28).new hl11).new hl12).trans kr3).trans kf3)), rfl, rfl⟩, ⟨(eb8.keep ((((((((((((((((((((((((((((((((((((((((Ext.refl.trans kb9).new hl1).trans kb10).trans kb11).new hl2).new hl3).new ht1).new ht2).new hl4).trans kr1).trans kf1).trans kb12).trans kb13).trans kb14).trans kb15).trans kb16).trans kb17).trans kb18).new hl5).trans kb19).trans kb20).trans kb21).trans kb22).trans kb23).new hl6).new hl7).new hl8).trans kr2).trans kf2).trans kb24).trans kb25).trans kb26).new hl9).new hl10).trans kb27).trans kb28).new hl11).new hl12).trans kr3).trans kf3)), rfl⟩, ⟨(eb9.keep (((((((((((((((((((((((((((((((((((((((Ext.refl.new hl1).trans kb10).trans kb11).new hl2).new hl3).new ht1).new ht2).new hl4).trans kr1).trans kf1).trans kb12).trans kb13).trans kb14).trans kb15).trans kb16).trans kb17).trans kb18).new hl5).trans kb19).trans kb20).trans kb21).trans kb22).trans kb23).new hl6).new hl7).new hl8).trans kr2).trans kf2).trans kb24).trans kb25).trans kb26).new hl9).new hl10).trans kb27).trans kb28).new hl11).new hl12).trans kr3).trans kf3)), rfl, rfl⟩, ⟨(eb10.keep (((((((((((((((((((((((((((((((((((((Ext.refl.trans kb11).new hl2).new hl3).new ht1).new ht2).new hl4).trans kr1).trans kf1).trans kb12).trans kb13).trans kb14).trans kb15).trans kb16).trans kb17).trans kb18).new hl5).trans kb19).trans kb20).trans kb21).trans kb22).trans kb23).new hl6).new hl7).new hl8).trans kr2).trans kf2).trans kb24).trans kb25).trans kb26).new hl9).new hl10).trans kb27).trans kb28).new hl11).new hl12).trans kr3).trans kf3)), rfl, rfl⟩, ⟨(eb11.keep ((((((((((((((((((((((((((((((((((((Ext.refl.new hl2).new hl3).new ht1).new ht2).new hl4).trans kr1).trans kf1).trans kb12).trans kb13).trans kb14).trans kb15).trans kb16).trans kb17).trans kb18).new hl5).trans kb19).trans kb20).trans kb21).trans kb22).trans kb23).new hl6).new hl7).new hl8).trans kr2).trans kf2).trans kb24).trans kb25).trans kb26).new hl9).new hl10).trans kb27).trans kb28).new hl11).new hl12).trans kr3).trans kf3)), rfl⟩, fun mkf4 Hkf4 kf4 hkf4 => ?_⟩
    walk_at "lw go"
    refine ne_same (shaped8 [] "" 0 0 (by decide +kernel)) (dp8 hkf4 (G.n1 _) (G.n2 _)) (dp8 (((((((((((((((((((((((((((((((((Ext.refl.trans kr1).trans kf1).trans kb12).trans kb13).trans kb14).trans kb15).trans kb16).trans kb17).trans kb18).new hl5).trans kb19).trans kb20).trans kb21).trans kb22).trans kb23).new hl6).new hl7).new hl8).trans kr2).trans kf2).trans kb24).trans kb25).trans kb26).new hl9).new hl10).trans kb27).trans kb28).new hl11).new hl12).trans kr3).trans kf3).trans kf4) _ _ upd_same) (SqT.of (((((((((((((((((((((((((((((((((((Ext.refl.new ht2).new hl4).trans kr1).trans kf1).trans kb12).trans kb13).trans kb14).trans kb15).trans kb16).trans kb17).trans kb18).new hl5).trans kb19).trans kb20).trans kb21).trans kb22).trans kb23).new hl6).new hl7).new hl8).trans kr2).trans kf2).trans kb24).trans kb25).trans kb26).new hl9).new hl10).trans kb27).trans kb28).new hl11).new hl12).trans kr3).trans kf3).trans kf4) _ _ upd_same)) (SqT.of ((((((((((((((((((((((((((((((((((Ext.refl.new hl4).trans kr1).trans kf1).trans kb12).trans kb13).trans kb14).trans kb15).trans kb16).trans kb17).trans kb18).new hl5).trans kb19).trans kb20).trans kb21).trans kb22).trans kb23).new hl6).new hl7).new hl8).trans kr2).trans kf2).trans kb24).trans kb25).trans kb26).new hl9).new hl10).trans kb27).trans kb28).new hl11).new hl12).trans kr3).trans kf3).trans kf4) _ _ upd_same))) ?_
    walk_at "lw go"
    refine mkP0 fun b29 Hb29 nb29 eb29 kb29 => ?_
    walk_at "lw go"
    refine ⟨b29, "LandError", _, rfl, by decide, (eb29.keep Ext.refl), fun ls Hls kls hls => ?_⟩
    walk_at "lw go"
    refine ⟨ls, sortsL "LandError", rfl, .inl (SqL.of hls), rfl, by decide +kernel, bl_is (c := false) (by decide +kernel) ?_⟩
    walk_at "lw go"
    refine mkP1 rfl fun b30 Hb30 nb30 eb30 kb30 => ?_
    walk_at "lw go"
    refine ⟨b30, "LandError", _, rfl, by decide, (eb30.keep Ext.refl), fun lk Hlk klk hlk => ?_⟩
    walk_at "lw go"
    refine ⟨by show 3 ≤ sizeLine; decide, fun l13 hl13 => ?_⟩
    walk_at "lw go"
    refine ne_same (d := datB [true, true, false]) (by decide +kernel) (dp_row ((Ext.refl.new hl13) _ _ hlk)) (dp_row upd_same) ?_
    walk_at "lw go"
    refine g_fx ?_
    refine mkI1 rfl (own_nm G.e (x := "NoRules") (by decide)) (fun f hf => G.e.fld (x := "NoRules") (b := true) (fs := ["path", "why"]) (by decide) hf) rfl fun b31 Hb31 nb31 eb31 kb31 => ?_
    refine ⟨b31, _, _, .str "", rfl, (own_nm G.e (x := "NoRules") (by decide)), (G.e.fld (x := "NoRules") (f := "why") (b := true) (fs := ["path", "why"]) (by decide) (by decide)), eb31, rfl, ?_⟩
    walk_at "lw go"
    refine g_fx ?_
    refine mkI1 rfl (own_nm G.e (x := "NoText") (by decide)) (fun f hf => G.e.fld (x := "NoText") (b := true) (fs := ["row", "spot"]) (by decide) hf) rfl fun b32 Hb32 nb32 eb32 kb32 => ?_
    refine ⟨b32, _, _, .int 0, rfl, (own_nm G.e (x := "NoText") (by decide)), (G.e.fld (x := "NoText") (f := "spot") (b := true) (fs := ["row", "spot"]) (by decide) (by decide)), eb32, rfl, ?_⟩
    walk_at "lw go"
    refine g_fx ?_
    refine mkK1 rfl (ys := [.ref (He.dflAt ("NoBrush", some "__init__") 0 K), .str tx]) (fun a => rfl) (own_nm G.e (x := "NoBrush") (by decide)) (fun f hf => G.e.fld (x := "NoBrush") (b := true) (fs := ["path", "why"]) (by decide) hf) rfl fun b33 Hb33 nb33 eb33 kb33 => ?_
    refine ⟨b33, _, _, .ref (He.dflAt ("NoBrush", some "__init__") 0 K), rfl, (own_nm G.e (x := "NoBrush") (by decide)), (G.e.fld (x := "NoBrush") (f := "path") (b := true) (fs := ["path", "why"]) (by decide) (by decide)), eb33, rfl, ?_⟩
    walk_at "lw go"
    refine ⟨by show 3 ≤ sizeLine; decide, fun l14 hl14 => ?_⟩
    walk_at "lw go"
    refine ⟨by show 0 ≤ sizeLine; decide, fun t3 ht3 => ?_⟩
    walk_at "lw go"
    refine ⟨by show 3 ≤ sizeLine; decide, fun l15 hl15 => ?_⟩
    refine eq_same (d := .list [.str "", .int 0, .tuple []]) (by decide +kernel) (.lst (SqL.of (((Ext.refl.new ht3).new hl15) _ _ upd_same)) (.cons (.str _) (.cons (.int _) (.cons (.tup (G.n2 _) .nil) .nil)))) (.lst (SqL.of upd_same) (.cons (.str _) (.cons (.int _) (.cons (.tup (SqT.of ((Ext.refl.new hl15) _ _ upd_same)) .nil) .nil)))) (q _)
end
end K80

namespace K80
open PySem PySem.Spec PyProof.Rows L2 Lw Ec
theorem nil_ok {K : PySem.W.Frag} {a : Addr} (h : nilB K a = true) (H : Hp) : SqT K H a [] := by
  unfold nilB at h
  split at h
  · rename_i dd its n sl hl
    obtain ⟨l⟩ := its
    cases l with
    | nil => exact .inr ⟨_, #[], n, hl, rfl, rfl, Nat.zero_le _, .nil⟩
    | cons x xs => cases h
  · cases h
theorem vals_take {n : Nat} : ∀ {vs : List V} {us : List Value}, Vals vs us → Vals (vs.take n) (us.take n) := by
  induction n with
  | zero => intro _ _ _; exact .nil
  | succ n ih =>
    intro vs us r
    cases r with
    | nil => exact .nil
    | cons a b => exact .cons a (ih b)
theorem facts {P : Program} {w : World} {K : PySem.W.Frag} {h : Heap} {mg : Str → Option Value} {f : Addr} (X : K.In h) (G : h.Ns mainGlobals mg) (hfa : mg ("law" : Str) = some (.ref f)) (c : He.SaysX fa fn [] [] ex w h K) :
    ∃ fd : FuncData, (∀ (s : Shared) (v : Value), BindsTo s fd ⟨[v], []⟩ [("_law_script", v)]) ∧ ∀ base : Heap, K.In base → base.Ns mainGlobals mg → FnOk P w K mg base CX0 3 f fd ["_law_script"] (spLaw K) := by
  have cd : He.SaysD fa fn K := c.t.d
  obtain ⟨x1, x2⟩ := Bool.and_eq_true_iff.mp c.more
  obtain ⟨x2, x3⟩ := Bool.and_eq_true_iff.mp x2
  have Er := errs_of x1
  have g_LandError := He.glo_ok X G (cd.fact 0 (f := .glo "LandError") rfl)
  have g_NoRules := He.glo_ok X G (cd.fact 1 (f := .glo "NoRules") rfl)
  have g_NoBox := He.glo_ok X G (cd.fact 2 (f := .glo "NoBox") rfl)
  have g_NoPoint := He.glo_ok X G (cd.fact 3 (f := .glo "NoPoint") rfl)
  have g_NoLevel := He.glo_ok X G (cd.fact 4 (f := .glo "NoLevel") rfl)
  have g_NoCount := He.glo_ok X G (cd.fact 5 (f := .glo "NoCount") rfl)
  have g_NoEdit := He.glo_ok X G (cd.fact 6 (f := .glo "NoEdit") rfl)
  have g_Full := He.glo_ok X G (cd.fact 7 (f := .glo "Full") rfl)
  have g_NoDeed := He.glo_ok X G (cd.fact 8 (f := .glo "NoDeed") rfl)
  have g_NoBrush := He.glo_ok X G (cd.fact 9 (f := .glo "NoBrush") rfl)
  have g_NoText := He.glo_ok X G (cd.fact 10 (f := .glo "NoText") rfl)
  have g_NoLine := He.glo_ok X G (cd.fact 11 (f := .glo "NoLine") rfl)
  have g_NoSuch := He.glo_ok X G (cd.fact 12 (f := .glo "NoSuch") rfl)
  have g_law_mixed := He.glo_ok X G (cd.fact 13 (f := .glo "_law_mixed") rfl)
  have g_law_purse := He.glo_ok X G (cd.fact 14 (f := .glo "_law_purse") rfl)
  have g_law_draw := He.glo_ok X G (cd.fact 15 (f := .glo "_law_draw") rfl)
  have g_law_sorts := He.glo_ok X G (cd.fact 16 (f := .glo "_law_sorts") rfl)
  have g_law_kinds := He.glo_ok X G (cd.fact 17 (f := .glo "_law_kinds") rfl)
  have g_law_row_right := He.glo_ok X G (cd.fact 18 (f := .glo "_law_row_right") rfl)
  have g_law_fields := He.glo_ok X G (cd.fact 19 (f := .glo "_law_fields") rfl)
  have g_law := He.glo_ok X G (cd.fact 20 (f := .glo "law") rfl)
  have T : Bi mg := ⟨He.free_ok X G (cd.fact 21 (f := .free "sum") rfl), He.free_ok X G (cd.fact 22 (f := .free "max") rfl), He.free_ok X G (cd.fact 23 (f := .free "range") rfl), He.free_ok X G (cd.fact 24 (f := .free "isinstance") rfl), He.free_ok X G (cd.fact 25 (f := .free "ValueError") rfl), He.free_ok X G (cd.fact 26 (f := .free "KeyError") rfl), He.free_ok X G (cd.fact 27 (f := .free "enumerate") rfl)⟩
  obtain ⟨fd_NoRules, F_NoRules⟩ := cd.def_ 0 rfl
  obtain ⟨fd_NoEdit, F_NoEdit⟩ := cd.def_ 1 rfl
  obtain ⟨fd_NoBrush, F_NoBrush⟩ := cd.def_ 2 rfl
  obtain ⟨fd_NoText, F_NoText⟩ := cd.def_ 3 rfl
  obtain ⟨fd_NoSuch, F_NoSuch⟩ := cd.def_ 4 rfl
  obtain ⟨fd_law_mixed, F_law_mixed⟩ := cd.def_ 5 (d := dn "_law_mixed" 15) rfl
  obtain ⟨fd_law_purse, F_law_purse⟩ := cd.def_ 6 (d := dn "_law_purse" 16) rfl
  obtain ⟨fd_law_draw, F_law_draw⟩ := cd.def_ 7 (d := dn "_law_draw" 17) rfl
  obtain ⟨fd_law_sorts, F_law_sorts⟩ := cd.def_ 8 (d := dn "_law_sorts" 18) rfl
  obtain ⟨fd_law_kinds, F_law_kinds⟩ := cd.def_ 9 (d := dn "_law_kinds" 19) rfl
  obtain ⟨fd_law_row_right, F_law_row_right⟩ := cd.def_ 10 (d := dn "_law_row_right" 20) rfl
  obtain ⟨fd_law_fields, F_law_fields⟩ := cd.def_ 11 (d := dn "_law_fields" 21) rfl
  obtain ⟨fd_law, F_law⟩ := cd.def_ 12 (d := dn "law" 22) rfl
  have e := hfa.symm.trans g_law
  cases e
  refine ⟨fd_law, fun s v => FunD.bindsA (ps := ["_law_script"]) F_law (fun _ _ _ _ _ _ us hl => match us, hl with | [_], _ => rfl) s [v] rfl, fun base _ _ => ?_⟩
  obtain ⟨ds_NoRules_0, hd_NoRules_0, hb_NoRules_0⟩ := F_NoRules.binds1 (ps := ["self", "path", "why"]) 1 0 (by intro z; cases z) rfl (fun T kV doc pm an cdv ct us its hu hi => match us, its, hu, hi with | [_], [_, _], _, _ => ⟨_, rfl, rfl⟩)
  obtain ⟨ds_NoRules_1, hd_NoRules_1, hb_NoRules_1⟩ := F_NoRules.binds1 (ps := ["self", "path", "why"]) 2 1 (by intro z; cases z) rfl (fun T kV doc pm an cdv ct us its hu hi => match us, its, hu, hi with | [_, _], [_, _], _, _ => ⟨_, rfl, rfl⟩)
  obtain ⟨ds_NoRules_2, hd_NoRules_2, hb_NoRules_2⟩ := F_NoRules.binds1 (ps := ["self", "path", "why"]) 3 2 (by intro z; cases z) rfl (fun T kV doc pm an cdv ct us its hu hi => match us, its, hu, hi with | [_, _, _], [_, _], _, _ => ⟨_, rfl, rfl⟩)
  obtain ⟨ds_NoEdit_0, hd_NoEdit_0, hb_NoEdit_0⟩ := F_NoEdit.binds1 (ps := ["self", "why"]) 1 0 (by intro z; cases z) rfl (fun T kV doc pm an cdv ct us its hu hi => match us, its, hu, hi with | [_], [_], _, _ => ⟨_, rfl, rfl⟩)
  obtain ⟨ds_NoEdit_1, hd_NoEdit_1, hb_NoEdit_1⟩ := F_NoEdit.binds1 (ps := ["self", "why"]) 2 1 (by intro z; cases z) rfl (fun T kV doc pm an cdv ct us its hu hi => match us, its, hu, hi with | [_, _], [_], _, _ => ⟨_, rfl, rfl⟩)
  obtain ⟨ds_NoBrush_0, hd_NoBrush_0, hb_NoBrush_0⟩ := F_NoBrush.binds1 (ps := ["self", "path", "why"]) 1 0 (by intro z; cases z) rfl (fun T kV doc pm an cdv ct us its hu hi => match us, its, hu, hi with | [_], [_, _], _, _ => ⟨_, rfl, rfl⟩)
  obtain ⟨ds_NoBrush_2, hd_NoBrush_2, hb_NoBrush_2⟩ := F_NoBrush.binds1 (ps := ["self", "path", "why"]) 3 2 (by intro z; cases z) rfl (fun T kV doc pm an cdv ct us its hu hi => match us, its, hu, hi with | [_, _, _], [_, _], _, _ => ⟨_, rfl, rfl⟩)
  obtain ⟨ds_NoText_0, hd_NoText_0, hb_NoText_0⟩ := F_NoText.binds1 (ps := ["self", "row", "spot"]) 1 0 (by intro z; cases z) rfl (fun T kV doc pm an cdv ct us its hu hi => match us, its, hu, hi with | [_], [_, _], _, _ => ⟨_, rfl, rfl⟩)
  obtain ⟨ds_NoText_1, hd_NoText_1, hb_NoText_1⟩ := F_NoText.binds1 (ps := ["self", "row", "spot"]) 2 1 (by intro z; cases z) rfl (fun T kV doc pm an cdv ct us its hu hi => match us, its, hu, hi with | [_, _], [_, _], _, _ => ⟨_, rfl, rfl⟩)
  obtain ⟨ds_NoText_2, hd_NoText_2, hb_NoText_2⟩ := F_NoText.binds1 (ps := ["self", "row", "spot"]) 3 2 (by intro z; cases z) rfl (fun T kV doc pm an cdv ct us its hu hi => match us, its, hu, hi with | [_, _, _], [_, _], _, _ => ⟨_, rfl, rfl⟩)
  obtain ⟨ds_NoSuch_0, hd_NoSuch_0, hb_NoSuch_0⟩ := F_NoSuch.binds1 (ps := ["self", "number"]) 1 0 (by intro z; cases z) rfl (fun T kV doc pm an cdv ct us its hu hi => match us, its, hu, hi with | [_], [_], _, _ => ⟨_, rfl, rfl⟩)
  obtain ⟨ds_NoSuch_1, hd_NoSuch_1, hb_NoSuch_1⟩ := F_NoSuch.binds1 (ps := ["self", "number"]) 2 1 (by intro z; cases z) rfl (fun T kV doc pm an cdv ct us its hu hi => match us, its, hu, hi with | [_, _], [_], _, _ => ⟨_, rfl, rfl⟩)
  obtain ⟨gg_NoRules_why_path, hk_NoRules_why_path⟩ := kb_dfl (ps := ["self", "path", "why"]) (ks := ["why", "path"]) (fun {_} => fun us ws ds => us ++ ws.reverse) 1 2 F_NoRules (by intro z; cases z) (by decide) (fun r1 r2 r3 => r1.append (vals_rev r2)) (fun T kV doc pm an cdv ct us ws its hu hw hi => match us, ws, its, hu, hw, hi with | [_], [_, _], [_, _], _, _, _ => ⟨_, rfl, rfl⟩)
  obtain ⟨gg_NoEdit_why, hk_NoEdit_why⟩ := kb_dfl (ps := ["self", "why"]) (ks := ["why"]) (fun {_} => fun us ws ds => us ++ ws) 1 1 F_NoEdit (by intro z; cases z) (by decide) (fun r1 r2 r3 => r1.append r2) (fun T kV doc pm an cdv ct us ws its hu hw hi => match us, ws, its, hu, hw, hi with | [_], [_], [_], _, _, _ => ⟨_, rfl, rfl⟩)
  obtain ⟨gg_NoBrush_why_path, hk_NoBrush_why_path⟩ := kb_dfl (ps := ["self", "path", "why"]) (ks := ["why", "path"]) (fun {_} => fun us ws ds => us ++ ws.reverse) 1 2 F_NoBrush (by intro z; cases z) (by decide) (fun r1 r2 r3 => r1.append (vals_rev r2)) (fun T kV doc pm an cdv ct us ws its hu hw hi => match us, ws, its, hu, hw, hi with | [_], [_, _], [_, _], _, _, _ => ⟨_, rfl, rfl⟩)
  obtain ⟨gg_NoBrush_why, hk_NoBrush_why⟩ := kb_dfl (ps := ["self", "path", "why"]) (ks := ["why"]) (fun {_} => fun us ws ds => us ++ (ds.take 1 ++ ws)) 1 1 F_NoBrush (by intro z; cases z) (by decide) (fun r1 r2 r3 => r1.append ((vals_take r3).append r2)) (fun T kV doc pm an cdv ct us ws its hu hw hi => match us, ws, its, hu, hw, hi with | [_], [_], [_, _], _, _, _ => ⟨_, rfl, rfl⟩)
  obtain ⟨gg_NoText_spot_row, hk_NoText_spot_row⟩ := kb_dfl (ps := ["self", "row", "spot"]) (ks := ["spot", "row"]) (fun {_} => fun us ws ds => us ++ ws.reverse) 1 2 F_NoText (by intro z; cases z) (by decide) (fun r1 r2 r3 => r1.append (vals_rev r2)) (fun T kV doc pm an cdv ct us ws its hu hw hi => match us, ws, its, hu, hw, hi with | [_], [_, _], [_, _], _, _, _ => ⟨_, rfl, rfl⟩)
  obtain ⟨gg_NoSuch_number, hk_NoSuch_number⟩ := kb_dfl (ps := ["self", "number"]) (ks := ["number"]) (fun {_} => fun us ws ds => us ++ ws) 1 1 F_NoSuch (by intro z; cases z) (by decide) (fun r1 r2 r3 => r1.append r2) (fun T kV doc pm an cdv ct us ws its hu hw hi => match us, ws, its, hu, hw, hi with | [_], [_], [_], _, _, _ => ⟨_, rfl, rfl⟩)
  have GG : Gs P w K mg base := {
    e := Er
    g_LandError := g_LandError
    p_LandError := Er.plain (x := "LandError") (fs := []) (by decide)
    g_NoRules := g_NoRules
    g_NoBox := g_NoBox
    p_NoBox := Er.plain (x := "NoBox") (fs := []) (by decide)
    g_NoPoint := g_NoPoint
    p_NoPoint := Er.plain (x := "NoPoint") (fs := []) (by decide)
    g_NoLevel := g_NoLevel
    p_NoLevel := Er.plain (x := "NoLevel") (fs := []) (by decide)
    g_NoCount := g_NoCount
    p_NoCount := Er.plain (x := "NoCount") (fs := []) (by decide)
    g_NoEdit := g_NoEdit
    g_Full := g_Full
    p_Full := Er.plain (x := "Full") (fs := []) (by decide)
    g_NoDeed := g_NoDeed
    p_NoDeed := Er.plain (x := "NoDeed") (fs := []) (by decide)
    g_NoBrush := g_NoBrush
    g_NoText := g_NoText
    g_NoLine := g_NoLine
    p_NoLine := Er.plain (x := "NoLine") (fs := []) (by decide)
    g_NoSuch := g_NoSuch
    m_NoRules_0 := ⟨fd_NoRules, _, ds_NoRules_0, g_NoRules, Er.init (x := "NoRules") (fs := ["path", "why"]) (by decide), ok_NoRules F_NoRules, hb_NoRules_0, hd_NoRules_0⟩
    m_NoRules_1 := ⟨fd_NoRules, _, ds_NoRules_1, g_NoRules, Er.init (x := "NoRules") (fs := ["path", "why"]) (by decide), ok_NoRules F_NoRules, hb_NoRules_1, hd_NoRules_1⟩
    m_NoRules_2 := ⟨fd_NoRules, _, ds_NoRules_2, g_NoRules, Er.init (x := "NoRules") (fs := ["path", "why"]) (by decide), ok_NoRules F_NoRules, hb_NoRules_2, hd_NoRules_2⟩
    m_NoEdit_0 := ⟨fd_NoEdit, _, ds_NoEdit_0, g_NoEdit, Er.init (x := "NoEdit") (fs := ["why"]) (by decide), ok_NoEdit F_NoEdit, hb_NoEdit_0, hd_NoEdit_0⟩
    m_NoEdit_1 := ⟨fd_NoEdit, _, ds_NoEdit_1, g_NoEdit, Er.init (x := "NoEdit") (fs := ["why"]) (by decide), ok_NoEdit F_NoEdit, hb_NoEdit_1, hd_NoEdit_1⟩
    m_NoBrush_0 := ⟨fd_NoBrush, _, ds_NoBrush_0, g_NoBrush, Er.init (x := "NoBrush") (fs := ["path", "why"]) (by decide), ok_NoBrush F_NoBrush, hb_NoBrush_0, hd_NoBrush_0⟩
    m_NoBrush_2 := ⟨fd_NoBrush, _, ds_NoBrush_2, g_NoBrush, Er.init (x := "NoBrush") (fs := ["path", "why"]) (by decide), ok_NoBrush F_NoBrush, hb_NoBrush_2, hd_NoBrush_2⟩
    m_NoText_0 := ⟨fd_NoText, _, ds_NoText_0, g_NoText, Er.init (x := "NoText") (fs := ["row", "spot"]) (by decide), ok_NoText F_NoText, hb_NoText_0, hd_NoText_0⟩
    m_NoText_1 := ⟨fd_NoText, _, ds_NoText_1, g_NoText, Er.init (x := "NoText") (fs := ["row", "spot"]) (by decide), ok_NoText F_NoText, hb_NoText_1, hd_NoText_1⟩
    m_NoText_2 := ⟨fd_NoText, _, ds_NoText_2, g_NoText, Er.init (x := "NoText") (fs := ["row", "spot"]) (by decide), ok_NoText F_NoText, hb_NoText_2, hd_NoText_2⟩
    m_NoSuch_0 := ⟨fd_NoSuch, _, ds_NoSuch_0, g_NoSuch, Er.init (x := "NoSuch") (fs := ["number"]) (by decide), ok_NoSuch F_NoSuch, hb_NoSuch_0, hd_NoSuch_0⟩
    m_NoSuch_1 := ⟨fd_NoSuch, _, ds_NoSuch_1, g_NoSuch, Er.init (x := "NoSuch") (fs := ["number"]) (by decide), ok_NoSuch F_NoSuch, hb_NoSuch_1, hd_NoSuch_1⟩
    k_NoRules_why_path := ⟨fd_NoRules, _, gg_NoRules_why_path, g_NoRules, Er.init (x := "NoRules") (fs := ["path", "why"]) (by decide), ok_NoRules F_NoRules, hk_NoRules_why_path⟩
    k_NoEdit_why := ⟨fd_NoEdit, _, gg_NoEdit_why, g_NoEdit, Er.init (x := "NoEdit") (fs := ["why"]) (by decide), ok_NoEdit F_NoEdit, hk_NoEdit_why⟩
    k_NoBrush_why_path := ⟨fd_NoBrush, _, gg_NoBrush_why_path, g_NoBrush, Er.init (x := "NoBrush") (fs := ["path", "why"]) (by decide), ok_NoBrush F_NoBrush, hk_NoBrush_why_path⟩
    k_NoBrush_why := ⟨fd_NoBrush, _, gg_NoBrush_why, g_NoBrush, Er.init (x := "NoBrush") (fs := ["path", "why"]) (by decide), ok_NoBrush F_NoBrush, hk_NoBrush_why⟩
    k_NoText_spot_row := ⟨fd_NoText, _, gg_NoText_spot_row, g_NoText, Er.init (x := "NoText") (fs := ["row", "spot"]) (by decide), ok_NoText F_NoText, hk_NoText_spot_row⟩
    k_NoSuch_number := ⟨fd_NoSuch, _, gg_NoSuch_number, g_NoSuch, Er.init (x := "NoSuch") (fs := ["number"]) (by decide), ok_NoSuch F_NoSuch, hk_NoSuch_number⟩
    n1 := nil_ok x2
    n2 := nil_ok x3 }
  have D_law_mixed : Df P w K mg base "_law_mixed" _ 1 spMixed := ⟨_, _, g_law_mixed, F_law_mixed.kp, F_law_mixed.bindsN fun _ _ _ _ _ _ us hl => match us, hl with | [_, _], _ => rfl, ok_law_mixed F_law_mixed T⟩
  have D_law_purse : Df P w K mg base "_law_purse" _ 1 (spPurse K) := ⟨_, _, g_law_purse, F_law_purse.kp, F_law_purse.bindsN fun _ _ _ _ _ _ us hl => match us, hl with | [_, _], _ => rfl, ok_law_purse F_law_purse T⟩
  have D_law_draw : Df P w K mg base "_law_draw" _ 2 spDraw := ⟨_, _, g_law_draw, F_law_draw.kp, F_law_draw.bindsN fun _ _ _ _ _ _ us hl => match us, hl with | [_, _], _ => rfl, ok_law_draw F_law_draw T D_law_mixed⟩
  have D_law_sorts : Df P w K mg base "_law_sorts" _ 1 (spSorts K) := ⟨_, _, g_law_sorts, F_law_sorts.kp, F_law_sorts.bindsN fun _ _ _ _ _ _ us hl => match us, hl with | [_], _ => rfl, ok_law_sorts F_law_sorts T GG⟩
  have D_law_kinds : Df P w K mg base "_law_kinds" _ 1 (spKinds K) := ⟨_, _, g_law_kinds, F_law_kinds.kp, F_law_kinds.bindsN fun _ _ _ _ _ _ us hl => match us, hl with | [_], _ => rfl, ok_law_kinds F_law_kinds T GG⟩
  have D_law_row_right : Df P w K mg base "_law_row_right" _ 2 (spRow K) := ⟨_, _, g_law_row_right, F_law_row_right.kp, F_law_row_right.bindsN fun _ _ _ _ _ _ us hl => match us, hl with | [_], _ => rfl, ok_law_row_right F_law_row_right T D_law_sorts D_law_kinds⟩
  have D_law_fields : Df P w K mg base "_law_fields" _ 1 (spFields K) := ⟨_, _, g_law_fields, F_law_fields.kp, F_law_fields.bindsN fun _ _ _ _ _ _ us hl => match us, hl with | [_], _ => rfl, ok_law_fields F_law_fields T GG⟩
  exact ok_law F_law T GG D_law_purse D_law_draw D_law_row_right D_law_fields D_law_sorts D_law_kinds
end K80
open PySem PySem.W PySem.Calls PyProof.Rows
theorem PySem.Challenge.cw_landweave_k80_refusals_made_holds : PySem.Challenge.rw_landweave_k80_refusals_made.Holds := by
  w_on; o_law
  refine HandSHeadRun.head_any (r := OpenLaw.row PySem.Challenge.rw_landweave_k80_refusals_made) (q := view (OpenLaw.row PySem.Challenge.rw_landweave_k80_refusals_made).prog [22]) (H := K80.hk) (ob := K80.ob) (M := 30000) (loose := K80.loose) (d := HandSHeadRun.topDef (OpenLaw.row PySem.Challenge.rw_landweave_k80_refusals_made).prog 22) (kwd := []) K80.ob_eq
    (by kernel_rfl) (fun s => by kernel_rfl) K80.run (by kernel_rfl) (by kernel_rfl) (by kernel_rfl) (by rfl) (by first | assumption | decide +kernel) (by decide +kernel) ⟨rfl, rfl, rfl, rfl, rfl, by decide +kernel⟩ ?hw ?hc
  case hw => w_witness2
  case hc =>
    refine L2.walk_ofE (l := PySem.Challenge.rw_landweave_k80_refusals_made) (n := 63) (k := 3) (x := "_law_script") (CX := L2.CX0) rfl (by decide) (by kernel_rfl) ⟨rfl, by decide, by decide⟩ ?F (fun _ _ _ _ z => z)
    intro w mg fa h Y G hmg0
    obtain ⟨K, KX, c⟩ := Y
    have hmg : mg ("law" : PySem.Str) = some (.ref fa) := by
      have e : (HandSHeadRun.topDef (OpenLaw.row PySem.Challenge.rw_landweave_k80_refusals_made).prog 22).name = ("law" : PySem.Str) := by kernel_rfl
      rw [← e]
      exact hmg0
    obtain ⟨fd, hb, hF⟩ := K80.facts (P := (PySem.Challenge.rw_landweave_k80_refusals_made).prog) (w := w) KX G hmg c
    exact ⟨K, fd, K80.spLaw K, KX, hb, fun H a ns hl _ hS => ⟨a, ns, rfl, hS, fun _ => rfl⟩, hF⟩

