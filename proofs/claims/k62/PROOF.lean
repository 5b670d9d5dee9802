import PyProof.Rows.All
import Wide.All
import OpenK.AllK
import Wide.FinOn
import KE.KStateDown
import Lean
import HandS.ForMost
import HandS.More
import HandS.Defaults
import HandS.Wide
import HandS.WideBits
import HandS.IsInst
import HandS.Flow
import HandS.Head0
import HandS.Head1
import HandS.Head2
import HandS.HeadEnd
import HandS.HeadHook1
import HandS.HeadHook2
import HandS.HeadHook4
import HandS.MakeKwOnly
import HandS.Star
import HandS.Head3
import KE.KExcIs
import KE.KExcInit
import HandS.ExcInit
import HandS.ExcOwn
import HandS.ExcValue
import PyProof.ReprRoads
import HandS.Ends
import HandS.TupAny
import HandS.Rev
import HandS.SortRule
import HandS.Deep
import HandS.TryOnly
import HandS.WordsDict
import HandS.StrMore
import HandS.TupLen
import HandS.Conv
import HandS.Style
import PySem.Challenge.RW_landweave_k62_things
import PyProof.DictUpdate
import PyProof.DictDisplay
import PyProof.DictTable
import PyProof.EvalArms
import PyProof.WalkInts
import HandS.List
import HandS.Exc
import HandS.Walk
import KE.GoesEnum
import KE.KDictZip
import HandS.Zip
import HandS.NamedTupGet
import KE.KStar
import KE.DatumMoreOrd
import HandS.Text
import KE.IntTextLaws
import HandS.Dict
import PyProof.DictMoreH
set_option Elab.async false
set_option linter.all false
set_option maxRecDepth 100000
set_option maxHeartbeats 4000000
/-! Words of my own over the hand layer: defs by name, readings rule by rule. -/
namespace Lw
open PySem PySem.Spec PyProof.Rows L2

/-! ### a def of the top by its name -/
structure Df (P : Program) (w : World) (K : PySem.W.Frag) (mg : Str → Option Value) (base : Heap) (x : Str) (ps : List Str) (k : Nat) (sp : Sp) : Prop where
  ex : ∃ (f : Addr) (fd : FuncData), mg x = some (.ref f) ∧ PySem.W.keepIn K (.ref f) = true ∧ Binds K fd ps [] ∧ FnOk P w K mg base CX0 k f fd ps sp
section
variable {X : Cx} {k : Nat} {ps ks : List Str} {sp : Sp} {x : Str} {p pos : Pos} {e : Expr} {es : List Expr} {kws : List Keyword} {t tk : TA} {g : List Value → List Value → List Value} {gV : List V → List V → List V}
theorem pe_df (D : Df X.prog X.w X.K X.mg X.base x ps k sp) (hr : Room k X.A) (ha : PA X (e :: es) t) (hg : Gl X x := by rfl) (hdb : (x == ("__debug__" : Str)) = false := by decide)
    (he : starEach (e :: es) X.env = (false, eval e X.env) :: starEach es X.env := by rfl) (hpl : (backTo pos (starEach es X.env)).any (·.1) = false := by rfl) :
    PE X (.Call (.Name x p) (e :: es) [] pos) (tCall sp [] E0 t) := by
  obtain ⟨f, fd, hm, hk, hb, F⟩ := D.ex
  exact pe_call F hr hg hm hk hb .nil pass0 ha hdb he hpl
theorem pe_df0 (D : Df X.prog X.w X.K X.mg X.base x ps k sp) (hr : Room k X.A) (hg : Gl X x := by rfl) (hdb : (x == ("__debug__" : Str)) = false := by decide) :
    PE X (.Call (.Name x p) [] [] pos) (tCall sp [] E0 tNil) := by
  obtain ⟨f, fd, hm, hk, hb, F⟩ := D.ex
  exact pe_call0 F hr hg hm hk hb .nil pass0 hdb
/-- f(k = v, ..) -/
theorem pe_callK0 {CX : CXT} {f : Addr} {fd : FuncData} {E : XK} (F : FnOk X.prog X.w X.K X.mg X.base CX k f fd ps sp) (hr : Room k X.A) (hg : Gl X x) (hm : X.mg x = some (.ref f)) (hk : PySem.W.keepIn X.K (.ref f) = true) (hb : KBinds X.K fd ps ks g gV) (hx : Passes CX X E)
    (hkw : PK X kws tk) (hall : (backToKw pos (keywordEach kws X.env)).all (·.1.isSome) = true := by rfl) (hks : (backToKw pos (keywordEach kws X.env)).filterMap (·.1) = ks := by rfl)
    (hdb : (x == ("__debug__" : Str)) = false := by decide)
    (hpl : ((backTo pos (starEach [] X.env)).any (·.1) || (backToKw pos (keywordEach kws X.env)).any (·.1.isNone)) = false := by rfl) :
    PE X (.Call (.Name x p) [] kws pos) (tCallK sp gV E tNil tk) := by
  refine ⟨fun pins s σ H Q I h => ?_⟩
  refine wpAny_Call_Name_kw (ld_glob I hg hm ?_ hdb)
  refine PySem.W.callWith_KW0 (h₀ := X.base) I.ok.mod.kin hk hall ?_ hpl
  refine thn (hkw.run pos pins s σ H _ I h) fun ws s2 ⟨zs, H2, I2, rz, q2⟩ => ⟨I2.kIn, ?_⟩
  rw [hks]
  exact run_fnk (us := []) (vs := []) F hr hb hx I2 .nil rz q2
/-- the same def by keywords -/
structure DfK (P : Program) (w : World) (K : PySem.W.Frag) (mg : Str → Option Value) (base : Heap) (x : Str) (ps ks : List Str) (gV : List V → List V → List V) (k : Nat) (sp : Sp) : Prop where
  ex : ∃ (f : Addr) (fd : FuncData) (g : List Value → List Value → List Value), mg x = some (.ref f) ∧ PySem.W.keepIn K (.ref f) = true ∧ KBinds K fd ps ks g gV ∧ FnOk P w K mg base CX0 k f fd ps sp
theorem pe_dfK0 (D : DfK X.prog X.w X.K X.mg X.base x ps ks gV k sp) (hr : Room k X.A) (hkw : PK X kws tk) (hg : Gl X x := by rfl)
    (hall : (backToKw pos (keywordEach kws X.env)).all (·.1.isSome) = true := by rfl) (hks : (backToKw pos (keywordEach kws X.env)).filterMap (·.1) = ks := by rfl)
    (hdb : (x == ("__debug__" : Str)) = false := by decide)
    (hpl : ((backTo pos (starEach [] X.env)).any (·.1) || (backToKw pos (keywordEach kws X.env)).any (·.1.isNone)) = false := by rfl) :
    PE X (.Call (.Name x p) [] kws pos) (tCallK sp gV E0 tNil tk) := by
  obtain ⟨f, fd, g, hm, hk, hb, F⟩ := D.ex
  exact pe_callK0 F hr hg hm hk hb pass0 hkw hall hks hdb hpl
theorem vals_rev : ∀ {zs : List V} {ws : List Value}, Vals zs ws → Vals zs.reverse ws.reverse
  | _, _, .nil => .nil
  | _, _, .cons r t => by
    rw [List.reverse_cons, List.reverse_cons]
    exact Vals.append (vals_rev t) (.cons r .nil)
/-- by keywords alone, in another order -/
def onlyK {α : Type} (g : List α → List α) : List α → List α → List α
  | [], ws => g ws
  | _ :: _, _ => []
theorem kb_of {K : PySem.W.Frag} {x qual : Str} {params : Arguments} {body : List Stmt} {scope : Scope} {kws : List (Str × V)} {f : Addr} {fd : FuncData} {ps ks : List Str} (g : {α : Type} → List α → List α) (F : FunD K x qual params body scope [] kws f fd) (hp : 0 < ps.length)
    (hl : ∀ ws : List Value, (g ws).length = ps.length → ws.length = ps.length) (hr : ∀ {zs : List V} {ws : List Value}, Vals zs ws → Vals (g zs) (g ws))
    (h : ∀ (kV doc pm : Value) (an : Option Addr) (cdv ct : Value) (ws : List Value), ws.length = ps.length → bindArgs (PySem.W.fnOf x qual params body scope .none kV doc pm an cdv ct) ⟨[], ks.zip ws⟩ = pure (ps.zip (g ws))) :
    KBinds K fd ps ks (onlyK g) (onlyK g) := by
  obtain ⟨oc, od, dV, kV, doc, pm, an, cdv, ct, osl, rfl, lk, hcd, hD, hK⟩ := F.ex
  rcases hD with ⟨_, rfl⟩ | ⟨e, _⟩
  · refine ⟨fun s us ws X e => ?_, fun {vs us zs ws} r1 r2 => ?_⟩
    · cases us with
      | nil => exact BindsTo.of_eq (h kV doc pm an cdv ct ws (hl ws e))
      | cons u us =>
        have z : (0 : Nat) = ps.length := e
        omega
    · cases r1 with
      | nil => exact hr r2
      | cons _ _ => exact .nil
  · exact absurd rfl e
/-! ### ** of a great base -/
def CPowW (i j : Int) : Prop := 0 ≤ j ∧ (Builtin.Int.intBits i : Int) * j ≤ 2 ^ 27
theorem op_powW : OpR X (binaryOp .Pow) (rI CPowW fun i j => .int (i ^ j.toNat)) := opI fun _ _ _ _ _ _ _ hc q => pow_int hc.1 hc.2 q
end

/-! ### rules whose reading names the written part itself (for the blocks of comprehensions) -/
section
variable {X : Cx} {K : PySem.W.Frag}
theorem ix_tupK (h : X.K = K := by rfl) : IxR X (rIxT K) := by subst h; exact ix_tup
theorem ix_listK (h : X.K = K := by rfl) : IxR X (rIxL K) := by subst h; exact ix_list
theorem sl_tupK (h : X.K = K := by rfl) : SlR X (rSlT K) := by subst h; exact sl_tup
theorem sl_listK (h : X.K = K := by rfl) : SlR X (rSlL K) := by subst h; exact sl_list
theorem call_lenK (h : X.K = K := by rfl) : CallR X (.builtin "len") (fun xs H Q => ∃ p ys, xs = [.ref p] ∧ (SqL K H p ys ∨ SqT K H p ys) ∧ Q (.int ys.length) H) := by subst h; exact call_len_seq
theorem call_isiK2 (h : X.K = K := by rfl) : CallR X (.builtin "isinstance") (rIsi K) := by subst h; exact call_isi
theorem op_inK (h : X.K = K := by rfl) : OpR X (compareOp .In) (rIn K false) := by subst h; exact op_in_seq
end
/-! ### readings -/
section
variable {σ σ' : L2.St} {H : Hp} {Q : VK} {v x y z : V} {ta tb tc te : TE} {r r' : R2} {i j : Int} {n : Nat} {D : Ends} {t u : TS} {c : TT} {K : PySem.W.Frag} {p : Addr} {xs : List V}
theorem g_var {m : Nat} (h : σ[m]? = some (some v)) (q : Q v H) : tVar m σ H Q := ⟨v, h, q⟩
theorem g_c (q : Q v H) : tC v σ H Q := q
theorem g_op (q : ta σ H fun x H1 => tb σ H1 fun y H2 => r x y H2 Q) : tOp r ta tb σ H Q := q
theorem g_un {r : V → Hp → VK → Prop} (q : ta σ H fun x H1 => r x H1 Q) : tUn r ta σ H Q := q
theorem g_U {g : Int → V} (q : Q (g i) H) : rU g (.int i) H Q := ⟨i, rfl, q⟩
theorem g_I0 {g : Int → Int → V} (q : Q (g i j) H) : rI0 g (.int i) (.int j) H Q := ⟨i, j, rfl, rfl, q⟩
theorem g_I {C : Int → Int → Prop} {g : Int → Int → V} (c : C i j) (q : Q (g i j) H) : rI C g (.int i) (.int j) H Q := ⟨i, j, rfl, rfl, c, q⟩
theorem g_eq (h : scal x y = true) (q : Q (.bl (decide (x = y))) H) : rEq x y H Q := ⟨h, q⟩
theorem g_ne (h : scal x y = true) (q : Q (.bl (!decide (x = y))) H) : rNe x y H Q := ⟨h, q⟩
theorem g_test {te : TE} {Q : Bool → Hp → Prop} (q : te σ H fun x H' => ∃ k, x = .bl k ∧ Q k H') : tTest te σ H Q := q
theorem g_B {te : TE} {Q : Bool → Hp → Prop} (q : te σ H fun x H' => ∃ k, x = .bl k ∧ Q k H') : tB te σ H Q := q
theorem g_bl {b : Bool} {P : Bool → Prop} (q : P b) : ∃ k, V.bl b = .bl k ∧ P k := ⟨b, rfl, q⟩
theorem g_and {t u : TT} {Q : Bool → Hp → Prop} (q : t σ H fun c H1 => if c = true then u σ H1 Q else Q false H1) : tAnd t u σ H Q := q
theorem g_or {t u : TT} {Q : Bool → Hp → Prop} (q : t σ H fun c H1 => if c = true then Q true H1 else u σ H1 Q) : tOr t u σ H Q := q
theorem g_not {t : TT} {Q : Bool → Hp → Prop} (q : t σ H fun c H1 => Q (!c) H1) : tNot t σ H Q := q
theorem g_andV (q : ta σ H fun x H1 => ∃ c, x = .bl c ∧ if c = true then tb σ H1 Q else Q (.bl false) H1) : tAndV ta tb σ H Q := q
theorem g_orV (q : ta σ H fun x H1 => ∃ c, x = .bl c ∧ if c = true then Q (.bl true) H1 else tb σ H1 Q) : tOrV ta tb σ H Q := q
theorem g_notV (q : ta σ H fun x H1 => ∃ c, x = .bl c ∧ Q (.bl (!c)) H1) : tNotV ta σ H Q := q
theorem g_if {t : TT} (q : t σ H fun c H1 => if c = true then ta σ H1 Q else tb σ H1 Q) : tIf t ta tb σ H Q := q
theorem g_chain (q : ta σ H fun x H1 => tb σ H1 fun y H2 => r x y H2 fun z H3 => ∃ k, z = .bl k ∧ (if k = true then tc σ H3 fun w' H4 => r' y w' H4 Q else Q (.bl false) H3)) : tChain r r' ta tb tc σ H Q := q
theorem g_seq (q : t { D with nx := u D } σ H) : tSeq t u D σ H := q
theorem g_next (q : D.nx σ H) : tNext D σ H := q
theorem g_asg {g : TG} (q : te σ H fun x H1 => g x σ H1 D.nx) : tAsg te g D σ H := q
theorem g_name {m : Nat} {Q : L2.St → Hp → Prop} (q : Q (σ.set m (some v)) H) : gName m v σ H Q := q
theorem g_nameN {m : Nat} {σ2 : L2.St} {Q : L2.St → Hp → Prop} (e : σ.set m (some v) = σ2) (q : Q σ2 H) : gName m v σ H Q := by
  subst e
  exact q
theorem g_cast {t : TS} {σ2 : L2.St} (e : σ = σ2) (q : t D σ2 H) : t D σ H := e ▸ q
theorem g_sub {s : TSet} {Q : L2.St → Hp → Prop} (q : ta σ H fun o H1 => tb σ H1 fun i H2 => s o i v H2 fun H3 => Q σ H3) : gSub ta tb s v σ H Q := q
theorem g_setL {Q : Hp → Prop} {m : Nat} (h : H p = some (.lst xs)) (hj : ixN xs.length i = some m) (q : Q (upd H p (.lst (xs.set m v)))) : rSetL (.ref p) (.int i) v H Q := ⟨p, xs, i, m, rfl, rfl, h, hj, q⟩
theorem g_par {i j : Nat} {ta : TA} (q : ta σ H fun vs H1 => ∃ v w, vs = [v, w] ∧ D.nx ((σ.set i (some v)).set j (some w)) H1) : tPar i j ta D σ H := q
theorem g_drop (q : te σ H fun _ H1 => D.nx σ H1) : tDrop te D σ H := q
theorem g_ret (q : te σ H D.rt) : tRet te D σ H := q
theorem g_retN (q : D.rt .non H) : tRetN D σ H := q
theorem g_ifS (q : c σ H fun b H1 => if b = true then t D σ H1 else u D σ H1) : tIfS c t u D σ H := q
theorem g_nil {Q : List V → Hp → Prop} (q : Q [] H) : tNil σ H Q := q
theorem g_cons {ts : TA} {Q : List V → Hp → Prop} (q : ta σ H fun x H1 => ts σ H1 fun xs H2 => Q (x :: xs) H2) : tCons ta ts σ H Q := q
theorem g_tup {ts : TA} (q : ts σ H fun xs H1 => xs.length ≤ sizeLine ∧ ∀ p, H1 p = none → Q (.ref p) (upd H1 p (.tup xs))) : tTup ts σ H Q := q
theorem g_lst {ts : TA} (q : ts σ H fun xs H1 => xs.length ≤ sizeLine ∧ ∀ p, H1 p = none → Q (.ref p) (upd H1 p (.lst xs))) : tLst ts σ H Q := q
theorem g_CB {f : List V → Hp → VK → Prop} {ts : TA} (q : ts σ H fun vs H1 => f vs H1 Q) : tCB f ts σ H Q := q
theorem g_call {sp : Sp} {E : XK} {ts : TA} (q : ts σ H fun vs H1 => sp vs H1 Q E) : tCall sp [] E ts σ H Q := by
  unfold tCall
  simp only [List.append_nil]
  exact q
theorem g_callK {sp : Sp} {E : XK} {gV : List V → List V → List V} {ts tk : TA} (q : ts σ H fun vs H1 => tk σ H1 fun zs H2 => sp (gV vs zs) H2 Q E) : tCallK sp gV E ts tk σ H Q := q
theorem g_bits (h : ta σ H fun x H1 => ∃ i, x = .int i ∧ Q (.int (Builtin.Int.intBits i : Nat)) H1) : tBits ta σ H Q := h
theorem g_int {P : Int → Prop} (q : P i) : ∃ j, V.int i = .int j ∧ P j := ⟨i, rfl, q⟩
theorem g_for {wi : TI} {g : TG} {tb : TS} (q : wi σ H fun J H1 => ∃ W : Nat → Nat → L2.St → Hp → Prop, (∃ m, W 0 m σ H1) ∧ ∀ i m σ H, W i m σ H →
      (J.stop i H ∧ D.nx σ H) ∨ (J.go i H ∧ ∃ N : L2.St → Hp → Prop, (∀ σ' H', N σ' H' → ∃ m', m' < m ∧ W (i + 1) m' σ' H') ∧ ∀ x H', J.yld i H x H' → g x σ H' fun σ2 H2 => tb { D with nx := N, ct := N, bk := D.nx } σ2 H2)) : tFor wi g tb D σ H := q
theorem g_rng1 {ts : TA} {R : It → Hp → Prop} (q : ts σ H fun vs H1 => ∃ j : Int, vs = [.int j] ∧ -(2 ^ 62) ≤ j ∧ j < 2 ^ 62 ∧ R (Itr 0 j.toNat) H1) : iRng1 ts σ H R := q
theorem g_ixL (h : SqL K H p xs) (ha : atI xs i = some v) (q : Q v H) : rIxL K (.ref p) (.int i) H Q := ⟨p, xs, i, v, rfl, rfl, h, ha, q⟩
theorem g_ixT (h : SqT K H p xs) (ha : atI xs i = some v) (q : Q v H) : rIxT K (.ref p) (.int i) H Q := ⟨p, xs, i, v, rfl, rfl, h, ha, q⟩
/-- a test that the facts leave open -/
theorem g_ite {c A B : Prop} [Decidable c] (h1 : c → A) (h2 : ¬ c → B) : if decide c = true then A else B := by
  by_cases h : c
  · rw [decide_eq_true h]; exact iteT (h1 h)
  · rw [decide_eq_false h]; exact iteF (h2 h)
theorem g_iteN {c A B : Prop} [Decidable c] (h1 : ¬ c → A) (h2 : c → B) : if (!decide c) = true then A else B := by
  by_cases h : c
  · rw [decide_eq_true h]; exact iteF (h2 h)
  · rw [decide_eq_false h]; exact iteT (h1 h)
theorem iteNT {A B : Prop} (h : B) : if (!true) = true then A else B := iteF h
theorem iteNF {A B : Prop} (h : A) : if (!false) = true then A else B := iteT h
theorem iteS {c A B : Prop} [Decidable c] (hc : c) (h : A) : if decide c = true then A else B := by
  rw [decide_eq_true hc]
  exact iteT h
theorem iteNo {c A B : Prop} [Decidable c] (hc : ¬ c) (h : B) : if decide c = true then A else B := by
  rw [decide_eq_false hc]
  exact iteF h
theorem iteSE {a b : Str} {A B : Prop} (h : a = b) (q : A) : if decide (V.str a = V.str b) = true then A else B := iteS (by rw [h]) q
theorem iteSN {a b : Str} {A B : Prop} (h : decide (a = b) = false) (q : B) : if decide (V.str a = V.str b) = true then A else B := iteNo (fun e => by cases e; simp at h) q
theorem g_dget {td ty : TE} (q : td σ H fun x H1 => ty σ H1 fun y H2 => ∃ a v, x = .ref a ∧ DGet H2 a y (some v) ∧ Q v H2) : tDGet td ty σ H Q := q
theorem g_dput {td ty tv : TE} (q : tv σ H fun v H1 => td σ H1 fun x H2 => ty σ H2 fun y H3 => ∃ a H4, x = .ref a ∧ DPut H3 a y v H4 ∧ D.nx σ H4) : sDPut td ty tv D σ H := q
theorem g_dnew (q : ∀ p, H p = none → Q (.ref p) (upd H p (.dK []))) : tDNewK σ H Q := q
theorem g_tupT {t : TGs} {Q : L2.St → Hp → Prop} {m : Nat} (h : SqT K H p xs) (hl : xs.length = m) (q : t xs σ H Q) : gTup K m t (.ref p) σ H Q := ⟨p, xs, rfl, h, hl, q⟩
theorem g_gcons {t : TG} {u : TGs} {Q : L2.St → Hp → Prop} (q : t v σ H fun σ' H' => u xs σ' H' Q) : gCons t u (v :: xs) σ H Q := ⟨v, xs, rfl, q⟩
theorem g_gnil {Q : L2.St → Hp → Prop} (q : Q σ H) : gNil [] σ H Q := ⟨rfl, q⟩
theorem g_itup {tl : TE} {R : It → Hp → Prop} (q : tl σ H fun x H1 => ∃ a, x = .ref a ∧ (∃ xs, SqT K H1 a xs) ∧ R (Itt K a) H1) : iTup K tl σ H R := q
theorem g_ilist {tl : TE} {R : It → Hp → Prop} (q : tl σ H fun x H1 => ∃ a, x = .ref a ∧ (∃ xs, SqL K H1 a xs) ∧ R (Itl K a) H1) : iList K tl σ H R := q
theorem g_sl {s : V → Option Int → Option Int → Hp → VK → Prop} {tl th : TO} (q : te σ H fun x H1 => tl σ H1 fun l H2 => th σ H2 fun u H3 => s x l u H3 Q) : tSl s te tl th σ H Q := q
theorem g_part {Q : Option Int → Hp → Prop} (q : te σ H fun x H1 => ∃ i, x = .int i ∧ Q (some i) H1) : tPart te σ H Q := q
theorem g_nopart {Q : Option Int → Hp → Prop} (q : Q none H) : tNoPart σ H Q := q
theorem g_slT {lo hi : Option Int} (h : SqT K H p xs) (hw : ¬ (HT.sIx xs.length 0 lo = 0 ∧ HT.sIx xs.length xs.length hi = xs.length)) (q : ∀ p', H p' = none → Q (.ref p') (upd H p' (.tup (cutV xs lo hi)))) : rSlT K (.ref p) lo hi H Q := ⟨p, xs, rfl, h, hw, q⟩
theorem g_slL {lo hi : Option Int} (h : SqL K H p xs) (q : ∀ p', H p' = none → Q (.ref p') (upd H p' (.lst (cutV xs lo hi)))) : rSlL K (.ref p) lo hi H Q := ⟨p, xs, rfl, h, q⟩
theorem g_cat {l b : Addr} {xs zs : List V} (h1 : H l = some (.lst xs)) (h2 : H b = some (.lst zs)) (hl : xs.length + zs.length ≤ sizeLine) (q : ∀ p', H p' = none → Q (.ref p') (upd H p' (.lst (xs ++ zs)))) : rCat (.ref l) (.ref b) H Q := ⟨l, b, xs, zs, rfl, rfl, h1, h2, hl, q⟩
theorem g_lc {wi : TI} {g : TG} {tt : TT} {vs : List Nat} (q : wi σ H fun J H1 => ∀ D, H1 D = none → ∃ W : Nat → Nat → Hp → Prop, (∃ m, W 0 m (upd H1 D (.lst []))) ∧ ∀ i m H, W i m H →
  (J.stop i H ∧ Q (.ref D) H) ∨ (J.go i H ∧ ∃ Nx : Hp → Prop, (∀ H', Nx H' → ∃ m', m' < m ∧ W (i + 1) m' H') ∧ ∀ x H', J.yld i H x H' → g x (wipe σ vs) H' fun σ2 H2 => wipe σ2 vs = wipe σ vs ∧ tt σ2 H2 fun b H3 =>
    if b = true then te σ2 H3 fun y H4 => ∃ acc, H4 D = some (.lst acc) ∧ acc.length < sizeLine ∧ Nx (upd H4 D (.lst (acc ++ [y]))) else Nx H3)) : tLc wi g tt te vs σ H Q := q
theorem g_bm {T : String} {r : V → List V → Hp → VK → Prop} {t : TA} (q : te σ H fun x H1 => tyV K T x H1 ∧ t σ H1 fun xs H2 => r x xs H2 Q) : tBM K T r te t σ H Q := q
theorem g_bm0 {T : String} {r : V → List V → Hp → VK → Prop} (q : te σ H fun x H1 => tyV K T x H1 ∧ r x [] H1 Q) : tBM0 K T r te σ H Q := q
theorem g_append {l : Addr} {y : V} (h : H l = some (.lst xs)) (hl : xs.length < sizeLine) (q : Q .non (upd H l (.lst (xs ++ [y])))) : rAppend (.ref l) [y] H Q := ⟨l, xs, y, rfl, rfl, h, hl, q⟩
theorem tyL {l : Addr} (h : H l = some (.lst xs)) : tyV K "list" (.ref l) H := .inl ⟨rfl, _, SqL.of h⟩
theorem g_max2 {i j : Int} {P : Int → Prop} (q : P (if j > i then j else i)) : ∃ i' j' : Int, [V.int i, V.int j] = [V.int i', V.int j'] ∧ P (if j' > i' then j' else i') := ⟨i, j, rfl, q⟩
end
theorem upd_self {H : Hp} {p : Addr} {o : HO} (h : H p = some o) : upd H p o = H := by
  funext b
  unfold upd
  by_cases e : b = p
  · rw [if_pos e, e, h]
  · rw [if_neg e]
/-- all but p is kept -/
def Keep (p : Addr) (H H' : Hp) : Prop := ∀ b u, b ≠ p → H b = some u → H' b = some u
theorem Keep.refl {p : Addr} {H : Hp} : Keep p H H := fun _ _ _ h => h
theorem Keep.trans {p : Addr} {H H1 H2 : Hp} (a : Keep p H H1) (b : Keep p H1 H2) : Keep p H H2 := fun c u n h => b c u n (a c u n h)
theorem Keep.put {p : Addr} {H H' : Hp} {o : HO} (a : Keep p H H') : Keep p H (upd H' p o) := fun c u n h => by
  rw [upd_ne n]
  exact a c u n h
theorem Keep.new {p x : Addr} {H H' : Hp} {o : HO} (a : Keep p H H') (hx : H' x = none) : Keep p H (upd H' x o) := fun c u n h => by
  rw [upd_ne (ne_of_none (a c u n h) hx)]
  exact a c u n h
theorem Keep.seq {K : PySem.W.Frag} {p a : Addr} {H H' : Hp} {xs : List V} (k : Keep p H H') (n : a ≠ p) (h : SqL K H a xs) : SqL K H' a xs := by
  rcases h with (h | ⟨o, h⟩) | h
  · exact .inl (.inl (k _ _ n h))
  · exact .inl (.inr ⟨o, k _ _ n h⟩)
  · exact .inr h
theorem Keep.seqN {K : PySem.W.Frag} {p a : Addr} {H H' : Hp} {xs : List V} (k : Keep p H H') (n : H p = none) (h : SqL K H a xs) : SqL K H' a xs := by
  rcases h with (h | ⟨o, h⟩) | h
  · exact .inl (.inl (k _ _ (ne_of_none h n) h))
  · exact .inl (.inr ⟨o, k _ _ (ne_of_none h n) h⟩)
  · exact .inr h
/-! ### numbers -/
theorem bits_le {n : Int} (h0 : 0 ≤ n) (h : n ≤ 1000000000000000000000000000000) : Builtin.Int.intBits n ≤ 100 := by
  have e : (2 : Nat) ^ 100 = 1267650600228229401496703205376 := by decide
  have hb : n.natAbs < 2 ^ 100 := by omega
  have l := PySem.Flt.log2_lt_of (by decide) hb
  unfold Builtin.Int.intBits
  split <;> omega
theorem div_ok {i n : Int} (h0 : 0 < n) (h : n ≤ 1000000000000000000000000000000) : CDivW i n := by
  have e : (2 : Nat) ^ 100 = 1267650600228229401496703205376 := by decide
  exact wide_div h0 (b := 100) (by omega) (by decide) (by decide)
theorem pow_ok {i j : Int} (h : decide (0 ≤ j ∧ (Builtin.Int.intBits i : Int) * j ≤ 2 ^ 27) = true) : CPowW i j := (show _ ∧ _ from of_decide_eq_true h)
end Lw

/-! A head that sees less: from the top's names by functions, classes, dicts and rows alone, never into a code object; so classes with methods cost little. -/
namespace Hy
open PySem PySem.Spec PyProof.Rows L2
def step (o : Obj) : List Addr := match o.data with
  | .func fd => He.refV fd.code ++ (He.refV fd.defaults ++ He.refV fd.kwdefaults)
  | .cls cd => cd.ns :: cd.mro.flatMap He.refV
  | .dict es _ => es.toList.flatMap (fun e => He.refV e.val)
  | .seq its _ => its.toList.flatMap He.refV
  | _ => []
def wide (g : Addr → Option Obj) : List Addr → List Addr
  | [] => []
  | a :: r => (match g a with
    | some o => step o
    | none => []) ++ wide g r
/-- what is new at each step -/
def sees (g : Addr → Option Obj) : Nat → List Addr → List Addr → List Addr
  | 0, all, _ => all
  | n + 1, all, new =>
    let more := ((wide g new).eraseDups).filter (fun a => !all.contains a)
    sees g n (all ++ more) more
def part (g : Addr → Option Obj) (n : Nat) : PySem.W.Frag := He.frT g (sees g n [mainGlobals] [mainGlobals])
def obs (n : Nat) (fa : List He.Fa) (fn : List He.DefD) (ts : List He.Tab) (ex : PySem.W.Frag → Bool) (g : Addr → Option Obj) : He.AlX := (He.obsT fa fn ts (part g n), ex (part g n))
theorem says_of {n : Nat} {fa : List He.Fa} {fn : List He.DefD} {ts : List He.Tab} {ex : PySem.W.Frag → Bool} {w : World} {h : Heap} (e : obs n fa fn ts ex h.get? = He.valX fn ts w) : He.SaysX fa fn ts [] ex w h (part h.get? n) :=
  ⟨congrArg Prod.fst e, congrArg Prod.snd e, fun _ z => (nomatch z), fun _ z => (nomatch z), fun _ z => (nomatch z)⟩
def hook (n : Nat) (fa : List He.Fa) (fn : List He.DefD) (ts : List He.Tab) (ex : PySem.W.Frag → Bool) : PySem.W.Hook :=
  { α := He.AlX
    obs := fun s => obs n fa fn ts ex s.heap.get?
    val := He.valX fn ts
    says := fun w h => ∃ K : PySem.W.Frag, K.In h ∧ He.SaysX fa fn ts [] ex w h K
    of := fun _ _ e => ⟨_, He.frT_in, says_of e⟩
    keeps := fun _ _ _ ⟨K, a, c⟩ k => ⟨K, PySem.W.Frag.In.keeps a k, ⟨c.t, c.more, c.hd, c.out, fun _ z => (nomatch z)⟩⟩ }
theorem obs_eq {n : Nat} {fa : List He.Fa} {fn : List He.DefD} {ts : List He.Tab} {ex : PySem.W.Frag → Bool} {g : Addr → Option Obj} {s : Shared} (h : ∀ a, g a = s.heap.get? a) : obs n fa fn ts ex g = (hook n fa fn ts ex).obs s := by
  obtain rfl : g = s.heap.get? := funext h
  rfl
end Hy

/-! Classes of the program by their names: made, asked, their methods; calls with some keywords. -/
namespace Lc
open PySem PySem.Spec PyProof.Rows L2
def meth (s : Stmt) (i : Nat) : Stmt := match s with
  | .ClassDef _ _ _ b _ _ _ _ _ _ _ => b.getD i (.Pass ⟨0, 0, 0, 0⟩)
  | _ => .Pass ⟨0, 0, 0, 0⟩
/-- making an instance: the class by its name, its own __init__; ds are the defaults that lack -/
structure MkC (P : Program) (w : World) (K : PySem.W.Frag) (mg : Str → Option Value) (base : Heap) (x : Str) (ps : List Str) (ds : List V) (k : Nat) (sp : Sp) : Prop where
  ex : ∃ (f : Addr) (fd : FuncData) (vs : List Value), mg x = some (.ref (He.ga K x)) ∧ L2.Mk K (He.ga K x) f ∧ Vals ds vs ∧ Binds K fd ps vs ∧ FnOk P w K mg base CX0 k f fd ps sp
/-- a method of a class -/
structure MeC (P : Program) (w : World) (K : PySem.W.Frag) (mg : Str → Option Value) (base : Heap) (x m : Str) (ps : List Str) (k : Nat) (sp : Sp) : Prop where
  ex : ∃ (f : Addr) (fd : FuncData), Cls K (He.ga K x) ∧ Meth K (He.ga K x) m f ∧ Binds K fd ps [] ∧ FnOk P w K mg base CX0 k f fd ps sp
/-- a def with n values by place and the keywords ks -/
structure DfN (P : Program) (w : World) (K : PySem.W.Frag) (mg : Str → Option Value) (base : Heap) (x : Str) (ps : List Str) (n : Nat) (ks : List Str) (gV : List V → List V → List V) (k : Nat) (sp : Sp) : Prop where
  ex : ∃ (f : Addr) (fd : FuncData) (g : List Value → List Value → List Value), mg x = some (.ref f) ∧ PySem.W.keepIn K (.ref f) = true ∧ KBn K fd ps n ks g gV ∧ FnOk P w K mg base CX0 k f fd ps sp
section
variable {X : Cx} {k n : Nat} {ps ks : List Str} {ds : List V} {sp : Sp} {x m : Str} {p pos apos : Pos} {e o : Expr} {es : List Expr} {kws : List Keyword} {ta : TE} {t tk : TA} {gV : List V → List V → List V}
theorem pe_mkC (M : MkC X.prog X.w X.K X.mg X.base x ps ds k sp) (hr : Room (k + 1) X.A) (ha : PA X (e :: es) t) (hg : Gl X x := by rfl) (hdb : (x == ("__debug__" : Str)) = false := by decide)
    (he : starEach (e :: es) X.env = (false, eval e X.env) :: starEach es X.env := by rfl) (hpl : (backTo pos (starEach es X.env)).any (·.1) = false := by rfl) : PE X (.Call (.Name x p) (e :: es) [] pos) (tMake (He.ga X.K x) sp ds E0 t) := by
  obtain ⟨f, fd, vs, hm, mk, hv, hb, F⟩ := M.ex
  exact pe_make mk F hr hg hm hb hv pass0 ha hdb he hpl
theorem pe_meC {pl : Sem Bool} (M : MeC X.prog X.w X.K X.mg X.base x m ps k sp) (he : PE X o ta) (hr : Room k X.A) (ha : PA X (e :: es) t)
    (hst : starEach (e :: es) X.env = (false, eval e X.env) :: starEach es X.env := by rfl) (hpl : (backTo pos (starEach es X.env)).any (·.1) = false := by rfl)
    (ht : eval (.Call (.Attribute o m apos) (e :: es) [] pos) X.env = (do
      let ov ← eval o X.env
      standAt apos.atName
      let (f, first) ← holding [ov] (getMethod ov m pl)
      callWith pos f first (backTo pos (starEach (e :: es) X.env)) (backToKw pos (keywordEach [] X.env))) := by rfl) : PE X (.Call (.Attribute o m apos) (e :: es) [] pos) (tMeth (He.ga X.K x) m sp [] E0 ta t) := by
  obtain ⟨f, fd, c, hm, hb, F⟩ := M.ex
  exact pe_meth he c hm F hr hb .nil pass0 ha hst hpl ht
theorem pe_meC0 {pl : Sem Bool} (M : MeC X.prog X.w X.K X.mg X.base x m ps k sp) (he : PE X o ta) (hr : Room k X.A)
    (ht : eval (.Call (.Attribute o m apos) [] [] pos) X.env = (do
      let ov ← eval o X.env
      standAt apos.atName
      let (f, first) ← holding [ov] (getMethod ov m pl)
      callWith pos f first (backTo pos (starEach [] X.env)) (backToKw pos (keywordEach [] X.env))) := by rfl) : PE X (.Call (.Attribute o m apos) [] [] pos) (tMeth (He.ga X.K x) m sp [] E0 ta tNil) := by
  obtain ⟨f, fd, c, hm, hb, F⟩ := M.ex
  exact pe_meth0 he c hm F hr hb .nil pass0 ht
theorem pe_dfN (D : DfN X.prog X.w X.K X.mg X.base x ps n ks gV k sp) (hr : Room k X.A) (ha : PA X (e :: es) t) (hkw : PK X kws tk) (hg : Gl X x := by rfl)
    (hall : (backToKw pos (keywordEach kws X.env)).all (·.1.isSome) = true := by rfl) (hks : (backToKw pos (keywordEach kws X.env)).filterMap (·.1) = ks := by rfl)
    (hdb : (x == ("__debug__" : Str)) = false := by decide) (he : starEach (e :: es) X.env = (false, eval e X.env) :: starEach es X.env := by rfl)
    (hpl : ((backTo pos (starEach (e :: es) X.env)).any (·.1) || (backToKw pos (keywordEach kws X.env)).any (·.1.isNone)) = false := by rfl) : PE X (.Call (.Name x p) (e :: es) kws pos) (tCallN n ks.length sp gV E0 t tk) := by
  obtain ⟨f, fd, g, hm, hk, hb, F⟩ := D.ex
  exact pe_callN F hr hg hm hk hb pass0 ha hkw hall hks hdb he hpl
variable {σ : L2.St} {H : Hp} {Q : VK} {a C dx : Addr} {fs : List (Str × V)} {v : V} {K : PySem.W.Frag} {f : Str} {D : Ends} {tv : TE}
/-! ### readings -/
theorem g_fld (q : ta σ H fun x H1 => ∃ a C dx fs v, x = .ref a ∧ H1 a = some (.ins C dx fs) ∧ Cls K C ∧ NoAttr K C f ∧ fs.lookup f = some v ∧ Q v H1) : tFld K ta f σ H Q := q
theorem g_sfld (q : tv σ H fun y H1 => ta σ H1 fun x H2 => ∃ a C dx fs, x = .ref a ∧ H2 a = some (.ins C dx fs) ∧ Cls K C ∧ NoAttr K C f ∧ fs.length < 1000 ∧ D.nx σ (upd H2 a (.ins C dx (putF f y fs)))) : sFld K ta tv f D σ H := q
theorem g_meth {E : XK} (q : ta σ H fun x H1 => ∃ a dx fs, x = .ref a ∧ H1 a = some (.ins C dx fs) ∧ fs.lookup m = none ∧ t σ H1 fun vs H2 => sp (x :: (vs ++ [])) H2 Q E) : tMeth C m sp [] E ta t σ H Q := q
theorem g_make {E : XK} (q : t σ H fun vs H1 => ∀ x dx, H1 x = none → H1 dx = none → dx ≠ x → sp (.ref x :: (vs ++ ds)) (upd (upd H1 dx (.own x)) x (.ins C dx [])) (fun v H2 => v = .non ∧ Q (.ref x) H2) E) : tMake C sp ds E t σ H Q := q
theorem g_callN {j : Nat} {E : XK} (q : t σ H fun vs H1 => tk σ H1 fun zs H2 => vs.length = n ∧ zs.length = j ∧ sp (gV vs zs) H2 Q E) : tCallN n j sp gV E t tk σ H Q := q
end
end Lc

/-! Dicts of the top, with text keys, whose values are tuples: told by names. -/
namespace Kt
open PySem PySem.Spec PyProof.Rows L2 Lw
/-- the dict at d: its keys have these tuples; none of the texts zs is a key -/
structure TabC (K : PySem.W.Frag) (w : World) (d : Addr) (kvs : List (Str × List He.Dv)) (zs : List Str) : Prop where
  kd : ∃ es n, KDict K w d es n
  at_ : ∀ q ∈ kvs, ∃ t, PySem.W.nsIn K d q.1 = some (some (.ref t)) ∧ ∀ H : Hp, SqT K H t (q.2.map (He.Dv.v K))
  no : ∀ z ∈ zs, PySem.W.nsIn K d z = some none
def tupAt (K : PySem.W.Frag) (r : Option (Option Value)) (vs : List He.Dv) : Bool := match r with
  | some (some (.ref t)) => (match K.lookup t with
    | some ⟨.type c, _, .seq its _, _⟩ => decide (c = "tuple") && (decide (its.size ≤ sizeLine) && He.relAll (vs.map (He.Dv.v K)) its.toList)
    | _ => false)
  | _ => false
def noAt (r : Option (Option Value)) : Bool := match r with
  | some none => true
  | _ => false
def tabB (K : PySem.W.Frag) (d : Addr) (kvs : List (Str × List He.Dv)) (zs : List Str) : Bool := kvs.all (fun q => tupAt K (PySem.W.nsIn K d q.1) q.2) && zs.all fun z => noAt (PySem.W.nsIn K d z)
theorem noAt_ok {r : Option (Option Value)} (h : noAt r = true) : r = some none := by
  unfold noAt at h
  split at h
  · rfl
  · cases h
theorem tupAt_ok {K : PySem.W.Frag} {r : Option (Option Value)} {vs : List He.Dv} (h : tupAt K r vs = true) : ∃ t, r = some (some (.ref t)) ∧ ∀ H : Hp, SqT K H t (vs.map (He.Dv.v K)) := by
  unfold tupAt at h
  split at h
  · rename_i t
    refine ⟨t, rfl, fun H => ?_⟩
    split at h
    · rename_i c od its n sl q
      obtain ⟨e1, h2⟩ := He.ba h
      obtain ⟨e2, e3⟩ := He.ba h2
      obtain rfl : c = "tuple" := of_decide_eq_true e1
      exact .inr ⟨_, its, n, q, rfl, rfl, of_decide_eq_true e2, He.relAll_ok e3⟩
    · cases h
  · cases h
theorem tab_of {K : PySem.W.Frag} {w : World} {d : Addr} {kvs : List (Str × List He.Dv)} {zs : List Str} (k : ∃ es n, KDict K w d es n) (h : tabB K d kvs zs = true) : TabC K w d kvs zs := by
  obtain ⟨h1, h2⟩ := He.ba h
  exact ⟨k, fun q hq => tupAt_ok (List.all_eq_true.mp h1 q hq), fun z hz => noAt_ok (List.all_eq_true.mp h2 z hz)⟩
/-- d[key] -/
def rIxD (X : Cx) (d : Addr) : R2 := fun x y H Q => ∃ (z : Str) (t : Addr), x = .ref d ∧ y = .str z ∧ PySem.W.nsIn X.K d z = some (some (.ref t)) ∧ Q (.ref t) H
theorem ix_kd {X : Cx} {d : Addr} (D : ∃ es n, KDict X.K X.w d es n) : IxR X (rIxD X d) := by
  intro value slice pins s σ H x y v u Q I rx ry h hs
  obtain ⟨es, n, D⟩ := D
  obtain ⟨z, t, rfl, rfl, e, q⟩ := h
  cases rx
  obtain ⟨tk, rfl⟩ := ry
  exact subscriptTail_builtinR (x := .ref t) (kd_type D I) PySem.F.slot_dict_getitem.lookup
    (wpAny_getItem_of (PySem.strKind_is X.prog X.w z tk) (PySem.W.mapOf_K (prog := X.prog) I.kIn D.at_ D.lit) (PySem.W.find_K D.at_ e) ⟨rfl, .ref t, H, I.tok _, rfl, q⟩) hs
/-- word not in d -/
def rNoD (X : Cx) (d : Addr) : R2 := fun x y H Q => ∃ (z : Str) (r : Option Value), x = .str z ∧ y = .ref d ∧ PySem.W.nsIn X.K d z = some r ∧ Q (.bl (!r.isSome)) H
theorem op_notIn {X : Cx} {d : Addr} (D : ∃ es n, KDict X.K X.w d es n) : OpR X (compareOp .NotIn) (rNoD X d) := by
  obtain ⟨es, n, D⟩ := D
  exact op_notIn_kd D
theorem pa_starK {X : Cx} {K : PySem.W.Frag} {e : Expr} {es : List Expr} {te : TE} {t : TA} {p : Pos} (he : PE X e te) (hr : PA X es t) (h : X.K = K := by rfl) (hs : starEach (.Starred e p :: es) X.env = (true, eval e X.env) :: starEach es X.env := by rfl) : PA X (.Starred e p :: es) (StX.tStar K te t) := by
  subst h
  exact StX.pa_star he hr hs
theorem g_star {K : PySem.W.Frag} {te : TE} {t : TA} {σ : L2.St} {H : Hp} {Q : List V → Hp → Prop} (q : te σ H fun x H1 => ∃ p xs, x = V.ref p ∧ (SqT K H1 p xs ∨ SqL K H1 p xs) ∧ t σ H1 fun ys H2 => Q (xs ++ ys) H2) : StX.tStar K te t σ H Q := q
end Kt

/-! Dicts of the top, with text keys, whose values are whole numbers: told by names. -/
namespace Ki
open PySem PySem.Spec PyProof.Rows L2 Lw
/-- the dict at d: its keys have these numbers; none of the texts zs is a key -/
structure TabI (K : PySem.W.Frag) (w : World) (d : Addr) (kvs : List (Str × Int)) (zs : List Str) : Prop where
  kd : ∃ es n, KDict K w d es n
  at_ : ∀ q ∈ kvs, ∃ t, PySem.W.nsIn K d q.1 = some (some (.int q.2 t))
  no : ∀ z ∈ zs, PySem.W.nsIn K d z = some none
def intAt (r : Option (Option Value)) (i : Int) : Bool := match r with
  | some (some (.int j _)) => decide (j = i)
  | _ => false
theorem intAt_ok {r : Option (Option Value)} {i : Int} (h : intAt r i = true) : ∃ t, r = some (some (.int i t)) := by
  unfold intAt at h
  split at h
  · rename_i j t
    obtain rfl : j = i := of_decide_eq_true h
    exact ⟨t, rfl⟩
  · cases h
def tabB (K : PySem.W.Frag) (d : Addr) (kvs : List (Str × Int)) (zs : List Str) : Bool := kvs.all (fun q => intAt (PySem.W.nsIn K d q.1) q.2) && zs.all fun z => Kt.noAt (PySem.W.nsIn K d z)
theorem tab_of {K : PySem.W.Frag} {w : World} {d : Addr} {kvs : List (Str × Int)} {zs : List Str} (k : ∃ es n, KDict K w d es n) (h : tabB K d kvs zs = true) : TabI K w d kvs zs := by
  obtain ⟨h1, h2⟩ := He.ba h
  exact ⟨k, fun q hq => intAt_ok (List.all_eq_true.mp h1 q hq), fun z hz => Kt.noAt_ok (List.all_eq_true.mp h2 z hz)⟩
/-- d[key], a whole number -/
def rIxDI (X : Cx) (d : Addr) : R2 := fun x y H Q => ∃ (z : Str) (i : Int) (t : Tok), x = .ref d ∧ y = .str z ∧ PySem.W.nsIn X.K d z = some (some (.int i t)) ∧ Q (.int i) H
theorem ix_kdI {X : Cx} {d : Addr} (D : ∃ es n, KDict X.K X.w d es n) : IxR X (rIxDI X d) := by
  intro value slice pins s σ H x y v u Q I rx ry h hs
  obtain ⟨es, n, D⟩ := D
  obtain ⟨z, i, t, rfl, rfl, e, q⟩ := h
  cases rx
  obtain ⟨tk, rfl⟩ := ry
  exact subscriptTail_builtinR (x := .int i t) (kd_type D I) PySem.F.slot_dict_getitem.lookup
    (wpAny_getItem_of (PySem.strKind_is X.prog X.w z tk) (PySem.W.mapOf_K (prog := X.prog) I.kIn D.at_ D.lit) (PySem.W.find_K D.at_ e) ⟨rfl, .int i, H, I.tok _, ⟨t, rfl⟩, q⟩) hs
end Ki

/-! A head's run looked at in parts, each by a kernel run of its own: less memory at once. -/
namespace Hz
theorem split3 {α β γ δ : Type} {x : Option α} {f : α → β} {g : α → γ} {h : α → δ} {a : β} {b : γ} {c : δ} (h1 : x.map f = some a) (h2 : x.map g = some b) (h3 : x.map h = some c) : x.map (fun s => (f s, g s, h s)) = some (a, b, c) := by
  cases x with
  | none => cases h1
  | some s =>
    simp only [Option.map_some, Option.some.injEq] at h1 h2 h3 ⊢
    rw [h1, h2, h3]
theorem split2 {α β γ : Type} {x : Option α} {f : α → β × γ} {a : β} {b : γ} (h1 : x.map (fun s => (f s).1) = some a) (h2 : x.map (fun s => (f s).2) = some b) : x.map f = some (a, b) := by
  cases x with
  | none => cases h1
  | some s =>
    simp only [Option.map_some, Option.some.injEq] at h1 h2 ⊢
    rw [← h1, ← h2]
end Hz

/-! The call of a class of errors that has its own __init__, whatever built-in class it stands over; keywords too. -/
namespace PySem
namespace EcP
open PySem.W PySem.Calls PyProof.Rows
section
variable {M : Model} {prog : Program} {w : World} {A : Around} {E : Value → Shared → Prop} {R : Result → Shared → Prop} {h : Heap} {g : Array GenState} {d : Drawn} {t : Nat} {os : OsState}
variable {nm q : Str} {C N : Addr} {bs bm bmB : List Value} {hdct : Bool} {sn : List Str} {sub : List Value} {ab : Bool} {col : Option Bool} {dd : Option Addr} {k0 k1 k2 k3 k5 : Option Value} {B newId initId : String} {rest : List Value} {kw : List (Str × Value)}
/-- what the tail of a class of errors must hold, that B's own maker makes its instances -/
structure Tail (bm : List Value) (B : String) : Prop where
  b : bm.contains (.type B) = true
  a : bm.contains (.type "AttributeError") = false
  n : bm.contains (.type "NameError") = false
theorem Tail.c {C : Addr} (T : Tail bm B) : ((Value.ref C :: bm).contains (.type B) = true ∧ (Value.ref C :: bm).contains (.type "AttributeError") = false) ∧ (Value.ref C :: bm).contains (.type "NameError") = false := by
  refine ⟨⟨?_, ?_⟩, ?_⟩ <;> rw [List.contains_cons]
  · rw [T.b, Bool.or_true]
  · rw [T.a]; rfl
  · rw [T.n]; rfl
theorem ask_new (F : ExcBaseFacts B newId initId bmB) (T : Tail bm B) {Q : Unit → Shared → Prop} (hC : h.get? C = some (excClassObj nm q C N bs bm hdct sn sub ab col dd k0 k1 k2 k3 k5 newId)) (hq : Q () ⟨h, g, d, t, os⟩) :
    wpAny M A (checkBuiltinCall newId ⟨.ref C :: rest, kw⟩) Q E ⟨h, g, d, t, os⟩ := by
  have c := (T.c (C := C)).1.1
  have st := F.noStar
  simp only [checkBuiltinCall, F.newKind, F.newSplit, F.newRow]
  repeat (first
    | refine wpAny_loadPart_at hC ?_
    | (refine wpAny_isSubtype_exc hC ?_; rw [c])
    | refine wpAny_staticBase_exc hC ?_
    | refine wpAny_madeBy_exc hC ?_
    | simp only [bne_self_eq_false, Bool.false_eq_true, if_false]
    | wp_step)
  exact hq
theorem run_new (F : ExcBaseFacts B newId initId bmB) (T : Tail bm B) (hC : h.get? C = some (excClassObj nm q C N bs bm hdct sn sub ab col dd k0 k1 k2 k3 k5 newId)) (hz : rest.length ≤ sizeLine)
    (hq : R (.ok (.ret (.ref (h.objs.size + 1)))) ⟨(h.push (kdv_tup rest)).push (HandSPX.excO C h.objs.size), g, d, t, os⟩) :
    codeAny (model prog w) A (.builtin newId ⟨.ref C :: rest, kw⟩) R ⟨h, g, d, t, os⟩ := by
  have en := F.ends
  obtain ⟨⟨cB, cA⟩, cN⟩ := T.c (C := C)
  refine codeAny_builtinAt F.entry ?_
  unfold Builtin.«BaseException.__new__»
  refine wpAt_bind ?_
  show wpAt _ _ _ (stack >>= _) _ _ _
  refine wpAt_bind (wpAt_stack fun p0 below0 => wpAt_of_wpAny ?_)
  wp_walk
  refine wpAt_of_wpAny ?_
  rw [F.owner]
  repeat (first
    | with_reducible refine wpAny_madeHere_exc F.canon hC ?_
    | with_reducible refine wpAny_loadPart_at hC ?_
    | (with_reducible refine wpAny_isSubtype_exc hC ?_; first | rw [cB] | rw [cA] | rw [cN])
    | wp_step)
  show R _ _
  rw [Heap.size_push]
  exact hq
theorem run_type (F : ExcBaseFacts B newId initId bmB) (T : Tail bm B) {fI : Addr} {Q : Fin → Shared → Prop} (hC : h.get? C = some (excClassObj nm q C N bs bm hdct sn sub ab col dd k0 k1 k2 k3 k5 newId))
    (hi : Looks (model prog w) h (typeLookup (.ref C) "__init__") (some (.ref fI))) (hb : ∀ x, Looks (model prog w) h (bindSpecial (.ref fI) x) (.ref fI, [x])) (hz : rest.length ≤ sizeLine)
    (hq : codeAny (model prog w) A (.call (.ref fI) ⟨.ref (h.objs.size + 1) :: rest, kw⟩)
      (fun r s' => match r with | .ok (.ret v) => v = .none ∧ Q (.done (.ret (.ref (h.objs.size + 1)))) s' | .ok _ => False | .error e => E e s') ⟨(h.push (kdv_tup rest)).push (HandSPX.excO C h.objs.size), g, d, t, os⟩) :
    wpAny (model prog w) A (Builtin.«type.__call__» ⟨.ref C :: rest, kw⟩) Q E ⟨h, g, d, t, os⟩ := by
  repeat (first
    | with_reducible refine wpAny_loadPart_at hC ?_
    | with_reducible refine wpAny_madeBy_exc hC ?_
    | wp_step)
  refine codeAny_call_builtin_code (Code.quiet_builtin _ F.quiet) (ask_new F T hC (run_new F T hC hz ?_))
  show wpAny _ _ _ _ _ _
  have up : ∀ b o, h.get? b = some o → ((h.push (kdv_tup rest)).push (HandSPX.excO C h.objs.size)).get? b = some o := fun b o e => Heap.get?_push_of_some _ (Heap.get?_push_of_some _ e)
  have hC1 := up _ _ hC
  have at1 : ((h.push (kdv_tup rest)).push (HandSPX.excO C h.objs.size)).get? (h.objs.size + 1) = some (HandSPX.excO C h.objs.size) := by heap_get
  have cC : (Value.ref C :: bm).contains (.ref C) = true := by simp
  have i1 := hi.keeps up
  have b1 := (hb (.ref (h.objs.size + 1))).keeps up
  unfold isInstance
  repeat (first
    | with_reducible refine wpAny_loadPart_at at1 ?_
    | (with_reducible refine wpAny_isSubtype_exc hC1 ?_; rw [cC])
    | wp_step)
  show wpAny _ _ (typeLookup (.ref C) _) _ _ _
  refine i1.at (wpAny_holding (wpAny_bind (b1.at (wpAny_bind (wpAny_call (codeAny_mono hq fun r s' z => ?_))))))
  rcases r with e | (v | _ | _ | _) <;> first | exact z | exact z.elim | skip
  obtain ⟨rfl, z⟩ := z
  first | exact wpAny_pure (wpAny_pure z) | (wp_walk; exact z)
theorem ask_type {Q : Unit → Shared → Prop} (hC : h.get? C = some (excClassObj nm q C N bs bm hdct sn sub ab col dd k0 k1 k2 k3 k5 newId)) (hq : Q () ⟨h, g, d, t, os⟩) :
    wpAny M A (checkBuiltinCall "type.__call__" ⟨.ref C :: rest, kw⟩) Q E ⟨h, g, d, t, os⟩ := by
  have ts := tc_sub
  have ty : (⟨h, g, d, t, os⟩ : Shared).TypeIs (.ref C) "type" := ⟨_, hC, rfl⟩
  simp only [checkBuiltinCall, tc_kind, tc_split]
  repeat (any_goals (first
    | assumption
    | with_reducible refine wpAny_loadPart_at hC ?_
    | with_reducible refine wpAny_onRaise ?_
    | with_reducible refine wpAny_map ?_
    | wp_step))
/-- C(.., k = ..), C with an __init__ of its own -/
theorem call_make (F : ExcBaseFacts B newId initId bmB) (T : Tail bm B) {fI : Addr} (hC : h.get? C = some (excClassObj nm q C N bs bm hdct sn sub ab col dd k0 k1 k2 k3 k5 newId))
    (hi : Looks (model prog w) h (typeLookup (.ref C) "__init__") (some (.ref fI))) (hb : ∀ x, Looks (model prog w) h (bindSpecial (.ref fI) x) (.ref fI, [x])) (hz : rest.length ≤ sizeLine)
    (hq : codeAny (model prog w) (A.under (.builtin "type.__call__" ⟨.ref C :: rest, kw⟩)) (.call (.ref fI) ⟨.ref (h.objs.size + 1) :: rest, kw⟩) (InitBack (h.objs.size + 1) R) ⟨(h.push (kdv_tup rest)).push (HandSPX.excO C h.objs.size), g, d, t, os⟩) :
    codeAny (model prog w) A (.call (.ref C) ⟨rest, kw⟩) R ⟨h, g, d, t, os⟩ := by
  have tl := tc_lookup
  have tb := tc_bind (.ref C)
  have ty : (⟨h, g, d, t, os⟩ : Shared).TypeIs (.ref C) "type" := ⟨_, hC, rfl⟩
  refine codeAny_of_tree ?_
  show wpAny _ _ (callAny (.ref C) _) _ _ _
  repeat (any_goals (first | assumption | with_reducible refine wpAny_loadPart_at hC ?_ | wp_step))
  refine ⟨rfl, codeAny_call_builtin_at (Code.quiet_builtin _ (by decide +kernel)) entry_typeCall (ask_type hC (run_type F T hC hi hb hz (codeAny_mono hq fun r s' z => ?_)))⟩
  rcases r with e | (v | _ | _ | _) <;> exact z
end
end EcP
end PySem

namespace PySem
namespace F
theorem store_KeyError : StoreFacts "KeyError" [.type "KeyError", .type "LookupError", .type "Exception", .type "BaseException", .type "object"] "object.__setattr__" "object" := ⟨by kernel_rfl,
  .of (owner := "object") (n := "__setattr__") (by rw [typeLookup_type, builtinLookup_eq_fast]; kernel_rfl) (by decide +kernel) (by decide +kernel) (by decide +kernel) (by first | exact .inl (by decide +kernel) | exact .inr (by decide +kernel))
    (by rw [isSubtype_type]; kernel_rfl), entry_object_sa, by decide +kernel, by decide +kernel, by decide +kernel, fun a b c => by unfold argsOk; kernel_rfl, fun self => by kernel_rfl⟩
end F
namespace EcP
open PySem.W PySem.Calls PyProof.Rows
def tailV : List Value := [.type "ValueError", .type "Exception", .type "BaseException", .type "object"]
def tailK : List Value := [.type "KeyError", .type "LookupError", .type "Exception", .type "BaseException", .type "object"]
/-- a built-in class of errors over which own classes may stand -/
structure Base (B newId : String) (bmT : List Value) : Prop where
  ex : ∃ initId bmB, ExcBaseFacts B newId initId bmB
  t : Tail bmT B
  s : ∃ T, StoreFacts T bmT "object.__setattr__" "object"
theorem baseV : Base "ValueError" "ValueError.__new__" tailV := ⟨⟨_, _, F.excBase_ValueError⟩, ⟨by decide +kernel, by decide +kernel, by decide +kernel⟩, ⟨_, F.store_ValueError⟩⟩
theorem baseK : Base "LookupError" "LookupError.__new__" tailK := ⟨⟨_, _, F.excBase_LookupError⟩, ⟨by decide +kernel, by decide +kernel, by decide +kernel⟩, ⟨_, F.store_KeyError⟩⟩
theorem Tail.of {bmT bm : List Value} {B : String} (T : Tail bmT B) (e : excTail bmT bm = true) : Tail bm B := ⟨(excTail_contains B _ e).trans T.b, (excTail_contains _ _ e).trans T.a, (excTail_contains _ _ e).trans T.n⟩

/-! ### self.f = v -/
section
open Builtin Builtin.ObjectAttr
variable {prog : Program} {w : World} {A : Around} {R : Result → Shared → Prop} {hp : Heap} {g : Array GenState} {d : Drawn} {t : Nat} {os : OsState}
variable {K : Frag} {name : Str} {tk : Tok} {v : Value} {x C : Addr} {fv : Array Value} {cd : ClassData} {T : String} {bmT : List Value}
theorem put_new (SF : StoreFacts T bmT "object.__setattr__" "object") (X : K.In hp) (hx : hp.get? x = some { cls := .ref C, data := .fields fv }) (ov : excOver K C bmT = true) (hcd : clsIn K C = some cd) (hh : cd.hasDict = true) (ha : findIn K (.ref C) name = some none)
    (hq : ∀ h' tk' dx, (∀ b o, b ≠ x → hp.get? b = some o → h'.get? b = some o) → hp.objs.size ≤ dx → dx ≠ x → h'.get? x = some { cls := .ref C, dict := some dx, data := .fields fv } → h'.Ns1 dx (fun y => if y = name then some v else none) → R (.ok (.ret .none)) ⟨h', g, d, tk', os⟩) :
    codeAny (model prog w) A (.call (.builtin "object.__setattr__") ⟨[.ref x, .str name tk, v], []⟩) R ⟨hp, g, d, t, os⟩ := by
  have I : InstAt hp x { cls := .ref C, data := .fields fv } C none := ⟨hx, rfl, rfl, trivial⟩
  have ne : x ≠ hp.objs.size := Nat.ne_of_lt (Heap.lt_size hx)
  have lc : Looks (model prog w) hp (classData C) cd := looks_clsIn X hcd
  refine osa_openX (r := none) SF X I ov (by unfold takerIn; rw [ha]; rfl) fun b => ?_
  show wpAny _ _ (storeInOwnDict (.ref x) (.ref C) (.str name tk) name v b) _ _ _
  obtain ⟨nm, bs, mro, ns, qn, hd, sn, sb, ab, col, del⟩ := cd
  dsimp only at hh
  subst hh
  unfold storeInOwnDict ownDictForStores
  repeat (first
    | with_reducible refine HandSPX.store_in_new ?_ ?_
    | with_reducible refine wpAny_loadPart_at hx ?_
    | with_reducible refine lc.at ?_
    | wp_step)
  · exact ⟨_, #[], _, (Heap.get?_update_ne _ _ _ _ ne.symm).trans (Heap.get?_push_at rfl rfl), rfl, fun e he => absurd he (by simp), fun _ => rfl⟩
  · intro h' tk' hn' hs
    have hx1 : (hp.push { cls := .type "dict", data := .dict #[] }).get? x = some { cls := .ref C, data := .fields fv } := Heap.get?_push_of_some _ hx
    exact hq h' tk' hp.objs.size (fun b o hb ho => (hs.2 b (Nat.ne_of_lt (Heap.lt_size ho))).trans ((Heap.get?_update_ne _ _ _ _ hb).trans (Heap.get?_push_of_some _ ho))) (Nat.le_refl _) ne.symm ((hs.2 x ne).trans (Heap.get?_update_self _ hx1 rfl)) hn'
theorem put_old {dx : Addr} {m0 : Str → Option Value} {nl : List Str} (SF : StoreFacts T bmT "object.__setattr__" "object") (X : K.In hp) (hx : hp.get? x = some { cls := .ref C, dict := some dx, data := .fields fv }) (hns : hp.Ns1 dx m0) (hw : Within m0 nl) (hz : nl.length ≤ 1000)
    (ov : excOver K C bmT = true) (hcd : clsIn K C = some cd) (hh : cd.hasDict = true) (ha : findIn K (.ref C) name = some none)
    (hq : ∀ h' tk', (∀ b o, b ≠ dx → hp.get? b = some o → h'.get? b = some o) → h'.Ns1 dx (fun y => if y = name then some v else m0 y) → R (.ok (.ret .none)) ⟨h', g, d, tk', os⟩) :
    codeAny (model prog w) A (.call (.builtin "object.__setattr__") ⟨[.ref x, .str name tk, v], []⟩) R ⟨hp, g, d, t, os⟩ := by
  obtain ⟨oD, esD, epD, hoD, hdD, _⟩ := hns.count hw
  have I : InstAt hp x { cls := .ref C, dict := some dx, data := .fields fv } C (some oD) := ⟨hx, rfl, rfl, hoD⟩
  have lc : Looks (model prog w) hp (classData C) cd := looks_clsIn X hcd
  refine osa_openX (r := none) SF X I ov (by unfold takerIn; rw [ha]; rfl) fun b => ?_
  show wpAny _ _ (storeInOwnDict (.ref x) (.ref C) (.str name tk) name v b) _ _ _
  obtain ⟨nm, bs, mro, ns, qn, hd, sn, sb, ab, col, del⟩ := cd
  dsimp only at hh
  subst hh
  unfold storeInOwnDict ownDictForStores
  repeat (first
    | with_reducible refine OEX.store_in_old hns hw hz ?_
    | with_reducible refine wpAny_loadPart_at hx ?_
    | with_reducible refine lc.at ?_
    | wp_step)
  exact fun h' tk' hn' hs => hq h' tk' (fun b o hb ho => (hs.2 b hb).trans ho) hn'
end
end EcP
end PySem

/-! Errors as values: made, written, their fields read, asked for their class. -/
namespace Ec
open PySem PySem.Spec PyProof.Rows L2

/-! ### what the written part says of an own class of errors -/
def Shape (K : PySem.W.Frag) (C : Addr) (bmT : List Value) (newId : String) : Prop :=
  ∃ nm q N bs bm sn sub ab col dd k0 k1 k2 k3 k5, K.lookup C = some (excClassObj nm q C N bs bm true sn sub ab col dd k0 k1 k2 k3 k5 newId) ∧ PySem.W.excTail bmT bm = true
def shapeB (K : PySem.W.Frag) (C : Addr) (bmT : List Value) (newId : String) : Bool := match K.lookup C with
  | some ⟨.type "type", _, .cls cd, sl⟩ => (match cd.mro, sl.toList with
    | .ref D :: bm, [_, _, _, _, some (.builtin n), _] => D == C && (n == newId && (cd.hasDict && (!cd.hasDel && PySem.W.excTail bmT bm)))
    | _, _ => false)
  | _ => false
theorem shape_ok {K : PySem.W.Frag} {C : Addr} {bmT : List Value} {newId : String} (h : shapeB K C bmT newId = true) : Shape K C bmT newId := by
  unfold shapeB at h
  split at h
  · rename_i dd cd sl hl
    split at h
    · rename_i D bm k0 k1 k2 k3 n k5 e1 e2
      obtain ⟨nm, bs, mro, ns, qn, hd, sn, sub, ab, col, hdel⟩ := cd
      obtain ⟨sll⟩ := sl
      simp only [Bool.and_eq_true, beq_iff_eq, Bool.not_eq_true'] at h e1 e2
      obtain ⟨rfl, rfl, rfl, rfl, hr⟩ := h
      subst e1
      subst e2
      exact ⟨nm, qn, ns, bs, bm, sn, sub, ab, col, dd, k0, k1, k2, k3, k5, hl, hr⟩
    · cases h
  · cases h
structure Own (K : PySem.W.Frag) (C : Addr) : Prop where
  maker : ∃ B newId bmT, PySem.EcP.Base B newId bmT ∧ Shape K C bmT newId
  sa : PySem.W.findIn K (.ref C) "__setattr__" = some (some (.builtin "object.__setattr__"))
  exC : PySem.W.subIn K (.ref C) (.type "BaseException") = some true
  tyC : PySem.W.typeIn K (.ref C) = some (.type "type")
  kC : PySem.W.keepIn K (.ref C) = true
  cl : (PySem.W.clsIn K C).isSome = true
  ga : PySem.W.findIn K (.ref C) "__getattribute__" = some (some (.builtin "BaseException.__getattribute__"))
  gg : PySem.W.findIn K (.ref C) "__getattr__" = some none
  ca : PySem.W.findIn K (.ref C) "__class__" = some (some (.builtin "object.__class__"))
  sp : PySem.W.specialIn K (.builtin "object.__class__") "__get__" = some (some (.builtin "getset_descriptor.__get__"))
  tk : PySem.W.takesIn K (.builtin "object.__class__") = some true
  mr : PySem.W.mroIn K C (.type "object") = some true
  hd : PySem.W.hasDictIn K C = true
def ownB (K : PySem.W.Frag) (C : Addr) : Bool := (shapeB K C PySem.EcP.tailV "ValueError.__new__" || shapeB K C PySem.EcP.tailK "LookupError.__new__") && (decide (PySem.W.findIn K (.ref C) "__setattr__" = some (some (.builtin "object.__setattr__"))) &&
  (decide (PySem.W.subIn K (.ref C) (.type "BaseException") = some true) && (decide (PySem.W.typeIn K (.ref C) = some (.type "type")) && (PySem.W.keepIn K (.ref C) && ((PySem.W.clsIn K C).isSome &&
  (decide (PySem.W.findIn K (.ref C) "__getattribute__" = some (some (.builtin "BaseException.__getattribute__"))) && (decide (PySem.W.findIn K (.ref C) "__getattr__" = some none) && (decide (PySem.W.findIn K (.ref C) "__class__" = some (some (.builtin "object.__class__"))) &&
  (decide (PySem.W.specialIn K (.builtin "object.__class__") "__get__" = some (some (.builtin "getset_descriptor.__get__"))) && (decide (PySem.W.takesIn K (.builtin "object.__class__") = some true) && (decide (PySem.W.mroIn K C (.type "object") = some true) && PySem.W.hasDictIn K C)))))))))))
theorem own_ok {K : PySem.W.Frag} {C : Addr} (h : ownB K C = true) : Own K C := by
  unfold ownB at h
  simp only [Bool.and_eq_true, Bool.or_eq_true, decide_eq_true_eq] at h
  obtain ⟨h1, h2, h3, h4, h5, h6, h7, h8, h9, h10, h11, h12, h13⟩ := h
  exact ⟨h1.elim (fun z => ⟨_, _, _, PySem.EcP.baseV, shape_ok z⟩) (fun z => ⟨_, _, _, PySem.EcP.baseK, shape_ok z⟩), h2, h3, h4, h5, h6, h7, h8, h9, h10, h11, h12, h13⟩

/-- at a: an error that was raised once, of this class, its dict d -/
def exg (a : Addr) (cls : Value) (d : Option Addr) : HO := .ext fun h => ∃ oe vs, h.get? a = some oe ∧ Zc cls d oe ∧ oe.data = .fields vs
theorem exg_ok {P : Program} {w : World} {H : Hp} {h : Heap} {a : Addr} {cls : Value} {d : Option Addr} {oe : Obj} {vs : Array Value} (e : h.get? a = some oe) (z : Zc cls d oe) (v : oe.data = .fields vs) : ObjOk P w H h a (exg a cls d) :=
  ⟨⟨oe, vs, e, z, v⟩, ⟨oe, e⟩, fun _ _ ⟨o, u, q, r⟩ k => ⟨o, u, k o q, r⟩⟩
theorem exg_at {P : Program} {w : World} {H : Hp} {h : Heap} {a C : Addr} {d : Option Addr} (hok : HOk P w H h) (he : H a = some (exg a (.ref C) d)) : ∃ oe, h.get? a = some oe ∧ oe.cls = .ref C ∧ oe.dict = d ∧ PySem.W.notCls oe = true := by
  have x : ObjOk P w H h a (.ext fun h => ∃ oe vs, h.get? a = some oe ∧ Zc (.ref C) d oe ∧ oe.data = .fields vs) := hok a _ he
  obtain ⟨oe, vs, e, z, v⟩ := x.1
  exact ⟨oe, e, z.1, z.2, by unfold PySem.W.notCls; rw [v] <;> rfl⟩
/-- at a: an error of the class at C, with these fields; made, or caught -/
inductive Exc (H : Hp) (a C : Addr) : List (Str × V) → Prop
  | bare (h : H a = some (exo a C none)) : Exc H a C []
  | dict {d : Addr} {fs : List (Str × V)} (h : H a = some (exo a C (some d))) (hd : H d = some (exd d fs)) : Exc H a C fs
  | heldB (h : H a = some (exg a (.ref C) none)) : Exc H a C []
  | heldD {d : Addr} {fs : List (Str × V)} (h : H a = some (exg a (.ref C) (some d))) (hd : H d = some (.xd fs)) : Exc H a C fs
theorem Exc.keep {H H' : Hp} {a C : Addr} {fs : List (Str × V)} (e : Exc H a C fs) (k : ∀ b u, H b = some u → H' b = some u) : Exc H' a C fs := by
  cases e with
  | bare h => exact .bare (k _ _ h)
  | dict h hd => exact .dict (k _ _ h) (k _ _ hd)
  | heldB h => exact .heldB (k _ _ h)
  | heldD h hd => exact .heldD (k _ _ h) (k _ _ hd)
theorem xd_at {P : Program} {w : World} {H : Hp} {h : Heap} {d : Addr} {fs : List (Str × V)} (hok : HOk P w H h) (e : H d = some (.xd fs)) : ∃ mA, h.Ns1 d mA ∧ ∀ f, RelO (fs.lookup f) (mA f) := by
  have x : ObjOk P w H h d (.xd fs) := hok d _ e
  exact x
theorem Exc.inst {P : Program} {w : World} {H : Hp} {h : Heap} {a C : Addr} {fs : List (Str × V)} (hok : HOk P w H h) (e : Exc H a C fs) : ∃ ox od, PySem.W.InstAt h a ox C od := by
  cases e with
  | bare q =>
    obtain ⟨t, ho⟩ := exo_at hok q
    exact ⟨_, none, ho, rfl, rfl, trivial⟩
  | dict q qd =>
    obtain ⟨t, ho⟩ := exo_at hok q
    obtain ⟨mA, hns, _⟩ := exd_at hok qd
    obtain ⟨o, hd, _⟩ := lookIn_ns hns
    exact ⟨_, some o, ho, rfl, rfl, hd⟩
  | heldB q =>
    obtain ⟨oe, ho, hc, hd, hn⟩ := exg_at hok q
    exact ⟨oe, none, ho, hc, hn, by rw [hd]; trivial⟩
  | heldD q qd =>
    obtain ⟨oe, ho, hc, hd, hn⟩ := exg_at hok q
    obtain ⟨mA, hns, _⟩ := xd_at hok qd
    obtain ⟨o, ho2, _⟩ := lookIn_ns hns
    exact ⟨oe, some o, ho, hc, hn, by rw [hd]; exact ho2⟩

/-! ### isinstance of such a value -/
def rIsX (K : PySem.W.Frag) : List V → Hp → VK → Prop := fun xs H Q => ∃ (a C : Addr) (fs : List (Str × V)) (c : V) (u : Value) (b : Bool), xs = [.ref a, c] ∧ Own K C ∧ Exc H a C fs ∧ ClsV c u ∧ PySem.W.kitOne K (.ref C) u = some b ∧ Q (.bl b) H
section
variable {X : Cx}
theorem call_isX : CallR X (.builtin "isinstance") (rIsX X.K) := by
  intro pins s σ H xs us Q I r h
  obtain ⟨a, C, fs, c, u, b, rfl, O, x, k, e, q⟩ := h
  obtain ⟨u1, u2, rfl, r1, r2⟩ := r.two
  cases (show u1 = Value.ref a from r1)
  have e2 := k.eq r2
  subst e2
  obtain ⟨ox, od, J⟩ := x.inst I.hok
  exact PySem.W.kia_one (PySem.W.kitx_exc O.cl O.ga O.gg O.exC O.ca O.sp O.tk O.mr) I.kIn J e (fun z => nomatch z) fun tk => ⟨.bl b, H, I.tok tk, rfl, q⟩
/-- isinstance of a plain value or of such an error -/
theorem call_isXi : CallR X (.builtin "isinstance") (fun xs H Q => rIsX X.K xs H Q ∨ rIsi X.K xs H Q) := fun pins s σ H xs us Q I r h => h.elim (call_isX pins s σ H xs us Q I r) (call_isi pins s σ H xs us Q I r)

/-! ### a field of such a value -/
def tFx (K : PySem.W.Frag) (f : Str) (te : TE) : TE := fun σ H Q => te σ H fun x H1 => ∃ (a C : Addr) (fs : List (Str × V)) (v : V), x = .ref a ∧ Own K C ∧ PySem.W.findIn K (.ref C) f = some none ∧ Exc H1 a C fs ∧ fs.lookup f = some v ∧ Q v H1
theorem pe_fx {e : Expr} {te : TE} {pos : Pos} {n : Str} (he : PE X e te) (hb : attributeBase e n X.env (eval e X.env) = eval e X.env := by rfl) :
    PE X (.Attribute e n pos) (tFx X.K n te) := by
  refine ⟨fun pins s σ H Q I h => attr_of hb (thn (he.run pins s σ H _ I h) fun u s1 hh => ?_)⟩
  obtain ⟨x, H1, I1, rx, a, C, fs, v, ex, O, hno, ee, l, q⟩ := hh
  subst ex
  obtain rfl : u = Value.ref a := rx
  have fin : ∀ {d : Addr} {mA : Str → Option Value} {oe : Obj}, s1.heap.get? a = some oe → oe.cls = .ref C → oe.dict = some d → PySem.W.notCls oe = true → s1.heap.Ns1 d mA → (∀ f, RelO (fs.lookup f) (mA f)) → wpAny (model X.prog X.w) X.A (getAttr (.ref a) n true) (EP X pins σ Q) X.xe s1 :=
    fun {d mA oe} ho hc hd hn hns hr => by
      obtain ⟨od, hod, hl⟩ := lookIn_ns hns
      obtain ⟨u, hu, ru⟩ := RelO.some_of (v := v) (o := mA n) (by rw [← l]; exact hr n)
      have J : PySem.W.InstAt s1.heap a oe C (some od) := ⟨ho, hc, hn, by rw [hd]; exact hod⟩
      exact HandSPX.exc_get I1.kIn J O.ga O.gg O.exC (PySem.W.findObj_own O.hd hno rfl (by rw [hl, hu])) (handed_of ru) ⟨v, H1, I1.tok _, ru, q⟩
  cases ee with
  | bare _ => cases l
  | heldB _ => cases l
  | dict ea ed =>
    obtain ⟨t1, ho⟩ := exo_at I1.hok ea
    obtain ⟨mA, hns, hr⟩ := exd_at I1.hok ed
    exact fin ho rfl rfl rfl hns hr
  | heldD ea ed =>
    obtain ⟨oe, ho, hc, hd, hn⟩ := exg_at I1.hok ea
    obtain ⟨mA, hns, hr⟩ := xd_at I1.hok ed
    exact fin ho hc hd hn hns hr

/-! ### self.f = y -/
variable {pins : List (Addr × Obj)} {σ : L2.St} {H : Hp} {s : Shared} {a C dx : Addr} {f : Str} {y : V} {u : Value} {fs : List (Str × V)} {Q : Unit → Shared → Prop} {E : Value → Shared → Prop} {A : Around}
theorem Own.cd {K : PySem.W.Frag} {C : Addr} (O : Own K C) : ∃ T bmT cd, StoreFacts T bmT "object.__setattr__" "object" ∧ PySem.W.excOver K C bmT = true ∧ PySem.W.clsIn K C = some cd ∧ cd.hasDict = true := by
  obtain ⟨B, newId, bmT, Bs, nm, q, N, bs, bm, sn, sub, ab, col, dd, k0, k1, k2, k3, k5, hC, ht⟩ := O.maker
  obtain ⟨T, SF⟩ := Bs.s
  have hcl : PySem.W.clsIn K C = some { name := nm, bases := bs, mro := .ref C :: bm, ns := N, qualname := q, hasDict := true, slotNames := sn, subclasses := sub, abstract := ab, collection := col, hasDel := false } := by unfold PySem.W.clsIn; rw [hC] <;> rfl
  refine ⟨T, bmT, _, SF, ?_, hcl, rfl⟩
  unfold PySem.W.excOver
  rw [hcl]
  show (C == C && PySem.W.excTail bmT bm) = true
  rw [ht, beq_self_eq_true] <;> rfl
/-- two tracked objects changed at once: the error, and the dict that it gets -/
theorem un_dict {h h' : Heap} {t1 : Addr} {o : HO} {fo : Obj} (hok : HOk X.prog X.w H h) (e : H a = some (exo a C none)) (n : h.objs.size ≤ dx) (ne : dx ≠ a) (k : ∀ b o, b ≠ a → h.get? b = some o → h'.get? b = some o) (hx : h'.get? a = some fo) :
    Un X.fs [] H (upd (upd H dx (exd dx fs)) a (exo a C (some dx))) h h' := by
  have hd : H dx = none := hok.fresh n
  have nd : ∀ {b : Addr} {o : Obj}, h.get? b = some o → b ≠ dx := fun {b o} q => Nat.ne_of_lt (Nat.lt_of_lt_of_le (Heap.lt_size q) n)
  have na : ∀ {b : Addr}, H b = none → b ≠ a := fun {b} q z => by rw [z, e] at q; cases q
  have low : ∀ {b : Addr} {v : HO}, H b = some v → b ≠ a → upd (upd H dx (exd dx fs)) a (exo a C (some dx)) b = some v := fun {b v} q z => by rw [upd_ne z, upd_ne (ne_of_none q hd)]; exact q
  refine ⟨fun b o q z _ _ => k b o (na z) q, fun b o q z _ _ => ⟨o.slots, k b o (na z) q⟩, fun b o q z _ => ?_, fun b o q _ => ?_, fun b xs q => low q (at_ne e q exo_tup), fun b o v q => low q (at_ne e q exo_frz), fun b ps q => ⟨#[], ?_⟩⟩
  · rw [upd_ne (na z), upd_ne (nd q)]
    exact z
  · by_cases hb : b = a
    · exact ⟨_, by rw [hb]; exact hx⟩
    · exact ⟨o, k b o hb q⟩
  · rw [low q (at_ne e q exo_tbl)]
    simp
theorem put_first (O : Own X.K C) (I : Inv X pins σ H s) (e : H a = some (exo a C none)) (hno : PySem.W.findIn X.K (.ref C) f = some none) (ry : RelV y u)
    (h : ∀ dx s', H dx = none → dx ≠ a → Inv X pins σ (upd (upd H dx (exd dx [(f, y)])) a (exo a C (some dx))) s' → Q () s') : wpAny (model X.prog X.w) A (setAttr (.ref a) f u) Q E s := by
  obtain ⟨T, bmT, cd, SF, ov, hcl, hh⟩ := O.cd
  obtain ⟨t1, ho⟩ := exo_at I.hok e
  obtain ⟨hp, g, d, t, os⟩ := s
  refine PySem.W.set_plain I.kIn (ox := { cls := .ref C, dict := none, data := .fields #[.ref t1, .none, .none, .none, .bool false, .none] }) (od := none) ⟨ho, rfl, rfl, trivial⟩ O.sa ?_
  refine PySem.EcP.put_new SF I.kIn ho ov hcl hh hno fun h' tk' dx k dn dne hx hn => ?_
  have hnd : H dx = none := I.hok.fresh dn
  refine h dx _ hnd dne (I.un (t' := tk') (un_dict (t1 := t1) (o := exd dx []) I.hok e dn dne k hx) fun b o q => ?_)
  by_cases hb : b = a
  · subst hb
    rw [upd_same] at q
    cases q
    exact exo_ok hx
  by_cases hd : b = dx
  · subst hd
    rw [upd_ne hb, upd_same] at q
    cases q
    exact exd_ok hn (relO_put (fs := []) ry fun g => True.intro)
  rw [upd_ne hb, upd_ne hd] at q
  refine (I.hok b o q).stay (fun c v hc z => k c v ?_ z) (fun c hc => ?_) fun c xs hc => ?_
  · rcases hc with rfl | hc
    · exact hb
    · exact at_ne e hc exo_own
  · rw [upd_ne (at_ne e hc exo_own), upd_ne (ne_of_none hc hnd)]
    exact hc
  · rw [upd_ne (at_ne e hc exo_tup), upd_ne (ne_of_none hc hnd)]
    exact hc
theorem put_more (O : Own X.K C) (I : Inv X pins σ H s) (e : H a = some (exo a C (some dx))) (ed : H dx = some (exd dx fs)) (hl : fs.length ≤ 900) (hno : PySem.W.findIn X.K (.ref C) f = some none) (ry : RelV y u)
    (h : ∀ s', Inv X pins σ (upd H dx (exd dx ((f, y) :: fs))) s' → Q () s') : wpAny (model X.prog X.w) A (setAttr (.ref a) f u) Q E s := by
  obtain ⟨T, bmT, cd, SF, ov, hcl, hh⟩ := O.cd
  obtain ⟨t1, ho⟩ := exo_at I.hok e
  obtain ⟨mA, hns, rel⟩ := exd_at I.hok ed
  have hw := within_of rel
  obtain ⟨hp, g, d, t, os⟩ := s
  obtain ⟨oD, _, _, hoD, _, _⟩ := hns.count hw
  refine PySem.W.set_plain I.kIn (ox := { cls := .ref C, dict := some dx, data := .fields #[.ref t1, .none, .none, .none, .bool false, .none] }) (od := some oD) ⟨ho, rfl, rfl, hoD⟩ O.sa ?_
  refine PySem.EcP.put_old SF I.kIn ho hns hw (by rw [List.length_map]; omega) ov hcl hh hno fun h' tk' k hn => ?_
  have hd : ∃ o, h'.get? dx = some o := by
    obtain ⟨o, _, _, e', _⟩ := hn
    exact ⟨o, e'⟩
  exact h _ (I.write (t' := tk') (x := dx) (e := dx) (o := exd dx ((f, y) :: fs)) (by rw [ed]; exact True.intro) (.inl rfl) k hd (exd_ok hn (relO_put ry rel)))
def tSt (K : PySem.W.Frag) (f : Str) (to te : TE) : TS := fun D σ H => te σ H fun y H1 => to σ H1 fun x H2 => ∃ a C : Addr, x = .ref a ∧ Own K C ∧ PySem.W.findIn K (.ref C) f = some none ∧
  ((H2 a = some (exo a C none) ∧ ∀ dx, H2 dx = none → dx ≠ a → D.nx σ (upd (upd H2 dx (exd dx [(f, y)])) a (exo a C (some dx)))) ∨
    ∃ (dx : Addr) (fs : List (Str × V)), H2 a = some (exo a C (some dx)) ∧ H2 dx = some (exd dx fs) ∧ fs.length ≤ 900 ∧ D.nx σ (upd H2 dx (exd dx ((f, y) :: fs))))
theorem ps_st {o e : Expr} {to te : TE} {f : Str} {p' pos : Pos} (ho : PE X o to) (he : PE X e te) (hs : swapsWith e (some (.Attribute o f p')) pos.line X.env = pure false := by rfl) : PS X (.Assign [.Attribute o f p'] e pos) (tSt X.K f to te) := by
  refine ⟨fun pins s σ H D I h => plainObj_wpAny_Assign_Attribute (thn (he.run pins s σ H _ I h) fun v s1 ⟨y, H1, I1, r1, q1⟩ => thn (ho.run pins s1 σ H1 _ I1 q1) fun u s2 ⟨x, H2, I2, r2, a, C, ex, O, hno, q⟩ => ?_) hs⟩
  subst ex
  obtain rfl : u = Value.ref a := r2
  rcases q with ⟨ea, q⟩ | ⟨dx, fs, ea, ed, hl, q⟩
  · exact put_first O I2 ea hno r1 fun dx s' n ne J => ⟨σ, _, J, q dx n ne⟩
  · exact put_more O I2 ea ed hl hno r1 fun s' J => ⟨σ, _, J, q⟩
end
end Ec

/-! Errors as values: the calls that make them. -/
namespace Ec
open PySem PySem.Spec PyProof.Rows L2
/-- the class at C has an __init__ of its own, at fI -/
structure Init (K : PySem.W.Frag) (C fI : Addr) : Prop where
  own : Own K C
  i : PySem.W.findIn K (.ref C) "__init__" = some (some (.ref fI))
  ty : PySem.W.typeIn K (.ref fI) = some (.type "function")
section
variable {X : Cx} {pins : List (Addr × Obj)} {σ : L2.St} {H : Hp} {s : Shared} {C fI : Addr} {fd : FuncData} {k : Nat} {ps ks : List Str} {sp : Sp} {Q : VK}
theorem make_at {us : List Value} {kw : List (Str × Value)} {args : Addr → List Value} {argV : Addr → List V} (N : Init X.K C fI) (F : FnOk X.prog X.w X.K X.mg X.base CX0 k fI fd ps sp) (hr : Room (k + 1) X.A) (I : Inv X pins σ H s) (hz : us.length ≤ sizeLine)
    (hb : ∀ (s : Shared) (a : Addr), X.K.In s.heap → (args a).length = ps.length → BindsTo s fd ⟨.ref a :: us, kw⟩ (ps.zip (args a))) (hv : ∀ a, Vals (argV a) (args a))
    (q : ∀ a, H a = none → sp (argV a) (upd H a (exo a C none)) (fun v H2 => v = .non ∧ Q (.ref a) H2) E0) : wpAny (model X.prog X.w) X.A (call (.ref C) us kw) (EP X pins σ Q) X.xe s := by
  obtain ⟨B, newId, bmT, Bs, nm, qn, Nn, bs, bm, sn, sub, ab, col, dd, k0, k1, k2, k3, k5, hC, ht⟩ := N.own.maker
  obtain ⟨initId, bmB, FB⟩ := Bs.ex
  obtain ⟨hp, g, dr, tk, os⟩ := s
  have hsz : hp.objs.size ≤ hp.objs.size + 1 := Nat.le_succ _
  have hn : H (hp.objs.size + 1) = none := I.hok.fresh hsz
  have hq := q (hp.objs.size + 1) hn
  have up : ∀ b o, hp.get? b = some o → ((hp.push (PySem.W.kdv_tup us)).push (PySem.HandSPX.excO C hp.objs.size)).get? b = some o := fun b o e => Heap.get?_push_of_some _ (Heap.get?_push_of_some _ e)
  have at1 : ((hp.push (PySem.W.kdv_tup us)).push (PySem.HandSPX.excO C hp.objs.size)).get? (hp.objs.size + 1) = some (PySem.HandSPX.excO C hp.objs.size) := by heap_get
  have I2 : Inv X pins σ (upd H (hp.objs.size + 1) (exo (hp.objs.size + 1) C none)) ⟨(hp.push (PySem.W.kdv_tup us)).push (PySem.HandSPX.excO C hp.objs.size), g, dr, tk, os⟩ := I.laid (t' := tk) (a := hp.objs.size + 1) (o := exo (hp.objs.size + 1) C none) up hsz (exo_ok at1)
  have hl : (args (hp.objs.size + 1)).length = ps.length := by rw [← (hv _).length]; exact F.len _ _ _ _ hq
  refine wpAny_call (PySem.EcP.call_make FB (Bs.t.of ht) (I.kIn _ _ hC) (PySem.W.looks_findIn I.kIn N.i) (fun x => PySem.W.bind_fn I.kIn x N.ty) hz (codeAny_mono (F.run _ X.stack _ _ ⟨Value.ref (hp.objs.size + 1) :: us, kw⟩ (args (hp.objs.size + 1)) _ _ E0 (hr.make C us kw) (I2.env0.make C us kw) (hb _ _ I2.kIn hl) (hv _) hq) fun r s' hq' => ?_))
  cases r with
  | error er => exact pass0 pins σ _ _ er s' I2 hq'
  | ok fl =>
    cases fl with
    | ret u =>
      obtain ⟨v, H2, J, rv, ev, q2⟩ := I2.after hq'
      subst ev
      exact ⟨rv, .ref (hp.objs.size + 1), H2, J, rfl, q2⟩
    | next => exact False.elim hq'
    | brk => exact False.elim hq'
    | cont => exact False.elim hq'
/-- a class without an __init__ of its own -/
structure Plain (K : PySem.W.Frag) (C : Addr) : Prop where
  own : Own K C
  e : PySem.W.excIn K C PySem.EcP.tailV "ValueError.__new__" = true
theorem make_plain {us : List Value} (N : Plain X.K C) (I : Inv X pins σ H s) (hz : us.length ≤ sizeLine) (q : ∀ a, H a = none → Q (.ref a) (upd H a (exo a C none))) : wpAny (model X.prog X.w) X.A (call (.ref C) us) (EP X pins σ Q) X.xe s := by
  obtain ⟨bm, N', nm, qn, bs, hdct, sn, sub, ab, col, dd, k0, k1, k2, k3, k5, mN, hC, hN, hni, T⟩ := exc_obj I.kIn N.e
  obtain ⟨hp, g, dr, tk, os⟩ := s
  refine wpAny_call_exc_subT F.excBase_ValueError T hC hN hni (fun h' a hm => ?_) hz
  have hn : H a = none := I.hok.gone hm.new
  obtain ⟨t, ht, _, _⟩ := hm.there
  exact ⟨.ref a, upd H a (exo a C none), I.laidN hm.keeps hm.new hn (exo_ok ht), rfl, q a hn⟩
end

/-! ### the rules -/
/-- C(e, ..), its own __init__ keeps sp -/
def tMkI (C : Addr) (sp : Sp) (dvs : List V) (t : TA) : TE := fun σ H Q => t σ H fun vs H1 => vs.length ≤ 1000 ∧ ∀ a, H1 a = none → sp (.ref a :: (vs ++ dvs)) (upd H1 a (exo a C none)) (fun v H2 => v = .non ∧ Q (.ref a) H2) E0
/-- C(k = e, ..) -/
def tMkK (C : Addr) (sp : Sp) (gV : List V → List V → List V) (tk : TA) : TE := fun σ H Q => tk σ H fun zs H1 => ∀ a, H1 a = none → sp (gV [.ref a] zs) (upd H1 a (exo a C none)) (fun v H2 => v = .non ∧ Q (.ref a) H2) E0
/-- C(e, ..), without an __init__ of its own -/
def tMkP (C : Addr) (t : TA) : TE := fun σ H Q => t σ H fun vs H1 => vs.length ≤ 1000 ∧ ∀ a, H1 a = none → Q (.ref a) (upd H1 a (exo a C none))
section
variable {X : Cx} {C fI : Addr} {fd : FuncData} {k : Nat} {ps ks : List Str} {sp : Sp} {ds : List Value} {dvs : List V} {x : Str} {p pos : Pos} {e : Expr} {es : List Expr} {kws : List Keyword} {t tk : TA} {g : List Value → List Value → List Value} {gV : List V → List V → List V}
theorem len_line {vs : List V} {us : List Value} (r : Vals vs us) (h : vs.length ≤ 1000) : us.length ≤ sizeLine := by
  rw [← Paired.length r, sizeLine_eq]
  omega
theorem pe_mkI (N : Init X.K C fI) (F : FnOk X.prog X.w X.K X.mg X.base CX0 k fI fd ps sp) (hr : Room (k + 1) X.A) (hb : Binds X.K fd ps ds) (hd : Vals dvs ds) (hm : X.mg x = some (.ref C)) (ha : PA X (e :: es) t) (hg : Gl X x := by rfl)
    (hdb : (x == ("__debug__" : Str)) = false := by decide) (he : starEach (e :: es) X.env = (false, eval e X.env) :: starEach es X.env := by rfl) (hpl : (backTo pos (starEach es X.env)).any (·.1) = false := by rfl) :
    PE X (.Call (.Name x p) (e :: es) [] pos) (tMkI C sp dvs t) := by
  refine ⟨fun pins s σ H Q I h => wpAny_Call_Name_kw (ld_glob I hg hm ?_ hdb)⟩
  refine PySem.W.callWith_K (h₀ := X.base) I.ok.mod.kin N.own.kC (thn (ha.run pos pins s σ H _ I h) fun us s1 ⟨vs, H1, I1, r1, hz, q1⟩ => ⟨I1.kIn, ?_⟩) he hpl
  exact make_at (args := fun a => .ref a :: (us ++ ds)) (argV := fun a => .ref a :: (vs ++ dvs)) N F hr I1 (len_line r1 hz) (fun s a K e => hb s (.ref a :: us) K e) (fun a => .cons rfl (r1.append hd)) q1
theorem pe_mkI0 (N : Init X.K C fI) (F : FnOk X.prog X.w X.K X.mg X.base CX0 k fI fd ps sp) (hr : Room (k + 1) X.A) (hb : Binds X.K fd ps ds) (hd : Vals dvs ds) (hm : X.mg x = some (.ref C)) (hg : Gl X x := by rfl) (hdb : (x == ("__debug__" : Str)) = false := by decide) :
    PE X (.Call (.Name x p) [] [] pos) (tMkI C sp dvs tNil) := by
  refine ⟨fun pins s σ H Q I h => wpAny_Call_Name_kw (ld_glob I hg hm ?_ hdb)⟩
  refine PySem.W.callWith_K0 I.kIn N.own.kC ?_
  obtain ⟨hz, q⟩ := h
  rw [List.nil_append] at q
  refine make_at (us := []) (args := fun a => .ref a :: ds) (argV := fun a => .ref a :: dvs) N F hr I (Nat.zero_le _) (fun s a K e => ?_) (fun a => .cons rfl hd) q
  have z := hb s [.ref a] K
  rw [show [Value.ref a] ++ ds = .ref a :: ds from rfl] at z
  exact z e
theorem pe_mkK (N : Init X.K C fI) (F : FnOk X.prog X.w X.K X.mg X.base CX0 k fI fd ps sp) (hr : Room (k + 1) X.A) (hb : KBinds X.K fd ps ks g gV) (hm : X.mg x = some (.ref C)) (hkw : PK X kws tk) (hg : Gl X x := by rfl)
    (hall : (backToKw pos (keywordEach kws X.env)).all (·.1.isSome) = true := by rfl) (hks : (backToKw pos (keywordEach kws X.env)).filterMap (·.1) = ks := by rfl) (hdb : (x == ("__debug__" : Str)) = false := by decide)
    (hpl : ((backTo pos (starEach [] X.env)).any (·.1) || (backToKw pos (keywordEach kws X.env)).any (·.1.isNone)) = false := by rfl) :
    PE X (.Call (.Name x p) [] kws pos) (tMkK C sp gV tk) := by
  refine ⟨fun pins s σ H Q I h => wpAny_Call_Name_kw (ld_glob I hg hm ?_ hdb)⟩
  refine PySem.W.callWith_KW0 (h₀ := X.base) I.ok.mod.kin N.own.kC hall ?_ hpl
  refine thn (hkw.run pos pins s σ H _ I h) fun ws s2 ⟨zs, H2, I2, rz, q2⟩ => ⟨I2.kIn, ?_⟩
  rw [hks]
  exact make_at (us := []) (kw := ks.zip ws) (args := fun a => g [.ref a] ws) (argV := fun a => gV [.ref a] zs) N F hr I2 (Nat.zero_le _) (fun s a K e => hb.to s [.ref a] ws K e) (fun a => hb.rel (.cons rfl .nil) rz) q2
theorem pe_mkP (N : Plain X.K C) (hm : X.mg x = some (.ref C)) (ha : PA X (e :: es) t) (hg : Gl X x := by rfl) (hdb : (x == ("__debug__" : Str)) = false := by decide)
    (he : starEach (e :: es) X.env = (false, eval e X.env) :: starEach es X.env := by rfl) (hpl : (backTo pos (starEach es X.env)).any (·.1) = false := by rfl) : PE X (.Call (.Name x p) (e :: es) [] pos) (tMkP C t) := by
  refine ⟨fun pins s σ H Q I h => wpAny_Call_Name_kw (ld_glob I hg hm ?_ hdb)⟩
  exact PySem.W.callWith_K (h₀ := X.base) I.ok.mod.kin N.own.kC (thn (ha.run pos pins s σ H _ I h) fun us s1 ⟨vs, H1, I1, r1, hz, q1⟩ => ⟨I1.kIn, make_plain N I1 (len_line r1 hz) q1⟩) he hpl
theorem pe_mkP0 (N : Plain X.K C) (hm : X.mg x = some (.ref C)) (hg : Gl X x := by rfl) (hdb : (x == ("__debug__" : Str)) = false := by decide) : PE X (.Call (.Name x p) [] [] pos) (tMkP C tNil) := by
  refine ⟨fun pins s σ H Q I h => wpAny_Call_Name_kw (ld_glob I hg hm ?_ hdb)⟩
  exact PySem.W.callWith_K0 I.kIn N.own.kC (make_plain (us := []) N I (Nat.zero_le _) h.2)
end
end Ec

/-! Calls by keywords of a def with defaults; what the head tells of a program's classes of errors. -/
namespace Ec
open PySem PySem.Spec PyProof.Rows L2
def grd {α : Type} (n m : Nat) (g : List α → List α → List α) (us ws : List α) : List α := if us.length = n ∧ ws.length = m then g us ws else []
theorem grd_eq {α : Type} {n m : Nat} {g : List α → List α → List α} {us ws : List α} (h : us.length = n) (h' : ws.length = m) : grd n m g us ws = g us ws := if_pos ⟨h, h'⟩
section
variable {K : PySem.W.Frag} {x qual : Str} {params : Arguments} {body : List Stmt} {scope : Scope} {dvs : List V} {kws : List (Str × V)} {f : Addr} {fd : FuncData} {ps ks : List Str}
/-- n values by place, m by keywords, the others from the defaults -/
theorem kb_dfl (G : {α : Type} → List α → List α → List α → List α) (n m : Nat) (F : FunD K x qual params body scope dvs kws f fd) (hd : dvs ≠ []) (hp : 0 < ps.length)
    (hr : ∀ {vs zs ds : List V} {us ws its : List Value}, Vals vs us → Vals zs ws → Vals ds its → Vals (G vs zs ds) (G us ws its))
    (h : ∀ (T : Addr) (kV doc pm : Value) (an : Option Addr) (cdv ct : Value) (us ws its : List Value), us.length = n → ws.length = m → its.length = dvs.length →
      ∃ k, bindArgs (PySem.W.fnOf x qual params body scope (.ref T) kV doc pm an cdv ct) ⟨us, ks.zip ws⟩ = seqItems? (.ref T) >>= k ∧ k (some its.toArray) = pure (ps.zip (G us ws its))) :
    ∃ g, KBinds K fd ps ks g (grd n m fun vs zs => G vs zs dvs) := by
  obtain ⟨oc, od, dV, kV, doc, pm, an, cdv, ct, osl, rfl, lk, hcd, hD, hK⟩ := F.ex
  rcases hD with ⟨e, _⟩ | ⟨_, T, o, its, mm, rfl, lT, oT, rT⟩
  · exact absurd e hd
  refine ⟨grd n m fun us ws => G us ws its, fun s us ws X hlen => ?_, fun {vs us zs ws} r1 r2 => ?_⟩
  · unfold grd at hlen ⊢
    by_cases c : us.length = n ∧ ws.length = m
    · rw [if_pos c] at hlen ⊢
      obtain ⟨k, e1, e2⟩ := h T kV doc pm an cdv ct us ws its c.1 c.2 rT.length.symm
      refine BindsTo.of_looks fun M => ?_
      rw [e1]
      exact looks_items X lT oT (.of_pure e2)
    · rw [if_neg c] at hlen
      have z : (0 : Nat) = ps.length := hlen
      omega
  · unfold grd
    rw [r1.length, r2.length]
    by_cases c : us.length = n ∧ ws.length = m
    · rw [if_pos c, if_pos c]
      exact hr r1 r2 rT
    · rw [if_neg c, if_neg c]
      exact .nil
end

/-! ### a program's classes of errors -/
/-- the classes: name, has it an __init__ of its own, its fields -/
abbrev Cl : Type := Str × Bool × List Str
abbrev cA (K : PySem.W.Frag) (x : Str) : Addr := He.ga K x
abbrev iA (K : PySem.W.Frag) (x : Str) : Addr := He.fAd K (x, some "__init__")
def clB (K : PySem.W.Frag) (c : Cl) : Bool := ownB K (cA K c.1) && ((if c.2.1 = true then decide (PySem.W.findIn K (.ref (cA K c.1)) "__init__" = some (some (.ref (iA K c.1)))) && decide (PySem.W.typeIn K (.ref (iA K c.1)) = some (.type "function")) else PySem.W.excIn K (cA K c.1) PySem.EcP.tailV "ValueError.__new__") &&
  c.2.2.all fun f => decide (PySem.W.findIn K (.ref (cA K c.1)) f = some none))
def kinB (K : PySem.W.Frag) (p : Str × Str × Bool) : Bool := decide (PySem.W.kitOne K (.ref (cA K p.1)) (.ref (cA K p.2.1)) = some p.2.2)
def kitB (K : PySem.W.Frag) (p : Str × String × Bool) : Bool := decide (PySem.W.kitOne K (.ref (cA K p.1)) (.type p.2.1) = some p.2.2)
def exB (cs : List Cl) (ks : List (Str × Str × Bool)) (bs : List (Str × String × Bool)) (K : PySem.W.Frag) : Bool := cs.all (clB K) && (ks.all (kinB K) && bs.all (kitB K))
structure Errs (cs : List Cl) (ks : List (Str × Str × Bool)) (bs : List (Str × String × Bool)) (K : PySem.W.Frag) : Prop where
  cl : ∀ c ∈ cs, clB K c = true
  kin : ∀ p ∈ ks, PySem.W.kitOne K (.ref (cA K p.1)) (.ref (cA K p.2.1)) = some p.2.2
  kit : ∀ p ∈ bs, PySem.W.kitOne K (.ref (cA K p.1)) (.type p.2.1) = some p.2.2
section
variable {cs : List Cl} {ks : List (Str × Str × Bool)} {bs : List (Str × String × Bool)} {K : PySem.W.Frag}
theorem errs_of (h : exB cs ks bs K = true) : Errs cs ks bs K := by
  unfold exB at h
  simp only [Bool.and_eq_true, List.all_eq_true] at h
  exact ⟨h.1, fun p hp => of_decide_eq_true (h.2.1 p hp), fun p hp => of_decide_eq_true (h.2.2 p hp)⟩
theorem Errs.own (E : Errs cs ks bs K) {x : Str} {b : Bool} {fs : List Str} (h : (x, b, fs) ∈ cs) : Own K (cA K x) := by
  have z := E.cl _ h
  unfold clB at z
  exact own_ok (Bool.and_eq_true_iff.mp z).1
theorem Errs.init (E : Errs cs ks bs K) {x : Str} {fs : List Str} (h : (x, true, fs) ∈ cs) : Init K (cA K x) (iA K x) := by
  have z := E.cl _ h
  unfold clB at z
  obtain ⟨z1, z⟩ := Bool.and_eq_true_iff.mp z
  obtain ⟨z2, _⟩ := Bool.and_eq_true_iff.mp z
  rw [if_pos rfl] at z2
  obtain ⟨z3, z4⟩ := Bool.and_eq_true_iff.mp z2
  exact ⟨own_ok z1, of_decide_eq_true z3, of_decide_eq_true z4⟩
theorem Errs.plain (E : Errs cs ks bs K) {x : Str} {fs : List Str} (h : (x, false, fs) ∈ cs) : Plain K (cA K x) := by
  have z := E.cl _ h
  unfold clB at z
  obtain ⟨z1, z⟩ := Bool.and_eq_true_iff.mp z
  obtain ⟨z2, _⟩ := Bool.and_eq_true_iff.mp z
  exact ⟨own_ok z1, z2⟩
theorem Errs.fld (E : Errs cs ks bs K) {x f : Str} {b : Bool} {fs : List Str} (h : (x, b, fs) ∈ cs) (hf : f ∈ fs) : PySem.W.findIn K (.ref (cA K x)) f = some none := by
  have z := E.cl _ h
  unfold clB at z
  obtain ⟨_, z⟩ := Bool.and_eq_true_iff.mp z
  obtain ⟨_, z⟩ := Bool.and_eq_true_iff.mp z
  exact of_decide_eq_true (List.all_eq_true.mp z f hf)
end
end Ec

/-! The law's def, run where no repr is under way around it: so repr of data is its text. -/
namespace Gd
open PySem PySem.Spec PyProof.Rows L2
/-- a def's promise where nothing that guards is under way around the call -/
structure FnG (P : Program) (w : World) (K : PySem.W.Frag) (mg : Str → Option Value) (base : Heap) (CX : CXT) (k : Nat) (f : Addr) (fd : FuncData) (ps : List Str) (sp : Sp) : Prop where
  ar : ∀ xs G Q E, sp xs G Q E → xs.length = ps.length
  go : ∀ (B : Around) (out : List Env) (t : Shared) (G : Hp) (as : Args) (us : List Value) (xs : List V) (Q : VK) (E : XK), B.guards = some [] → Room k B → Env0 P w K mg base B out t G → BindsTo t fd as (ps.zip us) → Vals xs us → sp xs G Q E →
    codeAny (model P w) B (.call (.ref f) as) (CR CX out P w G t Q E) t
theorem fnG_of {CX : CXT} {P : Program} {w : World} {K : PySem.W.Frag} {mg : Str → Option Value} {base : Heap} {k : Nat} {f : Addr} {x qu : Str} {pr : Arguments} {bd : List Stmt} {sc : Scope} {v1 v2 v3 v4 v5 v6 v7 : Value} {a1 a2 : Option Addr}
    {sl : Array (Option Value)} {N ps : List Str} {sp : Sp} (at_ : K.lookup f = some ⟨v7, a2, .func (PySem.W.fnOf x qu pr bd sc v1 v2 v3 v4 a1 v5 v6), sl⟩) (co : PySem.W.codeIn K v5 qu = true) (S : FnScope N ps sc) (ar : ∀ xs G Q E, sp xs G Q E → xs.length = ps.length)
    (body : ∀ (B : Around) (out : List Env) (t : Shared) (G : Hp) (xs : List V) (Q : VK) (E : XK), B.guards = some [] → Room k (B.deeper (envOfC qu sc t.heap.objs.size f v5)) → sp xs G Q E →
      ∃ rd, PSs (cxOf CX P w K mg base N qu sc f v5 B out t G E) bd rd ∧ rd { nx := fun _ G' => Q .non G', rt := Q } (start N xs) G) :
    FnG P w K mg base CX (k + 1) f (PySem.W.fnOf x qu pr bd sc v1 v2 v3 v4 a1 v5 v6) ps sp := by
  constructor
  · exact ar
  intro B out t G as us xs Q E gs room en bi rel pr0
  have n0 := ar _ _ _ _ pr0
  have inK : K.In t.heap := en.mod.kin.keeps fun a u z => (en.bs a u z).1
  have noL : t.heap.NoLimit := en.mod.nolimit.keeps fun a u z => (en.bs a u z).1
  have kinds : ∀ q ∈ ps.zip us, sc.names.lookup q.1 = some .local ∨ (sc.names.lookup q.1 = some .cell ∧ ((cellsFrom (t.heap.objs.size + 1) sc.names []).lookup q.1).isSome = true) := by
    rintro ⟨z, u⟩ hq
    rcases S.par z (List.of_mem_zip hq).1 with h | h
    · exact Or.inl h
    · exact Or.inr ⟨h, PySem.W.cellsFrom_some _ _ _ (Or.inl h)⟩
  refine codeAny_call_function room.depth (inK _ _ at_) rfl S.co S.gen rfl (PySem.W.codeRec_of inK co) (bi _ _ _ _ ?_)
  refine wpAny_newFunctionEnv_cells S.kind kinds fun en1 z1 t1 in1 => ?_
  subst z1
  refine ⟨noL.keeps in1.toInCall.keep, codeAny_func ?_⟩
  obtain ⟨rd, tm, hrd⟩ := body B out t G xs Q E gs (room.deeper _) pr0
  have J : Inv (cxOf CX P w K mg base N qu sc f v5 B out t G E) [] (start N xs) G t1 := inv_start S room.hd en n0 rel in1
  refine wpAny_mono (tm.run [] t1 (start N xs) G _ J hrd) (fun fl t2 end_ => ?_) fun _ _ z => z
  cases fl with
  | ret u =>
    obtain ⟨y, st, G2, J2, ry, hy⟩ := end_
    exact ⟨y, G2, J2.os, J2.bare, J2.base, J2.hok, ry, hy⟩
  | next =>
    obtain ⟨st, G2, J2, hy⟩ := end_
    exact ⟨V.non, G2, J2.os, J2.bare, J2.base, J2.hok, (rfl : Value.none = Value.none), hy⟩
  | brk =>
    obtain ⟨_, _, _, z⟩ := end_
    exact z.elim
  | cont =>
    obtain ⟨_, _, _, z⟩ := end_
    exact z.elim
theorem okG {CX : CXT} {P : Program} {w : World} {K : PySem.W.Frag} {mg : Str → Option Value} {base : Heap} {k : Nat} {x qu : Str} {pr : Arguments} {bd : List Stmt} {sc : Scope} {f : Addr} {fd : FuncData} {N ps : List Str} {sp : Sp} {dvs : List V} {kws : List (Str × V)} (F : FunD K x qu pr bd sc dvs kws f fd) (S : FnScope N ps sc)
    (ar : ∀ xs G Q E, sp xs G Q E → xs.length = ps.length)
    (body : ∀ (cdv : Value) (B : Around) (out : List Env) (t : Shared) (G : Hp) (xs : List V) (Q : VK) (E : XK), B.guards = some [] → Room k (B.deeper (envOfC qu sc t.heap.objs.size f cdv)) → sp xs G Q E →
      ∃ rd, PSs (cxOf CX P w K mg base N qu sc f cdv B out t G E) bd rd ∧ rd { nx := fun _ G' => Q .non G', rt := Q } (start N xs) G) : FnG P w K mg base CX (k + 1) f fd ps sp := by
  obtain ⟨_, _, _, _, _, _, _, cdv, _, _, rfl, at_, co, _, _⟩ := F.ex
  exact fnG_of at_ co S ar fun B out t G xs Q E gs room pr0 => body cdv B out t G xs Q E gs room pr0
/-- the call of the law behind the top -/
theorem callG {P : Program} {w : World} {K : PySem.W.Frag} {mg mb : Str → Option Value} {CX : CXT} {k : Nat} {f b0 : Addr} {fd : FuncData} {x : Str} {sp : Sp} {t : Shared} {us : List Value} {ks : List Int}
    (inK : K.In t.heap) (ns1 : t.heap.Ns mainGlobals mg) (ns2 : t.heap.Ns builtinsNs mb) (boot : ∀ z : Str, z ≠ "__name__" → mb z = bootBuiltins z) (noL : t.heap.NoLimit) (nog : t.gens = #[])
    (at_ : t.heap.get? b0 = some { cls := .type "list", data := .seq us.toArray }) (are : IntsAre us ks) (few : ks.length ≤ sizeLine) (room : Room k callerA)
    (F : ∀ base : Heap, K.In base → base.Ns mainGlobals mg → FnG P w K mg base CX k f fd [x] sp) (bi : ∀ (t : Shared) (u : Value), BindsTo t fd ⟨[u], []⟩ [(x, u)])
    (pr0 : ∀ G : Hp, Only G → SqL K G b0 (ks.map V.int) → sp [.ref b0] G (fun v _ => v = .bl true) fun _ _ _ => False)
    (noX : ∀ G e t', CX [] G t (fun _ _ _ => False) e t' → False) :
    codeAny (model P w) callerA (.call (.ref f) ⟨[.ref b0], []⟩) (fun r t' => r = .ok (.ret (.bool true)) ∧ OldK t.heap t'.heap ∧ t'.os = t.os ∧ AllBare t'.gens) t := by
  have rel := vals_ints are
  have many := are.length
  -- what is tracked: the script at most
  have main : ∀ G : Hp, Only G → SqL K G b0 (ks.map V.int) → HOk P w G t.heap → (∀ a, G a ≠ none → a = b0) → (G b0 ≠ none → K.lookup b0 = none) →
      codeAny (model P w) callerA (.call (.ref f) ⟨[.ref b0], []⟩) (fun r t' => r = .ok (.ret (.bool true)) ∧ OldK t.heap t'.heap ∧ t'.os = t.os ∧ AllBare t'.gens) t := by
    intro G oG sG okG oneG kG
    have there : ∀ {a : Addr} {u : Obj}, t.heap.get? a = some u → G a = none → (hidT t.heap G).get? a = some u := fun h1 h2 => hidT_get h1 h2
    have free : ∀ {a : Addr} {u : Obj} {es : Array DictEntry} {ep : Nat}, t.heap.get? a = some u → u.data = .dict es ep → G a = none := by
      intro a u es ep h1 h2
      rcases hG : G a with _ | y
      · rfl
      · obtain rfl : a = b0 := oneG a (by rw [hG]; simp)
        rw [at_] at h1
        cases h1
        have h3 : Data.seq us.toArray _ = Data.dict es ep := h2
        cases h3
    have keepN : ∀ {a : Addr} {m : Str → Option Value}, t.heap.Ns a m → (hidT t.heap G).Ns a m := by
      rintro a m ⟨u, es, ep, h1, h2, h3⟩
      exact ⟨u, es, ep, there h1 (free h1 h2), h2, h3⟩
    have inB : K.In (hidT t.heap G) := by
      intro a u h1
      refine there (inK a u h1) ?_
      rcases hG : G a with _ | y
      · rfl
      · obtain rfl : a = b0 := oneG a (by rw [hG]; simp)
        rw [kG (by rw [hG]; simp)] at h1
        cases h1
    have mo : Mod K mg (hidT t.heap G) := ⟨inB, keepN ns1, ⟨mb, keepN ns2, boot⟩, by obtain ⟨mc, h1, h2⟩ := noL; exact ⟨mc, keepN h1, h2⟩⟩
    have en : Env0 P w K mg (hidT t.heap G) callerA [] t G := ⟨rfl, mo, fun a u h => of_hidT h, Nat.le_of_eq (hidT_size _ _), True.intro, fun a h => absurd (show a ∈ ([] : List Addr) from h) List.not_mem_nil, okG, .of_eq nog⟩
    have run1 := (F _ inB (keepN ns1)).go callerA [] t G ⟨[.ref b0], []⟩ [.ref b0] [.ref b0] _ _ rfl room en (bi t (.ref b0)) (.cons rfl .nil) (pr0 G oG sG)
    refine codeAny_mono run1 fun r t' h => ?_
    rcases r with e | fl
    · exact (noX G e t' h).elim
    · cases fl with
      | next => exact (h : False).elim
      | brk => exact (h : False).elim
      | cont => exact (h : False).elim
      | ret u =>
        obtain ⟨y, G2, h1, h2, h3, h4, h5, h6⟩ := h
        obtain rfl : y = .bl true := h6
        obtain rfl : u = Value.bool true := h5
        refine ⟨rfl, OldK.of_keep fun a u h => ?_, h1, h2⟩
        rcases hG : G a with _ | y
        · exact h3.keep a u h hG (fun z => absurd (show a ∈ ([] : List Addr) from z) List.not_mem_nil) (by simp)
        · rcases oG a with z | ⟨oz, ys, z⟩
          · rw [hG] at z; cases z
          · obtain ⟨q1, _⟩ := okG a _ z
            obtain ⟨q2, _⟩ := h4 a _ (h3.frzs a oz _ z)
            rw [h] at q1
            cases q1
            exact q2
  rcases hk : K.lookup b0 with _ | u
  · refine main (fun a => if a = b0 then some (.frz { cls := .type "list", data := .seq us.toArray } (.lst (ks.map V.int))) else none) (fun a => ?_) (Or.inl (Or.inr ⟨{ cls := .type "list", data := .seq us.toArray }, if_pos rfl⟩)) (fun a u z => ?_) (fun a z => ?_) fun _ => hk
    · by_cases e : a = b0
      · exact Or.inr ⟨_, _, if_pos e⟩
      · exact Or.inl (if_neg e)
    · by_cases e : a = b0
      · have z2 := (if_pos e).symm.trans z
        cases z2
        subst e
        exact ⟨at_, by rw [List.length_map]; exact few, us, _, rel, at_⟩
      · have z2 := (if_neg e).symm.trans z
        cases z2
    · by_cases e : a = b0
      · exact e
      · exact absurd (if_neg e) z
  · -- the script is an object of the module's own
    have h1 := inK b0 u hk
    rw [at_] at h1
    cases h1
    refine main (fun _ => none) (fun _ => Or.inl rfl) (Or.inr ⟨_, us.toArray, _, hk, rfl, rfl, rfl, by rw [List.size_toArray, many]; exact few, by simpa using rel⟩) (fun a u z => nomatch (z : (none : Option HO) = some u)) (fun a z => absurd rfl z) fun z => absurd rfl z
/-- a law's end, with callG -/
theorem walk_ofG {l : PySem.W.OpenLaw} {n k : Nat} {q : Program} {loose : List Str} {XP : (Str → Option Value) → Heap → Prop} {YP : World → Heap → Prop} {d : DefRec} {CX : CXT} {x : Str}
    (hn : l.most = some n) (few : n ≤ sizeLine) (nod : d.params.defaults = []) (room : Room k callerA)
    (F : ∀ (w : World) (mg : Str → Option Value) (f : Addr) (h : Heap), YP w h → h.Ns mainGlobals mg → mg d.name = some (.ref f) →
      ∃ (K : PySem.W.Frag) (fd : FuncData) (sp : Sp), K.In h ∧ (∀ (t : Shared) (u : Value), BindsTo t fd ⟨[u], []⟩ [(x, u)]) ∧
        (∀ (G : Hp) (b0 : Addr) (ks : List Int), ks.length ≤ n → Only G → SqL K G b0 (ks.map V.int) → sp [.ref b0] G (fun v _ => v = .bl true) fun _ _ _ => False) ∧
        ∀ base : Heap, K.In base → base.Ns mainGlobals mg → FnG l.prog w K mg base CX k f fd [x] sp)
    (noX : ∀ (G : Hp) (t : Shared) (e : Value) (t' : Shared), CX [] G t (fun _ _ _ => False) e t' → False) :
    PySem.W.WalkO q loose XP YP l.row.toRowW d [] (fun f vs => PySem.call f vs) := by
  refine Att.attach_call hn nod fun w t0 t1 mg mb f ob _ _ _ b0 us ks Gr Y _ _ _ e1 e2 are le1 nog => ?_
  obtain ⟨K, fd, sp, inK, bi, pr0, F1⟩ := F w mg f _ Y Gr.T.g e1
  exact callG inK Gr.T.g Gr.T.b Gr.T.builtins Gr.T.nolimit nog e2 are (Nat.le_trans le1 few) room F1 bi (fun G o z => pr0 G b0 ks le1 o z) fun G e t' => noX G t1 e t'
/-- repr of data that stands in the heap -/
theorem call_reprD {X : Cx} (gs : X.A.guards = some []) (hu : X.A.units + 100 < cLine) : CallR X (.builtin "repr") (fun xs G Q => ∃ p d, xs = [.ref p] ∧ Dp X.K G (.ref p) d ∧ d.showable = true ∧ d.hasDict = false ∧ d.depth ≤ 60 ∧ d.shown.length ≤ sizeLine ∧ Q (.str d.shown) G) := by
  intro pins t σ G xs us Q I rel h
  obtain ⟨p, d, rfl, hd, h1, h2, h3, h4, hq⟩ := h
  obtain ⟨u, rfl, r1⟩ := vals1 rel
  obtain rfl : u = Value.ref p := r1
  obtain ⟨as, rd⟩ := Dp.reads I d _ _ hd rfl
  refine repr_of_reads' rd h1 (fun z => by rw [h2] at z; cases z) gs (by omega) (fun _ _ z => z) (fun h' u tk k => ?_) h4
  exact ⟨.str d.shown, G, I.kept k, ⟨_, rfl⟩, hq⟩
end Gd

namespace L62
open PySem PySem.Spec PyProof.Rows L2
def top (i : Nat) : Stmt := PySem.Challenge.pw_landweave_k62_things.main.body.getD i (.Pass ⟨0, 0, 0, 0⟩)
abbrev s_is_from : Stmt := top 15
abbrev s_is_name : Stmt := top 16
abbrev s_is_point : Stmt := top 17
abbrev s_must_point : Stmt := top 18
abbrev s_is_box : Stmt := top 19
abbrev s_must_box : Stmt := top 20
abbrev s_must_box_of : Stmt := top 21
abbrev s_points_of : Stmt := top 24
abbrev s_knot : Stmt := top 26
abbrev s_four_knots : Stmt := top 27
abbrev s_knot_row : Stmt := top 28
abbrev s_ranks_of : Stmt := top 34
abbrev s_greatest_near : Stmt := top 35
abbrev s_Land_seed : Stmt := (Lc.meth (top 102) 4)
abbrev s_things_in : Stmt := top 33
abbrev s_noise_value : Stmt := top 46
abbrev s_noise_range : Stmt := top 49
abbrev s_weighed : Stmt := (top 62)
abbrev s_weighed_long : Stmt := (top 63)
abbrev s_greatest_of : Stmt := top 61
abbrev s_placed : Stmt := top 65
abbrev s_below_range : Stmt := top 69
abbrev s_joined_range : Stmt := top 70
abbrev s_ranges_of : Stmt := top 68
abbrev s_must_ranges : Stmt := top 64
abbrev s_steps_of : Stmt := top 59
abbrev s_run_known : Stmt := top 66
abbrev s_run_steps : Stmt := top 60
abbrev s_must_shape : Stmt := top 80
abbrev s_layer_of : Stmt := top 79
abbrev s_is_met : Stmt := top 95
abbrev s_with_edit : Stmt := top 103
abbrev s_same_many : Stmt := top 109
abbrev s_read_box : Stmt := top 110
abbrev s_touched_boxes : Stmt := top 108
abbrev s_law_at : Stmt := top 112
abbrev s_law_mixed : Stmt := top 113
abbrev s_law_purse : Stmt := top 114
abbrev s_law_draw : Stmt := top 115
abbrev s_law_knot : Stmt := top 116
abbrev s_law_box : Stmt := top 117
abbrev s_law_points : Stmt := top 118
abbrev s_law_bears : Stmt := top 120
abbrev s_law_things : Stmt := top 121
abbrev s_law_parts : Stmt := top 122
abbrev s_law_apart : Stmt := top 123
abbrev s_Memory___init__ : Stmt := (Lc.meth (top 94) 0)
abbrev s_Land___init__ : Stmt := (Lc.meth (top 102) 0)
abbrev s_Memory_forget : Stmt := (Lc.meth (top 94) 3)
abbrev s_Land__stand : Stmt := (Lc.meth (top 102) 23)
abbrev s_Land__do : Stmt := (Lc.meth (top 102) 22)
abbrev s_Land_edit : Stmt := (Lc.meth (top 102) 14)
abbrev s_law : Stmt := top 124
namespace Hd
/-! ### the head: facts by names, the run -/
def dd_is_from : He.DefD := ⟨("is_from", none), "is_from", "is_from", defArgs s_is_from, defBody s_is_from, defScope s_is_from, [], []⟩
def dd_is_name : He.DefD := ⟨("is_name", none), "is_name", "is_name", defArgs s_is_name, defBody s_is_name, defScope s_is_name, [], []⟩
def dd_is_point : He.DefD := ⟨("is_point", none), "is_point", "is_point", defArgs s_is_point, defBody s_is_point, defScope s_is_point, [], []⟩
def dd_must_point : He.DefD := ⟨("must_point", none), "must_point", "must_point", defArgs s_must_point, defBody s_must_point, defScope s_must_point, [], []⟩
def dd_is_box : He.DefD := ⟨("is_box", none), "is_box", "is_box", defArgs s_is_box, defBody s_is_box, defScope s_is_box, [], []⟩
def dd_must_box : He.DefD := ⟨("must_box", none), "must_box", "must_box", defArgs s_must_box, defBody s_must_box, defScope s_must_box, [], []⟩
def dd_must_box_of : He.DefD := ⟨("must_box_of", none), "must_box_of", "must_box_of", defArgs s_must_box_of, defBody s_must_box_of, defScope s_must_box_of, [], []⟩
def dd_points_of : He.DefD := ⟨("points_of", none), "points_of", "points_of", defArgs s_points_of, defBody s_points_of, defScope s_points_of, [], []⟩
def dd_knot : He.DefD := ⟨("knot", none), "knot", "knot", defArgs s_knot, defBody s_knot, defScope s_knot, [], []⟩
def dd_four_knots : He.DefD := ⟨("four_knots", none), "four_knots", "four_knots", defArgs s_four_knots, defBody s_four_knots, defScope s_four_knots, [], []⟩
def dd_knot_row : He.DefD := ⟨("knot_row", none), "knot_row", "knot_row", defArgs s_knot_row, defBody s_knot_row, defScope s_knot_row, [], []⟩
def dd_things_in : He.DefD := ⟨("things_in", none), "things_in", "things_in", defArgs s_things_in, defBody s_things_in, defScope s_things_in, [], [("far", .int (3)), ("least", .int (0))]⟩
def dd_ranks_of : He.DefD := ⟨("ranks_of", none), "ranks_of", "ranks_of", defArgs s_ranks_of, defBody s_ranks_of, defScope s_ranks_of, [], []⟩
def dd_greatest_near : He.DefD := ⟨("greatest_near", none), "greatest_near", "greatest_near", defArgs s_greatest_near, defBody s_greatest_near, defScope s_greatest_near, [], []⟩
def dd_noise_value : He.DefD := ⟨("noise_value", none), "noise_value", "noise_value", defArgs s_noise_value, defBody s_noise_value, defScope s_noise_value, [], []⟩
def dd_noise_range : He.DefD := ⟨("noise_range", none), "noise_range", "noise_range", defArgs s_noise_range, defBody s_noise_range, defScope s_noise_range, [], []⟩
def dd_steps_of : He.DefD := ⟨("steps_of", none), "steps_of", "steps_of", defArgs s_steps_of, defBody s_steps_of, defScope s_steps_of, [], []⟩
def dd_run_steps : He.DefD := ⟨("run_steps", none), "run_steps", "run_steps", defArgs s_run_steps, defBody s_run_steps, defScope s_run_steps, [], []⟩
def dd_greatest_of : He.DefD := ⟨("greatest_of", none), "greatest_of", "greatest_of", defArgs s_greatest_of, defBody s_greatest_of, defScope s_greatest_of, [], []⟩
def dd_weighed : He.DefD := ⟨("weighed", none), "weighed", "weighed", defArgs s_weighed, defBody s_weighed, defScope s_weighed, [], []⟩
def dd_weighed_long : He.DefD := ⟨("weighed_long", none), "weighed_long", "weighed_long", defArgs s_weighed_long, defBody s_weighed_long, defScope s_weighed_long, [], []⟩
def dd_must_ranges : He.DefD := ⟨("must_ranges", none), "must_ranges", "must_ranges", defArgs s_must_ranges, defBody s_must_ranges, defScope s_must_ranges, [], []⟩
def dd_placed : He.DefD := ⟨("placed", none), "placed", "placed", defArgs s_placed, defBody s_placed, defScope s_placed, [], []⟩
def dd_run_known : He.DefD := ⟨("run_known", none), "run_known", "run_known", defArgs s_run_known, defBody s_run_known, defScope s_run_known, [], []⟩
def dd_ranges_of : He.DefD := ⟨("ranges_of", none), "ranges_of", "ranges_of", defArgs s_ranges_of, defBody s_ranges_of, defScope s_ranges_of, [], []⟩
def dd_below_range : He.DefD := ⟨("below_range", none), "below_range", "below_range", defArgs s_below_range, defBody s_below_range, defScope s_below_range, [], []⟩
def dd_joined_range : He.DefD := ⟨("joined_range", none), "joined_range", "joined_range", defArgs s_joined_range, defBody s_joined_range, defScope s_joined_range, [], []⟩
def dd_layer_of : He.DefD := ⟨("layer_of", none), "layer_of", "layer_of", defArgs s_layer_of, defBody s_layer_of, defScope s_layer_of, [], []⟩
def dd_must_shape : He.DefD := ⟨("must_shape", none), "must_shape", "must_shape", defArgs s_must_shape, defBody s_must_shape, defScope s_must_shape, [], []⟩
def dd_is_met : He.DefD := ⟨("is_met", none), "is_met", "is_met", defArgs s_is_met, defBody s_is_met, defScope s_is_met, [], []⟩
def dd_with_edit : He.DefD := ⟨("with_edit", none), "with_edit", "with_edit", defArgs s_with_edit, defBody s_with_edit, defScope s_with_edit, [], []⟩
def dd_touched_boxes : He.DefD := ⟨("touched_boxes", none), "touched_boxes", "touched_boxes", defArgs s_touched_boxes, defBody s_touched_boxes, defScope s_touched_boxes, [], []⟩
def dd_same_many : He.DefD := ⟨("same_many", none), "same_many", "same_many", defArgs s_same_many, defBody s_same_many, defScope s_same_many, [], []⟩
def dd_read_box : He.DefD := ⟨("read_box", none), "read_box", "read_box", defArgs s_read_box, defBody s_read_box, defScope s_read_box, [], []⟩
def dd_law_at : He.DefD := ⟨("_law_at", none), "_law_at", "_law_at", defArgs s_law_at, defBody s_law_at, defScope s_law_at, [], []⟩
def dd_law_mixed : He.DefD := ⟨("_law_mixed", none), "_law_mixed", "_law_mixed", defArgs s_law_mixed, defBody s_law_mixed, defScope s_law_mixed, [], []⟩
def dd_law_purse : He.DefD := ⟨("_law_purse", none), "_law_purse", "_law_purse", defArgs s_law_purse, defBody s_law_purse, defScope s_law_purse, [], []⟩
def dd_law_draw : He.DefD := ⟨("_law_draw", none), "_law_draw", "_law_draw", defArgs s_law_draw, defBody s_law_draw, defScope s_law_draw, [], []⟩
def dd_law_knot : He.DefD := ⟨("_law_knot", none), "_law_knot", "_law_knot", defArgs s_law_knot, defBody s_law_knot, defScope s_law_knot, [], []⟩
def dd_law_box : He.DefD := ⟨("_law_box", none), "_law_box", "_law_box", defArgs s_law_box, defBody s_law_box, defScope s_law_box, [], []⟩
def dd_law_points : He.DefD := ⟨("_law_points", none), "_law_points", "_law_points", defArgs s_law_points, defBody s_law_points, defScope s_law_points, [], []⟩
def dd_law_bears : He.DefD := ⟨("_law_bears", none), "_law_bears", "_law_bears", defArgs s_law_bears, defBody s_law_bears, defScope s_law_bears, [], []⟩
def dd_law_things : He.DefD := ⟨("_law_things", none), "_law_things", "_law_things", defArgs s_law_things, defBody s_law_things, defScope s_law_things, [], []⟩
def dd_law_parts : He.DefD := ⟨("_law_parts", none), "_law_parts", "_law_parts", defArgs s_law_parts, defBody s_law_parts, defScope s_law_parts, [], []⟩
def dd_law_apart : He.DefD := ⟨("_law_apart", none), "_law_apart", "_law_apart", defArgs s_law_apart, defBody s_law_apart, defScope s_law_apart, [], []⟩
def dd_law : He.DefD := ⟨("law", none), "law", "law", defArgs s_law, defBody s_law, defScope s_law, [], []⟩
def dd_Memory___init__ : He.DefD := ⟨("Memory", some "__init__"), "__init__", "Memory.__init__", defArgs s_Memory___init__, defBody s_Memory___init__, defScope s_Memory___init__, [], []⟩
def dd_Land___init__ : He.DefD := ⟨("Land", some "__init__"), "__init__", "Land.__init__", defArgs s_Land___init__, defBody s_Land___init__, defScope s_Land___init__, [], [("memory", .int (64))]⟩
def dd_Land_seed : He.DefD := ⟨("Land", some "seed"), "seed", "Land.seed", defArgs s_Land_seed, defBody s_Land_seed, defScope s_Land_seed, [], []⟩
def dd_Memory_forget : He.DefD := ⟨("Memory", some "forget"), "forget", "Memory.forget", defArgs s_Memory_forget, defBody s_Memory_forget, defScope s_Memory_forget, [], []⟩
def dd_Land__stand : He.DefD := ⟨("Land", some "_stand"), "_stand", "Land._stand", defArgs s_Land__stand, defBody s_Land__stand, defScope s_Land__stand, [], []⟩
def dd_Land__do : He.DefD := ⟨("Land", some "_do"), "_do", "Land._do", defArgs s_Land__do, defBody s_Land__do, defScope s_Land__do, [], []⟩
def dd_Land_edit : He.DefD := ⟨("Land", some "edit"), "edit", "Land.edit", defArgs s_Land_edit, defBody s_Land_edit, defScope s_Land_edit, [], []⟩
def fn : List He.DefD := [dd_is_from, dd_is_name, dd_is_point, dd_must_point, dd_is_box, dd_must_box, dd_must_box_of, dd_points_of, dd_knot, dd_four_knots, dd_knot_row, dd_things_in, dd_ranks_of, dd_greatest_near, dd_noise_value, dd_noise_range, dd_steps_of, dd_run_steps, dd_greatest_of, dd_weighed, dd_weighed_long, dd_must_ranges, dd_placed, dd_run_known, dd_ranges_of, dd_below_range, dd_joined_range, dd_layer_of, dd_must_shape, dd_is_met, dd_with_edit, dd_touched_boxes, dd_same_many, dd_read_box, dd_law_at, dd_law_mixed, dd_law_purse, dd_law_draw, dd_law_knot, dd_law_box, dd_law_points, dd_law_bears, dd_law_things, dd_law_parts, dd_law_apart, dd_law, dd_Memory___init__, dd_Land___init__, dd_Land_seed, dd_Memory_forget, dd_Land__stand, dd_Land__do, dd_Land_edit]
def fa : List He.Fa := [.glo "is_from", .glo "is_name", .glo "is_point", .glo "must_point", .glo "is_box", .glo "must_box", .glo "must_box_of", .glo "points_of", .glo "knot", .glo "four_knots", .glo "knot_row", .glo "things_in", .glo "ranks_of", .glo "greatest_near", .glo "noise_value", .glo "noise_range", .glo "steps_of", .glo "run_steps", .glo "greatest_of", .glo "weighed", .glo "weighed_long", .glo "must_ranges", .glo "placed", .glo "run_known", .glo "ranges_of", .glo "below_range", .glo "joined_range", .glo "layer_of", .glo "must_shape", .glo "is_met", .glo "with_edit", .glo "touched_boxes", .glo "same_many", .glo "read_box", .glo "_law_at", .glo "_law_mixed", .glo "_law_purse", .glo "_law_draw", .glo "_law_knot", .glo "_law_box", .glo "_law_points", .glo "_law_bears", .glo "_law_things", .glo "_law_parts", .glo "_law_apart", .glo "law", .free "isinstance", .free "int", .free "bool", .free "str", .free "len", .free "tuple", .free "max", .free "min", .free "enumerate", .free "list", .free "range", .free "zip", .free "reversed", .free "abs", .free "sum", .int "EDGE" (1000000), .int "LONGEST_NAME" (8), .int "FAR" (3), .int "FARTHEST" (8), .int "MOST_POINTS" (1024), .int "MOST_SQUARES" (64), .int "GREATEST_KNOT" (65535), .int "MOST_FIELDS" (200), .int "GREATEST_VALUE" (1000000000000000000000000000000), .int "BEYOND" (1000000000000000000000000000001), .int "GREATEST_NUMBER" (999999999), .int "FARTHEST_COPY" (1000), .int "MEMORY" (64), .int "GREATEST_MEMORY" (1000), .int "MOST_EDITS" (60), .glo "ALL_POINTS", .glo "PAIRS", .glo "PLACE", .glo "NOISE", .glo "Land", .cls "Land", .noat "Land" "_steps", .noat "Land" "_rules", .noat "Land" "_seed", .noat "Land" "_bound", .noat "Land" "_standing", .noat "Land" "_layers", .noat "Land" "_next", .noat "Land" "_done", .noat "Land" "_undone", .noat "Land" "_known", .noat "Land" "_tiles", .noat "Land" "_squares", .noat "Land" "_tables", .mkr "Land", .glo "Memory", .cls "Memory", .noat "Memory" "bound", .noat "Memory" "held", .mkr "Memory", .meth "Land" "seed", .meth "Memory" "forget", .meth "Land" "_stand", .meth "Land" "_do", .meth "Land" "edit", .glo "SHAPES_edits"]
def tabs : List He.Tab := [(fun K => He.ga K "SHAPES_edits", ["set", "raise", "least", "most", "field", "copy"])]
def loose : List Str := (["_wall", "LandError", "NoRules", "NoBox", "NoPoint", "NoCount", "NoEdit", "Full", "NoSuch", "EDGE", "ALL_POINTS", "LONGEST_NAME", "is_whole", "is_from", "is_name", "is_point", "must_point", "is_box", "must_box", "must_box_of", "shared_box", "points_of", "knot", "four_knots", "knot_row", "FAR", "FARTHEST", "MOST_POINTS", "things_in", "ranks_of"] : List Str) ++ (["greatest_near", "SHAPES_faults", "NUMBERS", "must_parts", "must_field", "is_shaped", "parts_of", "MOST_SQUARES", "GREATEST_KNOT", "noise_value", "noise_grid", "knots_beside", "noise_range", "corner_values", "turns", "MOST_FIELDS", "GREATEST_VALUE", "BEYOND", "PAIRS", "PLACE", "NOISE", "steps_of", "run_steps", "greatest_of", "weighed", "weighed_long", "must_ranges", "placed", "run_known", "steps_range"] : List Str) ++ (["ranges_of", "below_range", "joined_range", "grid_values", "chosen_values", "joined_values", "GREATEST_NUMBER", "FARTHEST_COPY", "SHAPES_edits", "layer_of", "must_shape", "height_by", "changed", "heights_by", "met", "piece_of", "parts_beside", "piece_values", "changed_values", "put_rows", "bounds_by", "box_around", "changed_range", "Memory", "is_met", "MEMORY", "GREATEST_MEMORY", "MOST_EDITS", "MOST_KNOWN", "ROWS"] : List Str) ++ (["Land", "with_edit", "without_edit", "with_swap", "place_of", "must_row", "touched_boxes", "same_many", "read_box", "_law_at", "_law_mixed", "_law_purse", "_law_draw", "_law_knot", "_law_box", "_law_points", "_law_spot", "_law_bears", "_law_things", "_law_parts", "_law_apart"] : List Str)
abbrev R : PySem.W.OpenRow := PySem.W.OpenLaw.row PySem.Challenge.rw_landweave_k62_things
def ex (K : PySem.W.Frag) : Bool := He.tupB K "ALL_POINTS" [.int (-1000000), .int (-1000000), .int (1000000), .int (1000000)] && (He.tupB K "PAIRS" [.str "plus", .str "less", .str "times", .str "least", .str "most"] && (He.tupB K "PLACE" [.int (1), .int (1200000)] && (He.tupB K "NOISE" [.int (1), .int (65535)] && (Ki.tabB K (He.ga K "SHAPES_edits") [("set", (3)), ("raise", (3)), ("least", (3)), ("most", (3)), ("field", (3)), ("copy", (4))] [] && (true)))))
abbrev hk : PySem.W.Hook := Hy.hook 4 fa fn tabs ex
def ob (s : PySem.W.SharedT) : He.AlX := Hy.obs 4 fa fn tabs ex (HandSHeadRun.getT s)
theorem ob_eq (s : PySem.W.SharedT) : ob s = hk.obs s.abs := Hy.obs_eq (HandSHeadRun.getT_eq s)
section
open PySem PySem.W PySem.Calls PyProof.Rows HandSHeadRun
theorem run_f1 (w : World) : ∀ os : OsState, (endF (stepQ (denQ tabQ) R.prog (w.withFollow "special-get-raises" false)) 30000 R.prog (w.withFollow "special-get-raises" false) os).map (fun s => looksF R.prog (boot_heap (w.withFollow "special-get-raises" false).params) s.abs) = some (true) := by intro os; kernel_rfl
theorem run_f2 (w : World) : ∀ os : OsState, (endF (stepQ (denQ tabQ) R.prog (w.withFollow "special-get-raises" false)) 30000 R.prog (w.withFollow "special-get-raises" false) os).map (fun s => seenQ (PySem.W.view R.prog [124]) loose (importedModules R.prog.main.body) (fun s => xlAt (PySem.W.view R.prog [124]) [] s && recOk R.toRowW.records s) s.abs) = some (openGood (PySem.W.view R.prog [124]) loose) := by intro os; kernel_rfl
theorem run_f3 (w : World) : ∀ os : OsState, (endF (stepQ (denQ tabQ) R.prog (w.withFollow "special-get-raises" false)) 30000 R.prog (w.withFollow "special-get-raises" false) os).map (fun s => (ob s).1) = some ((hk.val (w.withFollow "special-get-raises" false)).1) := by intro os; kernel_rfl
theorem run_f4 (w : World) : ∀ os : OsState, (endF (stepQ (denQ tabQ) R.prog (w.withFollow "special-get-raises" false)) 30000 R.prog (w.withFollow "special-get-raises" false) os).map (fun s => (ob s).2) = some ((hk.val (w.withFollow "special-get-raises" false)).2) := by intro os; kernel_rfl
theorem run_f (w : World) : HandSHeadRun.RunEq R (PySem.W.view R.prog [124]) hk ob 30000 loose (w.withFollow "special-get-raises" false) := fun os => Hz.split3 (run_f1 w os) (run_f2 w os) (Hz.split2 (run_f3 w os) (run_f4 w os))
theorem run_t1 (w : World) : ∀ os : OsState, (endF (stepQ (denQ tabQ) R.prog (w.withFollow "special-get-raises" true)) 30000 R.prog (w.withFollow "special-get-raises" true) os).map (fun s => looksF R.prog (boot_heap (w.withFollow "special-get-raises" true).params) s.abs) = some (true) := by intro os; kernel_rfl
theorem run_t2 (w : World) : ∀ os : OsState, (endF (stepQ (denQ tabQ) R.prog (w.withFollow "special-get-raises" true)) 30000 R.prog (w.withFollow "special-get-raises" true) os).map (fun s => seenQ (PySem.W.view R.prog [124]) loose (importedModules R.prog.main.body) (fun s => xlAt (PySem.W.view R.prog [124]) [] s && recOk R.toRowW.records s) s.abs) = some (openGood (PySem.W.view R.prog [124]) loose) := by intro os; kernel_rfl
theorem run_t3 (w : World) : ∀ os : OsState, (endF (stepQ (denQ tabQ) R.prog (w.withFollow "special-get-raises" true)) 30000 R.prog (w.withFollow "special-get-raises" true) os).map (fun s => (ob s).1) = some ((hk.val (w.withFollow "special-get-raises" true)).1) := by intro os; kernel_rfl
theorem run_t4 (w : World) : ∀ os : OsState, (endF (stepQ (denQ tabQ) R.prog (w.withFollow "special-get-raises" true)) 30000 R.prog (w.withFollow "special-get-raises" true) os).map (fun s => (ob s).2) = some ((hk.val (w.withFollow "special-get-raises" true)).2) := by intro os; kernel_rfl
theorem run_t (w : World) : HandSHeadRun.RunEq R (PySem.W.view R.prog [124]) hk ob 30000 loose (w.withFollow "special-get-raises" true) := fun os => Hz.split3 (run_t1 w os) (run_t2 w os) (Hz.split2 (run_t3 w os) (run_t4 w os))
end
theorem run (w : World) : HandSHeadRun.RunEq R (PySem.W.view R.prog [124]) hk ob 30000 loose w := PySem.W.byRow2 "special-get-raises" run_f run_t w
open PySem.W in
theorem pre (F : ∀ (w : World) (mg : Str → Option Value) (fa : Addr) (h : Heap), hk.says w h → h.Ns mainGlobals mg → mg ("law" : Str) = some (.ref fa) →
      ∃ (K : PySem.W.Frag) (fd : FuncData) (sp : Sp), K.In h ∧ (∀ (s : Shared) (u : Value), BindsTo s fd ⟨[u], []⟩ [("_law_script", u)]) ∧
        (∀ (H : Hp) (a : Addr) (ns : List Int), ns.length ≤ 63 → Only H → SqL K H a (ns.map V.int) → sp [.ref a] H (fun v _ => v = .bl true) fun _ _ _ => False) ∧
        ∀ base : Heap, K.In base → base.Ns mainGlobals mg → FnOk (PySem.Challenge.rw_landweave_k62_things).prog w K mg base L2.CX0 66 fa fd ["_law_script"] sp) : PySem.Challenge.rw_landweave_k62_things.Holds := by
  w_on; o_law
  refine HandSHeadRun.head_any (r := R) (q := PySem.W.view R.prog [124]) (H := hk) (ob := ob) (M := 30000) (loose := loose) (d := HandSHeadRun.topDef R.prog 124) (kwd := []) ob_eq
    (by kernel_rfl) (fun s => by kernel_rfl) run (by kernel_rfl) (by kernel_rfl) (by kernel_rfl) (by rfl) (by first | assumption | decide +kernel) (by decide +kernel) ⟨rfl, rfl, rfl, rfl, rfl, by decide +kernel⟩ ?hw ?hc
  case hw => w_witness2
  case hc =>
    refine L2.walk_ofE (l := PySem.Challenge.rw_landweave_k62_things) (n := 63) (k := 66) (x := "_law_script") (CX := L2.CX0) rfl (by decide) (by kernel_rfl) ⟨rfl, by decide, by decide⟩ ?F (fun _ _ _ _ z => z)
    intro w mg fa h Y G hmg0
    have e : (HandSHeadRun.topDef R.prog 124).name = ("law" : PySem.Str) := by kernel_rfl
    exact F w mg fa h Y G (e ▸ hmg0)
end Hd
end L62

/-! Fields as plain data: with names (Fd), without (Ex); values, sizes. -/
namespace Fm
open PySem
/-! ### knots -/
def kA (seed salt : Int) : Int := (seed + 48271 * salt + 7) % 2147483647
def kB (a i : Int) : Int := (a * a + 69621 * i + 1) % 2147483629
def kC (b j : Int) : Int := (b * b + 16807 * j + 1) % 2147483587
def kD (c : Int) : Int := (c * c + c) % 2147483579 % 65536
def knotL (seed salt i j : Int) : Int := kD (kC (kB (kA seed salt) i) j)
theorem knot_in (a b c d : Int) : 0 ≤ knotL a b c d ∧ knotL a b c d < 65536 := by
  unfold knotL kD
  omega
theorem knot_mul (a b c d : Int) : -(2 ^ 64) < knotL a b c d ∧ knotL a b c d < 2 ^ 64 := by
  have := knot_in a b c d
  omega
theorem log_pow {l : Int} (h0 : 0 ≤ l) (h8 : l ≤ 8) : ∃ S : Int, (1 : Int) * 2 ^ l.toNat = S ∧ (2 : Int) ^ l.toNat = S ∧ 0 < S ∧ S ≤ 256 ∧ 0 < S * S ∧ S * S ≤ 65536 := by
  rcases (show l = 0 ∨ l = 1 ∨ l = 2 ∨ l = 3 ∨ l = 4 ∨ l = 5 ∨ l = 6 ∨ l = 7 ∨ l = 8 by omega) with rfl | rfl | rfl | rfl | rfl | rfl | rfl | rfl | rfl <;>
    exact ⟨_, rfl, by decide, by decide, by decide, by decide, by decide⟩
/-! ### fields -/
inductive W2 where
  | plus | less | times | least | most
  deriving DecidableEq
def W2.word : W2 → Str
  | .plus => "plus" | .less => "less" | .times => "times" | .least => "least" | .most => "most"
def isW2 (s : Str) : Bool := decide (s = "plus") || (decide (s = "less") || (decide (s = "times") || (decide (s = "least") || decide (s = "most"))))
theorem word_ne {s : Str} (h : isW2 s = false) (w : W2) : decide (w.word = s) = false := by
  refine decide_eq_false fun e => ?_
  subst e
  revert h
  cases w <;> decide +kernel
def W2.op : W2 → Int → Int → Int
  | .plus, a, b => a + b
  | .less, a, b => a - b
  | .times, a, b => a * b
  | .least, a, b => if b < a then b else a
  | .most, a, b => if b > a then b else a
/-- a field without names -/
inductive Ex where
  | whole (n : Int) | px | pz | noise (s l : Int) | two (w : W2) (a b : Ex) | over (a : Ex) (n : Int) | bel (a b c d : Ex) | shift (dx dz : Int) (a : Ex)
/-- a field as it is written -/
inductive Fd where
  | whole (n : Int) | px | pz | noise (s l : Int) | two (w : W2) (a b : Fd) | over (a : Fd) (n : Int) | bel (a b c d : Fd) | shift (dx dz : Int) (a : Fd) | lt (x : Str) (a b : Fd) | nm (x : Str)
abbrev Env := List (Str × Ex)
def look : Env → Str → Ex
  | [], _ => .whole 0
  | (y, e) :: r, x => if x = y then e else look r x
def expand : Fd → Env → Ex
  | .whole n, _ => .whole n
  | .px, _ => .px
  | .pz, _ => .pz
  | .noise s l, _ => .noise s l
  | .two w a b, r => .two w (expand a r) (expand b r)
  | .over a n, r => .over (expand a r) n
  | .bel a b c d, r => .bel (expand a r) (expand b r) (expand c r) (expand d r)
  | .shift dx dz a, r => .shift dx dz (expand a r)
  | .lt x a b, r => expand b ((x, expand a r) :: r)
  | .nm x, r => look r x
/-- all names are bound -/
def Bnd : Fd → List Str → Prop
  | .two _ a b, r => Bnd a r ∧ Bnd b r
  | .over a _, r => Bnd a r
  | .bel a b c d, r => Bnd a r ∧ Bnd b r ∧ Bnd c r ∧ Bnd d r
  | .shift _ _ a, r => Bnd a r
  | .lt x a b, r => Bnd a r ∧ Bnd b (x :: r)
  | .nm x, r => x ∈ r
  | _, _ => True
/-- how deep a walk along names goes; r tells how deep each name's field goes -/
def udep : Fd → List (Str × Nat) → Nat
  | .two _ a b, r => 1 + max (udep a r) (udep b r)
  | .over a _, r => 1 + udep a r
  | .bel a b c d, r => 1 + max (max (udep a r) (udep b r)) (max (udep c r) (udep d r))
  | .shift _ _ a, r => 1 + udep a r
  | .lt x a b, r => 1 + udep b ((x, udep a r) :: r)
  | .nm x, r => 1 + (r.lookup x).getD 0
  | _, _ => 1
/-! ### values -/
def noiseL (seed salt log x z : Int) : Int :=
  let S : Int := 2 ^ log.toNat
  let p := x % S
  let q := z % S
  let i := (x - p) / S
  let j := (z - q) / S
  ((S - p) * (S - q) * knotL seed salt i j + p * (S - q) * knotL seed salt (i + 1) j + (S - p) * q * knotL seed salt i (j + 1) + p * q * knotL seed salt (i + 1) (j + 1)) / (S * S)
def valE : Ex → Int → Int → Int → Int
  | .whole n, _, _, _ => n
  | .px, _, x, _ => x
  | .pz, _, _, z => z
  | .noise s l, g, x, z => noiseL g s l x z
  | .two w a b, g, x, z => w.op (valE a g x z) (valE b g x z)
  | .over a n, g, x, z => valE a g x z / n
  | .bel a b c d, g, x, z => if valE a g x z < valE b g x z then valE c g x z else valE d g x z
  | .shift dx dz a, g, x, z => valE a g (x + dx) (z + dz)
/-- the numbers of a field lie within their bounds -/
def OkE : Ex → Prop
  | .whole n => -999999999 ≤ n ∧ n ≤ 999999999
  | .noise s l => (0 ≤ s ∧ s ≤ 1000000000) ∧ 0 ≤ l ∧ l ≤ 8
  | .two _ a b => OkE a ∧ OkE b
  | .over a n => OkE a ∧ 1 ≤ n ∧ n ≤ 1000000000
  | .bel a b c d => OkE a ∧ OkE b ∧ OkE c ∧ OkE d
  | .shift dx dz a => (-1000 ≤ dx ∧ dx ≤ 1000) ∧ (-1000 ≤ dz ∧ dz ≤ 1000) ∧ OkE a
  | _ => True
theorem two_pow_pos (n : Nat) : (0 : Int) < 2 ^ n := Int.pow_pos (by decide)
/-- a mean of four numbers by weights -/
theorem mean4 {S p q a b c d m M : Int} (hS : 0 < S) (hp : 0 ≤ p) (hp2 : p ≤ S) (hq : 0 ≤ q) (hq2 : q ≤ S) (ha : m ≤ a) (ha2 : a ≤ M) (hb : m ≤ b) (hb2 : b ≤ M) (hc : m ≤ c) (hc2 : c ≤ M) (hd : m ≤ d) (hd2 : d ≤ M) :
    m ≤ ((S - p) * (S - q) * a + p * (S - q) * b + (S - p) * q * c + p * q * d) / (S * S) ∧ ((S - p) * (S - q) * a + p * (S - q) * b + (S - p) * q * c + p * q * d) / (S * S) ≤ M := by
  have w1 : 0 ≤ (S - p) * (S - q) := Int.mul_nonneg (by omega) (by omega)
  have w2 : 0 ≤ p * (S - q) := Int.mul_nonneg (by omega) (by omega)
  have w3 : 0 ≤ (S - p) * q := Int.mul_nonneg (by omega) (by omega)
  have w4 : 0 ≤ p * q := Int.mul_nonneg (by omega) (by omega)
  have tot : (S - p) * (S - q) + p * (S - q) + (S - p) * q + p * q = S * S := by
    have e1 : (S - p) * (S - q) + p * (S - q) = S * (S - q) := by rw [← Int.add_mul]; congr 1; omega
    have e2 : (S - p) * q + p * q = S * q := by rw [← Int.add_mul]; congr 1; omega
    have e3 : S * (S - q) + S * q = S * S := by rw [← Int.mul_add]; congr 1; omega
    omega
  have SS : 0 < S * S := Int.mul_pos hS hS
  have lo : ∀ {w v : Int}, 0 ≤ w → m ≤ v → w * m ≤ w * v := fun h1 h2 => Int.mul_le_mul_of_nonneg_left h2 h1
  have hi : ∀ {w v : Int}, 0 ≤ w → v ≤ M → w * v ≤ w * M := fun h1 h2 => Int.mul_le_mul_of_nonneg_left h2 h1
  have sumL : ∀ t : Int, (S - p) * (S - q) * t + p * (S - q) * t + (S - p) * q * t + p * q * t = S * S * t := fun t => by
    rw [← Int.add_mul, ← Int.add_mul, ← Int.add_mul, tot]
  constructor
  · refine (Int.le_ediv_iff_mul_le SS).mpr ?_
    have := lo w1 ha; have := lo w2 hb; have := lo w3 hc; have := lo w4 hd
    have := sumL m
    rw [Int.mul_comm m]
    omega
  · have h := hi w1 ha2; have := hi w2 hb2; have := hi w3 hc2; have := hi w4 hd2
    have := sumL M
    have : ((S - p) * (S - q) * a + p * (S - q) * b + (S - p) * q * c + p * q * d) ≤ M * (S * S) := by
      rw [Int.mul_comm M]
      omega
    exact Int.ediv_le_of_le_mul SS this
theorem noise_in (g s l x z : Int) : 0 ≤ noiseL g s l x z ∧ noiseL g s l x z ≤ 65535 := by
  have hS := two_pow_pos l.toNat
  have k := fun i j => knot_in g s i j
  have h := mean4 (S := 2 ^ l.toNat) (p := x % 2 ^ l.toNat) (q := z % 2 ^ l.toNat) (a := knotL g s ((x - x % 2 ^ l.toNat) / 2 ^ l.toNat) ((z - z % 2 ^ l.toNat) / 2 ^ l.toNat))
    (b := knotL g s ((x - x % 2 ^ l.toNat) / 2 ^ l.toNat + 1) ((z - z % 2 ^ l.toNat) / 2 ^ l.toNat)) (c := knotL g s ((x - x % 2 ^ l.toNat) / 2 ^ l.toNat) ((z - z % 2 ^ l.toNat) / 2 ^ l.toNat + 1))
    (d := knotL g s ((x - x % 2 ^ l.toNat) / 2 ^ l.toNat + 1) ((z - z % 2 ^ l.toNat) / 2 ^ l.toNat + 1)) (m := 0) (M := 65535) hS
    (Int.emod_nonneg _ (by omega)) (Int.le_of_lt (Int.emod_lt_of_pos _ hS)) (Int.emod_nonneg _ (by omega)) (Int.le_of_lt (Int.emod_lt_of_pos _ hS))
    (k _ _).1 (by have := (k ((x - x % 2 ^ l.toNat) / 2 ^ l.toNat) ((z - z % 2 ^ l.toNat) / 2 ^ l.toNat)).2; omega)
    (k _ _).1 (by have := (k ((x - x % 2 ^ l.toNat) / 2 ^ l.toNat + 1) ((z - z % 2 ^ l.toNat) / 2 ^ l.toNat)).2; omega)
    (k _ _).1 (by have := (k ((x - x % 2 ^ l.toNat) / 2 ^ l.toNat) ((z - z % 2 ^ l.toNat) / 2 ^ l.toNat + 1)).2; omega)
    (k _ _).1 (by have := (k ((x - x % 2 ^ l.toNat) / 2 ^ l.toNat + 1) ((z - z % 2 ^ l.toNat) / 2 ^ l.toNat + 1)).2; omega)
  exact h
/-! ### sizes -/
/-- bits of the values, k bits being those of the coordinates -/
def vb : Ex → Nat → Nat
  | .whole _, _ => 34
  | .px, k => k
  | .pz, k => k
  | .noise _ _, _ => 17
  | .two w a b, k => match w with
    | .times => vb a k + vb b k
    | _ => max (vb a k) (vb b k) + 1
  | .over a _, k => vb a k
  | .bel a b c d, k => max (max (vb a k) (vb b k)) (max (vb c k) (vb d k))
  | .shift _ _ a, k => vb a (k + 1)
theorem pow_le {a b : Nat} (h : a ≤ b) : 2 ^ a ≤ 2 ^ b := Nat.pow_le_pow_right (by decide) h
theorem lt_pow_of {n a b : Nat} (h : n < 2 ^ a) (l : a ≤ b) : n < 2 ^ b := Nat.lt_of_lt_of_le h (pow_le l)
theorem natAbs_div_le (a : Int) {n : Int} (h : 1 ≤ n) : (a / n).natAbs ≤ a.natAbs := by
  rcases Int.lt_or_le a 0 with ha | ha
  · have h1 : a / n < 0 := Int.ediv_neg_of_neg_of_pos ha (by omega)
    have h2 : a ≤ a / n := by
      refine (Int.le_ediv_iff_mul_le (by omega)).mpr ?_
      have := Int.mul_le_mul_of_nonpos_left (a := a) (by omega) h
      omega
    omega
  · have h1 : 0 ≤ a / n := Int.ediv_nonneg ha (by omega)
    have h2 : a / n ≤ a := Int.ediv_le_self _ ha
    omega
theorem vb_two (w : W2) (a b : Ex) (k : Nat) : vb a k ≤ vb (.two w a b) k ∧ vb b k ≤ vb (.two w a b) k := by
  cases w <;> simp only [vb] <;> omega
theorem val_bits : ∀ (e : Ex) (g x z : Int) (k : Nat), OkE e → 34 ≤ k → x.natAbs < 2 ^ k → z.natAbs < 2 ^ k → (valE e g x z).natAbs < 2 ^ (vb e k)
  | .whole n, _, _, _, k, h, _, _, _ => by
    have e : (2 : Nat) ^ 34 = 17179869184 := by decide
    have h1 : -999999999 ≤ n := h.1
    have h2 : n ≤ 999999999 := h.2
    show n.natAbs < 2 ^ 34
    omega
  | .px, _, _, _, _, _, _, hx, _ => hx
  | .pz, _, _, _, _, _, _, _, hz => hz
  | .noise s l, g, x, z, k, _, _, _, _ => by
    have e : (2 : Nat) ^ 17 = 131072 := by decide
    have h := noise_in g s l x z
    show (noiseL g s l x z).natAbs < 2 ^ 17
    omega
  | .two w a b, g, x, z, k, h, hk, hx, hz => by
    have ha := val_bits a g x z k h.1 hk hx hz
    have hb := val_bits b g x z k h.2 hk hx hz
    have ha2 := lt_pow_of ha (Nat.le_max_left (vb a k) (vb b k))
    have hb2 := lt_pow_of hb (Nat.le_max_right (vb a k) (vb b k))
    cases w with
    | times =>
      show (valE a g x z * valE b g x z).natAbs < 2 ^ (vb a k + vb b k)
      rw [Int.natAbs_mul, Nat.pow_add]
      exact Nat.mul_lt_mul'' ha hb
    | plus =>
      show (valE a g x z + valE b g x z).natAbs < 2 ^ (max (vb a k) (vb b k) + 1)
      rw [Nat.pow_succ]
      omega
    | less =>
      show (valE a g x z - valE b g x z).natAbs < 2 ^ (max (vb a k) (vb b k) + 1)
      rw [Nat.pow_succ]
      omega
    | least =>
      show (if valE b g x z < valE a g x z then valE b g x z else valE a g x z).natAbs < 2 ^ (max (vb a k) (vb b k) + 1)
      rw [Nat.pow_succ]
      split <;> omega
    | most =>
      show (if valE b g x z > valE a g x z then valE b g x z else valE a g x z).natAbs < 2 ^ (max (vb a k) (vb b k) + 1)
      rw [Nat.pow_succ]
      split <;> omega
  | .over a n, g, x, z, k, h, hk, hx, hz => Nat.lt_of_le_of_lt (natAbs_div_le _ h.2.1) (val_bits a g x z k h.1 hk hx hz)
  | .bel a b c d, g, x, z, k, h, hk, hx, hz => by
    have hc := val_bits c g x z k h.2.2.1 hk hx hz
    have hd := val_bits d g x z k h.2.2.2 hk hx hz
    show (if valE a g x z < valE b g x z then valE c g x z else valE d g x z).natAbs < 2 ^ (max (max (vb a k) (vb b k)) (max (vb c k) (vb d k)))
    split
    · exact lt_pow_of hc (by omega)
    · exact lt_pow_of hd (by omega)
  | .shift dx dz a, g, x, z, k, h, hk, hx, hz => by
    have e : (2 : Nat) ^ 34 = 17179869184 := by decide
    have hp := pow_le hk
    have h1 : -1000 ≤ dx := h.1.1
    have h2 : dx ≤ 1000 := h.1.2
    have h3 : -1000 ≤ dz := h.2.1.1
    have h4 : dz ≤ 1000 := h.2.1.2
    refine val_bits a g (x + dx) (z + dz) (k + 1) h.2.2 (by omega) ?_ ?_
    · rw [Nat.pow_succ]; omega
    · rw [Nat.pow_succ]; omega
theorem mul_ok {a b : Ex} {g x z : Int} {k : Nat} (ha : OkE a) (hb : OkE b) (hk : 34 ≤ k) (hx : x.natAbs < 2 ^ k) (hz : z.natAbs < 2 ^ k) (hv : vb a k + vb b k ≤ 400000) : L2.CMulW (valE a g x z) (valE b g x z) :=
  L2.wide_mul (lt_pow_of (val_bits a g x z k ha hk hx hz) (Nat.le_succ _)) (lt_pow_of (val_bits b g x z k hb hk hx hz) (Nat.le_succ _)) (Nat.succ_pos _) (Nat.succ_pos _) (by omega)
theorem shift_bits {x dx : Int} {k : Nat} (h : -1000 ≤ dx ∧ dx ≤ 1000) (hk : 34 ≤ k) (hx : x.natAbs < 2 ^ k) : (x + dx).natAbs < 2 ^ (k + 1) := by
  have e : (2 : Nat) ^ 34 = 17179869184 := by decide
  have hp := pow_le hk
  rw [Nat.pow_succ]
  omega
/-! ### ranges -/
def mn4 (a b c d : Int) : Int := min (min a b) (min c d)
def mx4 (a b c d : Int) : Int := max (max a b) (max c d)
def W2.rng : W2 → Int × Int → Int × Int → Int × Int
  | .plus, a, b => (a.1 + b.1, a.2 + b.2)
  | .less, a, b => (a.1 - b.2, a.2 - b.1)
  | .times, a, b => (mn4 (a.1 * b.1) (a.1 * b.2) (a.2 * b.1) (a.2 * b.2), mx4 (a.1 * b.1) (a.1 * b.2) (a.2 * b.1) (a.2 * b.2))
  | .least, a, b => (min a.1 b.1, min a.2 b.2)
  | .most, a, b => (max a.1 b.1, max a.2 b.2)
def belR (a b c d : Int × Int) : Int × Int := if a.2 < b.1 then c else if b.2 ≤ a.1 then d else (min c.1 d.1, max c.2 d.2)
abbrev NR := Int → Int → Int → Int → Int → Int → Int × Int
def rangeG (N : NR) : Ex → Int → Int → Int → Int → Int × Int
  | .whole n, _, _, _, _ => (n, n)
  | .px, x0, _, x1, _ => (x0, x1)
  | .pz, _, z0, _, z1 => (z0, z1)
  | .noise s l, x0, z0, x1, z1 => N s l x0 z0 x1 z1
  | .two w a b, x0, z0, x1, z1 => w.rng (rangeG N a x0 z0 x1 z1) (rangeG N b x0 z0 x1 z1)
  | .over a n, x0, z0, x1, z1 => ((rangeG N a x0 z0 x1 z1).1 / n, (rangeG N a x0 z0 x1 z1).2 / n)
  | .bel a b c d, x0, z0, x1, z1 => belR (rangeG N a x0 z0 x1 z1) (rangeG N b x0 z0 x1 z1) (rangeG N c x0 z0 x1 z1) (rangeG N d x0 z0 x1 z1)
  | .shift dx dz a, x0, z0, x1, z1 => rangeG N a (x0 + dx) (z0 + dz) (x1 + dx) (z1 + dz)
/-- noise of many squares -/
def wideN : NR := fun _ _ _ _ _ _ => (0, 65535)
def NOk (N : NR) : Prop := ∀ s l x0 z0 x1 z1, (0 ≤ (N s l x0 z0 x1 z1).1 ∧ (N s l x0 z0 x1 z1).1 ≤ 65535) ∧ 0 ≤ (N s l x0 z0 x1 z1).2 ∧ (N s l x0 z0 x1 z1).2 ≤ 65535
theorem wide_ok : NOk wideN := fun _ _ _ _ _ _ => ⟨⟨Int.le_refl 0, (by decide : (0 : Int) ≤ 65535)⟩, (by decide : (0 : Int) ≤ 65535), Int.le_refl 65535⟩
abbrev B2 (p : Int × Int) (k : Nat) : Prop := p.1.natAbs < 2 ^ k ∧ p.2.natAbs < 2 ^ k
theorem B2.mono {p : Int × Int} {a b : Nat} (h : B2 p a) (l : a ≤ b) : B2 p b := ⟨lt_pow_of h.1 l, lt_pow_of h.2 l⟩
theorem mul_lt {a b : Int} {m n : Nat} (ha : a.natAbs < 2 ^ m) (hb : b.natAbs < 2 ^ n) : (a * b).natAbs < 2 ^ (m + n) := by
  rw [Int.natAbs_mul, Nat.pow_add]
  exact Nat.mul_lt_mul'' ha hb
theorem rng_bits (w : W2) {a b : Int × Int} {m n : Nat} (ha : B2 a m) (hb : B2 b n) : B2 (w.rng a b) (match w with | .times => m + n | _ => max m n + 1) := by
  have ha2 := ha.mono (Nat.le_max_left m n)
  have hb2 := hb.mono (Nat.le_max_right m n)
  obtain ⟨a1, a2⟩ := a
  obtain ⟨b1, b2⟩ := b
  obtain ⟨h1, h2⟩ := ha2
  obtain ⟨h3, h4⟩ := hb2
  cases w with
  | times =>
    have p1 := mul_lt ha.1 hb.1
    have p2 := mul_lt ha.1 hb.2
    have p3 := mul_lt ha.2 hb.1
    have p4 := mul_lt ha.2 hb.2
    simp only [W2.rng, mn4, mx4]
    constructor <;> simp only at * <;> omega
  | plus => simp only [W2.rng, B2] at *; rw [Nat.pow_succ]; omega
  | less => simp only [W2.rng, B2] at *; rw [Nat.pow_succ]; omega
  | least => simp only [W2.rng, B2] at *; rw [Nat.pow_succ]; omega
  | most => simp only [W2.rng, B2] at *; rw [Nat.pow_succ]; omega
theorem range_bits {N : NR} (hN : NOk N) : ∀ (e : Ex) (x0 z0 x1 z1 : Int) (k : Nat), OkE e → 34 ≤ k → B2 (x0, x1) k → B2 (z0, z1) k → B2 (rangeG N e x0 z0 x1 z1) (vb e k)
  | .whole n, _, _, _, _, k, h, _, _, _ => by
    have e : (2 : Nat) ^ 34 = 17179869184 := by decide
    have h1 : -999999999 ≤ n := h.1
    have h2 : n ≤ 999999999 := h.2
    show B2 (n, n) 34
    simp only [B2]
    omega
  | .px, _, _, _, _, _, _, _, hx, _ => hx
  | .pz, _, _, _, _, _, _, _, _, hz => hz
  | .noise s l, x0, z0, x1, z1, k, _, _, _, _ => by
    have e : (2 : Nat) ^ 17 = 131072 := by decide
    have h := hN s l x0 z0 x1 z1
    show B2 (N s l x0 z0 x1 z1) 17
    simp only [B2]
    omega
  | .two w a b, x0, z0, x1, z1, k, h, hk, hx, hz => by
    have r := rng_bits w (range_bits hN a x0 z0 x1 z1 k h.1 hk hx hz) (range_bits hN b x0 z0 x1 z1 k h.2 hk hx hz)
    cases w <;> exact r
  | .over a n, x0, z0, x1, z1, k, h, hk, hx, hz => by
    have r := range_bits hN a x0 z0 x1 z1 k h.1 hk hx hz
    exact ⟨Nat.lt_of_le_of_lt (natAbs_div_le _ h.2.1) r.1, Nat.lt_of_le_of_lt (natAbs_div_le _ h.2.1) r.2⟩
  | .bel a b c d, x0, z0, x1, z1, k, h, hk, hx, hz => by
    have r3 := range_bits hN c x0 z0 x1 z1 k h.2.2.1 hk hx hz
    have r4 := range_bits hN d x0 z0 x1 z1 k h.2.2.2 hk hx hz
    have q3 := r3.mono (b := vb (.bel a b c d) k) (by simp only [vb]; omega)
    have q4 := r4.mono (b := vb (.bel a b c d) k) (by simp only [vb]; omega)
    show B2 (belR _ _ _ _) _
    unfold belR
    split
    · exact q3
    · split
      · exact q4
      · obtain ⟨h1, h2⟩ := q3
        obtain ⟨h3, h4⟩ := q4
        simp only [B2]
        omega
  | .shift dx dz a, x0, z0, x1, z1, k, h, hk, hx, hz => by
    have e : (2 : Nat) ^ 34 = 17179869184 := by decide
    have hp := pow_le hk
    have h1 := h.1
    have h2 := h.2.1
    obtain ⟨a1, a2⟩ := hx
    obtain ⟨a3, a4⟩ := hz
    refine range_bits hN a (x0 + dx) (z0 + dz) (x1 + dx) (z1 + dz) (k + 1) h.2.2 (by omega) ?_ ?_ <;> (simp only [B2] at *; rw [Nat.pow_succ]; omega)
theorem cols_ge {S x0 x1 : Int} (S0 : 0 < S) (S1 : S ≤ 256) (h : 20000 ≤ x1 - x0) : 65 ≤ x1 / S - x0 / S + 1 := by
  have e1 := Int.mul_ediv_add_emod x1 S
  have e2 := Int.mul_ediv_add_emod x0 S
  have m1 := Int.emod_lt_of_pos x1 S0
  have m0 := Int.emod_nonneg x0 (show S ≠ 0 by omega)
  rcases Int.lt_or_le (x1 / S - x0 / S) 64 with hlt | hge
  · exfalso
    have d : S * (x1 / S) - S * (x0 / S) = S * (x1 / S - x0 / S) := (Int.mul_sub S _ _).symm
    have : S * (x1 / S - x0 / S) ≤ 256 * 63 := by
      rcases Int.lt_or_le (x1 / S - x0 / S) 0 with hn | hp
      · have := Int.mul_nonpos_of_nonneg_of_nonpos (Int.le_of_lt S0) (Int.le_of_lt hn)
        omega
      · exact Int.mul_le_mul S1 (by omega) hp (by decide)
    omega
  · omega
theorem many {a b : Int} (ha : 65 ≤ a) (hb : 65 ≤ b) : 64 < a * b := by
  have : 65 * 65 ≤ a * b := Int.mul_le_mul ha hb (by decide) (by omega)
  omega
/-! ### all ranges -/
def allE (N : NR) : Ex → Int → Int → Int → Int → List (Int × Int)
  | .two w a b, x0, z0, x1, z1 => rangeG N (.two w a b) x0 z0 x1 z1 :: (allE N a x0 z0 x1 z1 ++ allE N b x0 z0 x1 z1)
  | .over a n, x0, z0, x1, z1 => rangeG N (.over a n) x0 z0 x1 z1 :: allE N a x0 z0 x1 z1
  | .bel a b c d, x0, z0, x1, z1 => rangeG N (.bel a b c d) x0 z0 x1 z1 :: (allE N a x0 z0 x1 z1 ++ (allE N b x0 z0 x1 z1 ++ (allE N c x0 z0 x1 z1 ++ allE N d x0 z0 x1 z1)))
  | .shift dx dz a, x0, z0, x1, z1 => rangeG N (.shift dx dz a) x0 z0 x1 z1 :: allE N a (x0 + dx) (z0 + dz) (x1 + dx) (z1 + dz)
  | e, x0, z0, x1, z1 => [rangeG N e x0 z0 x1 z1]
def cn : Ex → Nat
  | .two _ a b => 1 + (cn a + cn b)
  | .over a _ => 1 + cn a
  | .bel a b c d => 1 + (cn a + (cn b + (cn c + cn d)))
  | .shift _ _ a => 1 + cn a
  | _ => 1
theorem allE_len (N : NR) : ∀ (e : Ex) (x0 z0 x1 z1 : Int), (allE N e x0 z0 x1 z1).length = cn e
  | .whole _, _, _, _, _ => rfl
  | .px, _, _, _, _ => rfl
  | .pz, _, _, _, _ => rfl
  | .noise _ _, _, _, _, _ => rfl
  | .two _ a b, x0, z0, x1, z1 => by simp only [allE, cn, List.length_cons, List.length_append, allE_len N a, allE_len N b]; omega
  | .over a _, x0, z0, x1, z1 => by simp only [allE, cn, List.length_cons, allE_len N a]; omega
  | .bel a b c d, x0, z0, x1, z1 => by simp only [allE, cn, List.length_cons, List.length_append, allE_len N a, allE_len N b, allE_len N c, allE_len N d]; omega
  | .shift _ _ a, x0, z0, x1, z1 => by simp only [allE, cn, List.length_cons, allE_len N a]; omega
/-! ### drawn fields -/
def dep : Fd → Nat
  | .two _ a b => 1 + max (dep a) (dep b)
  | .over a _ => 1 + dep a
  | .bel a b c d => 1 + max (max (dep a) (dep b)) (max (dep c) (dep d))
  | .shift _ _ a => 1 + dep a
  | .lt _ a b => 1 + max (dep a) (dep b)
  | _ => 0
/-- a name: one to eight small letters -/
def NameOk (s : Str) : Prop := 1 ≤ s.length ∧ s.length ≤ 8 ∧ ∀ c ∈ s.cps.toList, 97 ≤ c ∧ c ≤ 122
def OkF : Fd → Prop
  | .whole n => -999999999 ≤ n ∧ n ≤ 999999999
  | .noise s l => (0 ≤ s ∧ s ≤ 1000000000) ∧ 0 ≤ l ∧ l ≤ 8
  | .two _ a b => OkF a ∧ OkF b
  | .over a n => OkF a ∧ 1 ≤ n ∧ n ≤ 1000000000
  | .bel a b c d => OkF a ∧ OkF b ∧ OkF c ∧ OkF d
  | .shift dx dz a => (-1000 ≤ dx ∧ dx ≤ 1000) ∧ (-1000 ≤ dz ∧ dz ≤ 1000) ∧ OkF a
  | .lt x a b => NameOk x ∧ OkF a ∧ OkF b
  | .nm x => NameOk x
  | _ => True
def OkR (r : Env) : Prop := ∀ x, OkE (look r x)
theorem okR_nil : OkR [] := fun _ => ⟨by decide, by decide⟩
theorem okR_cons {x : Str} {e : Ex} {r : Env} (he : OkE e) (h : OkR r) : OkR ((x, e) :: r) := fun y => by
  unfold look
  split
  · exact he
  · exact h y
theorem ok_expand : ∀ (F : Fd) (r : Env), OkF F → OkR r → OkE (expand F r)
  | .whole _, _, h, _ => h
  | .px, _, _, _ => True.intro
  | .pz, _, _, _ => True.intro
  | .noise _ _, _, h, _ => h
  | .two _ a b, r, h, hr => ⟨ok_expand a r h.1 hr, ok_expand b r h.2 hr⟩
  | .over a _, r, h, hr => ⟨ok_expand a r h.1 hr, h.2⟩
  | .bel a b c d, r, h, hr => ⟨ok_expand a r h.1 hr, ok_expand b r h.2.1 hr, ok_expand c r h.2.2.1 hr, ok_expand d r h.2.2.2 hr⟩
  | .shift _ _ a, r, h, hr => ⟨h.1, h.2.1, ok_expand a r h.2.2 hr⟩
  | .lt x a b, r, h, hr => ok_expand b _ h.2.2 (okR_cons (ok_expand a r h.2.1 hr) hr)
  | .nm x, r, _, hr => hr x
theorem bnd_perm : ∀ {a b : List Str}, (∀ y, y ∈ a → y ∈ b) → ∀ F : Fd, Bnd F a → Bnd F b
  | _, _, _, .whole _, _ => True.intro
  | _, _, _, .px, _ => True.intro
  | _, _, _, .pz, _ => True.intro
  | _, _, _, .noise _ _, _ => True.intro
  | _, _, s, .two _ a b, h => ⟨bnd_perm s a h.1, bnd_perm s b h.2⟩
  | _, _, s, .over a _, h => bnd_perm s a h
  | _, _, s, .bel a b c d, h => ⟨bnd_perm s a h.1, bnd_perm s b h.2.1, bnd_perm s c h.2.2.1, bnd_perm s d h.2.2.2⟩
  | _, _, s, .shift _ _ a, h => bnd_perm s a h
  | _, _, s, .lt x a b, h => ⟨bnd_perm s a h.1, bnd_perm (fun y hy => by
    rcases List.mem_cons.mp hy with e | e
    · rw [e]; exact List.mem_cons_self
    · exact List.mem_cons_of_mem _ (s y e)) b h.2⟩
  | _, _, s, .nm x, h => s x h
/-- the weight of an expansion, its shifts one in another -/
def wt : Ex → Nat
  | .two _ a b => wt a + wt b
  | .over a _ => wt a
  | .bel a b c d => max (max (wt a) (wt b)) (max (wt c) (wt d))
  | .shift _ _ a => wt a
  | _ => 1
def sh : Ex → Nat
  | .two _ a b => max (sh a) (sh b)
  | .over a _ => sh a
  | .bel a b c d => max (max (sh a) (sh b)) (max (sh c) (sh d))
  | .shift _ _ a => sh a + 1
  | _ => 0
theorem wt_pos : ∀ e : Ex, 1 ≤ wt e
  | .whole _ => Nat.le_refl 1
  | .px => Nat.le_refl 1
  | .pz => Nat.le_refl 1
  | .noise _ _ => Nat.le_refl 1
  | .two _ a b => by have := wt_pos a; simp only [wt]; omega
  | .over a _ => wt_pos a
  | .bel a b c d => by have := wt_pos a; simp only [wt]; omega
  | .shift _ _ a => wt_pos a
theorem vb_le : ∀ (e : Ex) (k : Nat), 34 ≤ k → vb e k ≤ wt e * (k + sh e + 1)
  | .whole _, k, h => by simp only [vb, wt, sh]; omega
  | .px, k, h => by simp only [vb, wt, sh]; omega
  | .pz, k, h => by simp only [vb, wt, sh]; omega
  | .noise _ _, k, h => by simp only [vb, wt, sh]; omega
  | .two w a b, k, h => by
    have ha := vb_le a k h
    have hb := vb_le b k h
    have ha1 : wt a * (k + sh a + 1) ≤ wt a * (k + max (sh a) (sh b) + 1) := Nat.mul_le_mul_left _ (by omega)
    have hb1 : wt b * (k + sh b + 1) ≤ wt b * (k + max (sh a) (sh b) + 1) := Nat.mul_le_mul_left _ (by omega)
    have pa : 1 * (k + max (sh a) (sh b) + 1) ≤ wt a * (k + max (sh a) (sh b) + 1) := Nat.mul_le_mul_right _ (wt_pos a)
    have pb : 1 * (k + max (sh a) (sh b) + 1) ≤ wt b * (k + max (sh a) (sh b) + 1) := Nat.mul_le_mul_right _ (wt_pos b)
    have e : wt (.two w a b) * (k + sh (.two w a b) + 1) = wt a * (k + max (sh a) (sh b) + 1) + wt b * (k + max (sh a) (sh b) + 1) := by
      simp only [wt, sh]
      rw [Nat.add_mul]
    rw [e]
    cases w <;> simp only [vb] <;> omega
  | .over a _, k, h => vb_le a k h
  | .bel a b c d, k, h => by
    have up : ∀ {x s w m : Nat}, x ≤ w * (k + s + 1) → w ≤ wt (.bel a b c d) → s ≤ sh (.bel a b c d) → x ≤ wt (.bel a b c d) * (k + sh (.bel a b c d) + 1) := fun {x s w m} h1 h2 h3 =>
      Nat.le_trans h1 (Nat.mul_le_mul h2 (by omega))
    have ha := up (m := 0) (vb_le a k h) (by simp only [wt]; omega) (by simp only [sh]; omega)
    have hb := up (m := 0) (vb_le b k h) (by simp only [wt]; omega) (by simp only [sh]; omega)
    have hc := up (m := 0) (vb_le c k h) (by simp only [wt]; omega) (by simp only [sh]; omega)
    have hd := up (m := 0) (vb_le d k h) (by simp only [wt]; omega) (by simp only [sh]; omega)
    simp only [vb]
    omega
  | .shift _ _ a, k, h => by
    have ha := vb_le a (k + 1) (by omega)
    simp only [vb, wt, sh]
    have e : k + 1 + sh a + 1 = k + (sh a + 1) + 1 := by omega
    rw [← e]
    exact ha
def Wd : Nat → Nat → Nat
  | 0, N => max 1 N
  | d + 1, N => 2 * Wd d (max N (Wd d N))
def Sd : Nat → Nat → Nat
  | 0, N => N
  | d + 1, N => 1 + Sd d (max N (Sd d N))
def Ud : Nat → Nat → Nat
  | 0, N => N + 1
  | d + 1, N => 1 + Ud d (max N (Ud d N))
theorem Wd_mono : ∀ {d : Nat} {a b : Nat}, a ≤ b → Wd d a ≤ Wd d b
  | 0, a, b, h => by simp only [Wd]; omega
  | d + 1, a, b, h => by
    have h1 := Wd_mono (d := d) h
    have h2 := Wd_mono (d := d) (show max a (Wd d a) ≤ max b (Wd d b) by omega)
    simp only [Wd]
    omega
theorem Sd_mono : ∀ {d : Nat} {a b : Nat}, a ≤ b → Sd d a ≤ Sd d b
  | 0, a, b, h => h
  | d + 1, a, b, h => by
    have h1 := Sd_mono (d := d) h
    have h2 := Sd_mono (d := d) (show max a (Sd d a) ≤ max b (Sd d b) by omega)
    simp only [Sd]
    omega
theorem Ud_mono : ∀ {d : Nat} {a b : Nat}, a ≤ b → Ud d a ≤ Ud d b
  | 0, a, b, h => by simp only [Ud]; omega
  | d + 1, a, b, h => by
    have h1 := Ud_mono (d := d) h
    have h2 := Ud_mono (d := d) (show max a (Ud d a) ≤ max b (Ud d b) by omega)
    simp only [Ud]
    omega
def Cd : Nat → Nat → Nat
  | 0, N => max 1 N
  | d + 1, N => 1 + 4 * Cd d (max N (Cd d N))
theorem Cd_mono : ∀ {d : Nat} {a b : Nat}, a ≤ b → Cd d a ≤ Cd d b
  | 0, a, b, h => by simp only [Cd]; omega
  | d + 1, a, b, h => by
    have h1 := Cd_mono (d := d) h
    have h2 := Cd_mono (d := d) (show max a (Cd d a) ≤ max b (Cd d b) by omega)
    simp only [Cd]
    omega
theorem cn_le : ∀ (F : Fd) (d : Nat) (r : Env) (c : Nat), dep F ≤ d → (∀ x, cn (look r x) ≤ max 1 c) → cn (expand F r) ≤ Cd d c := by
  have base : ∀ (d c : Nat), 1 ≤ Cd d c ∧ max 1 c ≤ Cd d c := by
    intro d
    induction d with
    | zero => intro c; simp only [Cd]; omega
    | succ d ih =>
      intro c
      have h1 := ih (max c (Cd d c))
      simp only [Cd]
      omega
  have step : ∀ (d c : Nat), 1 + 4 * Cd d c ≤ Cd (d + 1) c := by
    intro d c
    have h1 := Cd_mono (d := d) (show c ≤ max c (Cd d c) by omega)
    simp only [Cd]
    omega
  intro F
  induction F with
  | whole n => intro d r c _ N; have := base d c; simp only [expand, cn]; omega
  | px => intro d r c _ N; have := base d c; simp only [expand, cn]; omega
  | pz => intro d r c _ N; have := base d c; simp only [expand, cn]; omega
  | noise a l => intro d r c _ N; have := base d c; simp only [expand, cn]; omega
  | nm x => intro d r c _ N; have := base d c; have h1 := N x; simp only [expand]; omega
  | two w a b iha ihb =>
    intro d r c h N
    have h' : 1 + max (dep a) (dep b) ≤ d := h
    obtain ⟨d, rfl⟩ : ∃ d', d = d' + 1 := ⟨d - 1, by omega⟩
    have ha := iha d r c (by omega) N
    have hb := ihb d r c (by omega) N
    have st := step d c
    simp only [expand, cn]
    omega
  | over a n iha =>
    intro d r c h N
    have h' : 1 + dep a ≤ d := h
    obtain ⟨d, rfl⟩ : ∃ d', d = d' + 1 := ⟨d - 1, by omega⟩
    have ha := iha d r c (by omega) N
    have st := step d c
    simp only [expand, cn]
    omega
  | bel a b e f iha ihb ihc ihe =>
    intro d r c h N
    have h' : 1 + max (max (dep a) (dep b)) (max (dep e) (dep f)) ≤ d := h
    obtain ⟨d, rfl⟩ : ∃ d', d = d' + 1 := ⟨d - 1, by omega⟩
    have ha := iha d r c (by omega) N
    have hb := ihb d r c (by omega) N
    have hc := ihc d r c (by omega) N
    have he := ihe d r c (by omega) N
    have st := step d c
    simp only [expand, cn]
    omega
  | shift dx dz a iha =>
    intro d r c h N
    have h' : 1 + dep a ≤ d := h
    obtain ⟨d, rfl⟩ : ∃ d', d = d' + 1 := ⟨d - 1, by omega⟩
    have ha := iha d r c (by omega) N
    have st := step d c
    simp only [expand, cn]
    omega
  | lt x a b iha ihb =>
    intro d r c h N
    have h' : 1 + max (dep a) (dep b) ≤ d := h
    obtain ⟨d, rfl⟩ : ∃ d', d = d' + 1 := ⟨d - 1, by omega⟩
    have ha := iha d r c (by omega) N
    have hb := ihb d ((x, expand a r) :: r) (max c (Cd d c)) (by omega) (fun y => by
      have := N y
      unfold look
      split <;> omega)
    simp only [expand, Cd]
    omega
/-- the numbers of an environment -/
structure Num (r : Env) (δ : List (Str × Nat)) (w s u : Nat) : Prop where
  w : ∀ x, wt (look r x) ≤ max 1 w
  s : ∀ x, sh (look r x) ≤ s
  u : ∀ x, (δ.lookup x).getD 0 ≤ u
theorem num_nil : Num [] [] 0 0 0 := ⟨fun _ => Nat.le_refl 1, fun _ => Nat.le_refl 0, fun _ => Nat.le_refl 0⟩
theorem Num.mono {r : Env} {δ : List (Str × Nat)} {w s u w' s' u' : Nat} (h : Num r δ w s u) (hw : w ≤ w') (hs : s ≤ s') (hu : u ≤ u') : Num r δ w' s' u' :=
  ⟨fun x => Nat.le_trans (h.w x) (by omega), fun x => Nat.le_trans (h.s x) hs, fun x => Nat.le_trans (h.u x) hu⟩
theorem Num.cons {r : Env} {δ : List (Str × Nat)} {w s u w' s' u' n : Nat} {x : Str} {e : Ex} (h : Num r δ w s u) (hw : wt e ≤ w') (hs : sh e ≤ s') (hu : n ≤ u') : Num ((x, e) :: r) ((x, n) :: δ) (max w w') (max s s') (max u u') :=
  ⟨fun y => by have := h.w y; unfold look; split <;> omega, fun y => by have := h.s y; unfold look; split <;> omega, fun y => by
    by_cases e : y = x
    · subst e; simp [List.lookup]; omega
    · have hb : (y == x) = false := by simpa using e
      have := h.u y
      simp only [List.lookup, hb]
      omega⟩
theorem nums : ∀ (F : Fd) (d : Nat) (r : Env) (δ : List (Str × Nat)) (w s u : Nat), dep F ≤ d → Num r δ w s u → wt (expand F r) ≤ Wd d w ∧ sh (expand F r) ≤ Sd d s ∧ udep F δ ≤ Ud d u := by
  have base : ∀ (d w s u : Nat), 1 ≤ Wd d w ∧ max 1 w ≤ Wd d w ∧ s ≤ Sd d s ∧ u + 1 ≤ Ud d u := by
    intro d
    induction d with
    | zero => intro w s u; simp only [Wd, Sd, Ud]; omega
    | succ d ih =>
      intro w s u
      have h1 := ih (max w (Wd d w)) (max s (Sd d s)) (max u (Ud d u))
      simp only [Wd, Sd, Ud]
      omega
  have step : ∀ (d w s u : Nat), Wd d w + Wd d w ≤ Wd (d + 1) w ∧ 1 + Sd d s ≤ Sd (d + 1) s ∧ 1 + Ud d u ≤ Ud (d + 1) u := by
    intro d w s u
    have h1 := Wd_mono (d := d) (show w ≤ max w (Wd d w) by omega)
    have h2 := Sd_mono (d := d) (show s ≤ max s (Sd d s) by omega)
    have h3 := Ud_mono (d := d) (show u ≤ max u (Ud d u) by omega)
    simp only [Wd, Sd, Ud]
    omega
  intro F
  induction F with
  | whole n => intro d r δ w s u _ N; have := base d w s u; simp only [expand, wt, sh, udep]; omega
  | px => intro d r δ w s u _ N; have := base d w s u; simp only [expand, wt, sh, udep]; omega
  | pz => intro d r δ w s u _ N; have := base d w s u; simp only [expand, wt, sh, udep]; omega
  | noise a l => intro d r δ w s u _ N; have := base d w s u; simp only [expand, wt, sh, udep]; omega
  | nm x =>
    intro d r δ w s u _ N
    have := base d w s u
    have h1 := N.w x; have h2 := N.s x; have h3 := N.u x
    simp only [expand, udep]
    omega
  | two c a b iha ihb =>
    intro d r δ w s u h N
    have h' : 1 + max (dep a) (dep b) ≤ d := h
    obtain ⟨d, rfl⟩ : ∃ d', d = d' + 1 := ⟨d - 1, by omega⟩
    have ha := iha d r δ w s u (by omega) N
    have hb := ihb d r δ w s u (by omega) N
    have st := step d w s u
    simp only [expand, wt, sh, udep]
    omega
  | over a n iha =>
    intro d r δ w s u h N
    have h' : 1 + dep a ≤ d := h
    obtain ⟨d, rfl⟩ : ∃ d', d = d' + 1 := ⟨d - 1, by omega⟩
    have ha := iha d r δ w s u (by omega) N
    have st := step d w s u
    simp only [expand, wt, sh, udep]
    omega
  | bel a b c e iha ihb ihc ihe =>
    intro d r δ w s u h N
    have h' : 1 + max (max (dep a) (dep b)) (max (dep c) (dep e)) ≤ d := h
    obtain ⟨d, rfl⟩ : ∃ d', d = d' + 1 := ⟨d - 1, by omega⟩
    have ha := iha d r δ w s u (by omega) N
    have hb := ihb d r δ w s u (by omega) N
    have hc := ihc d r δ w s u (by omega) N
    have he := ihe d r δ w s u (by omega) N
    have st := step d w s u
    simp only [expand, wt, sh, udep]
    omega
  | shift dx dz a iha =>
    intro d r δ w s u h N
    have h' : 1 + dep a ≤ d := h
    obtain ⟨d, rfl⟩ : ∃ d', d = d' + 1 := ⟨d - 1, by omega⟩
    have ha := iha d r δ w s u (by omega) N
    have st := step d w s u
    simp only [expand, wt, sh, udep]
    omega
  | lt x a b iha ihb =>
    intro d r δ w s u h N
    have h' : 1 + max (dep a) (dep b) ≤ d := h
    obtain ⟨d, rfl⟩ : ∃ d', d = d' + 1 := ⟨d - 1, by omega⟩
    have ha := iha d r δ w s u (by omega) N
    have hb := ihb d ((x, expand a r) :: r) ((x, udep a δ) :: δ) _ _ _ (by omega) (N.cons ha.1 ha.2.1 ha.2.2)
    have bs := base d w s u
    simp only [expand, udep, Wd, Sd, Ud]
    omega
end Fm

/-! Fields as they stand in the heap. -/
namespace Fr
open PySem L2 Lw Fm
/-- all tuples are kept -/
def Tup (H H' : Hp) : Prop := ∀ a xs, H a = some (.tup xs) → H' a = some (.tup xs)
theorem Tup.refl {H : Hp} : Tup H H := fun _ _ h => h
theorem Tup.trans {H H1 H2 : Hp} (a : Tup H H1) (b : Tup H1 H2) : Tup H H2 := fun c o h => b c o (a c o h)
theorem same_tup {H H' : Hp} (s : Same H H') : Tup H H' := fun a xs h => s a _ h
theorem keep_tup {p : Addr} {H H' : Hp} {xs : List V} (k : Keep p H H') (hp : H p = some (.lst xs)) : Tup H H' := fun a ys h => k a _ (ne_of h hp (by intro z; cases z)) h
theorem same_new {H : Hp} {p : Addr} {o : HO} (h : H p = none) : Same H (upd H p o) := fun b x e => by
  rw [upd_ne (ne_of_none e h)]
  exact e
theorem same_put {H H' : Hp} {p : Addr} {o : HO} (s : Same H H') (hp : H p = none) : Same H (upd H' p o) := fun b x e => by
  rw [upd_ne (ne_of_none e hp)]
  exact s b x e
def FRep : Fd → Hp → V → Prop
  | .whole n, H, v => ∃ p, v = .ref p ∧ H p = some (.tup [.str "whole", .int n])
  | .px, H, v => ∃ p, v = .ref p ∧ H p = some (.tup [.str "x"])
  | .pz, H, v => ∃ p, v = .ref p ∧ H p = some (.tup [.str "z"])
  | .noise s l, H, v => ∃ p, v = .ref p ∧ H p = some (.tup [.str "noise", .int s, .int l])
  | .two w a b, H, v => ∃ p u1 u2, v = .ref p ∧ H p = some (.tup [.str w.word, u1, u2]) ∧ FRep a H u1 ∧ FRep b H u2
  | .over a n, H, v => ∃ p u1, v = .ref p ∧ H p = some (.tup [.str "over", u1, .int n]) ∧ FRep a H u1
  | .bel a b c d, H, v => ∃ p u1 u2 u3 u4, v = .ref p ∧ H p = some (.tup [.str "below", u1, u2, u3, u4]) ∧ FRep a H u1 ∧ FRep b H u2 ∧ FRep c H u3 ∧ FRep d H u4
  | .shift dx dz a, H, v => ∃ p u1, v = .ref p ∧ H p = some (.tup [.str "shift", .int dx, .int dz, u1]) ∧ FRep a H u1
  | .lt x a b, H, v => ∃ p u1 u2, v = .ref p ∧ H p = some (.tup [.str "let", .str x, u1, u2]) ∧ FRep a H u1 ∧ FRep b H u2
  | .nm x, H, v => ∃ p, v = .ref p ∧ H p = some (.tup [.str "name", .str x])
theorem FRep.mono {H H' : Hp} (t : Tup H H') : ∀ {F : Fd} {v : V}, FRep F H v → FRep F H' v
  | .whole _, _, ⟨p, e, h⟩ => ⟨p, e, t _ _ h⟩
  | .px, _, ⟨p, e, h⟩ => ⟨p, e, t _ _ h⟩
  | .pz, _, ⟨p, e, h⟩ => ⟨p, e, t _ _ h⟩
  | .noise _ _, _, ⟨p, e, h⟩ => ⟨p, e, t _ _ h⟩
  | .two _ a b, _, ⟨p, u1, u2, e, h, h1, h2⟩ => ⟨p, u1, u2, e, t _ _ h, FRep.mono t (F := a) h1, FRep.mono t (F := b) h2⟩
  | .over a _, _, ⟨p, u1, e, h, h1⟩ => ⟨p, u1, e, t _ _ h, FRep.mono t (F := a) h1⟩
  | .bel a b c d, _, ⟨p, u1, u2, u3, u4, e, h, h1, h2, h3, h4⟩ => ⟨p, u1, u2, u3, u4, e, t _ _ h, FRep.mono t (F := a) h1, FRep.mono t (F := b) h2, FRep.mono t (F := c) h3, FRep.mono t (F := d) h4⟩
  | .shift _ _ a, _, ⟨p, u1, e, h, h1⟩ => ⟨p, u1, e, t _ _ h, FRep.mono t (F := a) h1⟩
  | .lt _ a b, _, ⟨p, u1, u2, e, h, h1, h2⟩ => ⟨p, u1, u2, e, t _ _ h, FRep.mono t (F := a) h1, FRep.mono t (F := b) h2⟩
  | .nm _, _, ⟨p, e, h⟩ => ⟨p, e, t _ _ h⟩
/-- at d a dict of what the names stand for, lets within lets at most n deep -/
def EnvR : Nat → Hp → Addr → Fm.Env → List (Str × Nat) → Prop
  | 0, H, d, r, δ => H d = some (.dK []) ∧ r = [] ∧ δ = []
  | n + 1, H, d, r, δ => ∃ kvs, H d = some (.dK kvs) ∧ kvs.length ≤ r.length ∧ ∀ x, x ∈ r.map (·.1) → ∃ t u d' F r' δ', valV kvs (Sum.inr x : Key) = some (.ref t) ∧ H t = some (.tup [u, .ref d']) ∧ FRep F H u ∧ EnvR n H d' r' δ' ∧
      Bnd F (r'.map (·.1)) ∧ expand F r' = look r x ∧ udep F δ' ≤ (δ.lookup x).getD 0 ∧ r'.length ≤ r.length
theorem EnvR.up : ∀ {n : Nat} {H : Hp} {d : Addr} {r : Fm.Env} {δ : List (Str × Nat)}, EnvR n H d r δ → EnvR (n + 1) H d r δ
  | 0, H, d, r, δ, ⟨h, e1, e2⟩ => by
    subst e1 e2
    exact ⟨[], h, Nat.le_refl _, fun x hx => by cases hx⟩
  | n + 1, H, d, r, δ, ⟨kvs, h, l, q⟩ => ⟨kvs, h, l, fun x hx => by
    obtain ⟨t, u, d', F, r', δ', a1, a2, a3, a4, a5⟩ := q x hx
    exact ⟨t, u, d', F, r', δ', a1, a2, a3, a4.up, a5⟩⟩
theorem EnvR.mono : ∀ {n : Nat} {H H' : Hp} {d : Addr} {r : Fm.Env} {δ : List (Str × Nat)}, Same H H' → EnvR n H d r δ → EnvR n H' d r δ
  | 0, _, _, _, _, _, s, ⟨h, e⟩ => ⟨s _ _ h, e⟩
  | n + 1, _, _, _, _, _, s, ⟨kvs, h, l, q⟩ => ⟨kvs, s _ _ h, l, fun x hx => by
    obtain ⟨t, u, d', F, r', δ', a1, a2, a3, a4, a5⟩ := q x hx
    exact ⟨t, u, d', F, r', δ', a1, s _ _ a2, a3.mono (same_tup s), a4.mono s, a5⟩⟩
theorem EnvR.dict : ∀ {n : Nat} {H : Hp} {d : Addr} {r : Fm.Env} {δ : List (Str × Nat)}, EnvR n H d r δ → ∃ kvs, H d = some (.dK kvs) ∧ kvs.length ≤ r.length
  | 0, _, _, _, _, ⟨h, e1, _⟩ => ⟨[], h, Nat.zero_le _⟩
  | _ + 1, _, _, _, _, ⟨kvs, h, l, _⟩ => ⟨kvs, h, l⟩
/-- one let more -/
theorem EnvR.let_ {n : Nat} {H H' : Hp} {d p t : Addr} {r : Fm.Env} {δ : List (Str × Nat)} {kvs : List (Key × V)} {x : Str} {u : V} {F : Fd} (E : EnvR n H d r δ) (hd : H d = some (.dK kvs)) (s : Same H H') (hp : H' p = some (.dK (putK kvs (Sum.inr x : Key) (.ref t))))
    (ht : H' t = some (.tup [u, .ref d])) (hF : FRep F H u) (hB : Bnd F (r.map (·.1))) : EnvR (n + 1) H' p ((x, expand F r) :: r) ((x, udep F δ) :: δ) := by
  obtain ⟨k0, e0, l0⟩ := E.dict
  have ek : k0 = kvs := by rw [hd] at e0; cases e0; rfl
  subst ek
  refine ⟨_, hp, ?_, fun y hy => ?_⟩
  · have := length_putK k0 (Sum.inr x : Key) (V.ref t)
    simp only [List.length_cons]
    omega
  · by_cases e : y = x
    · subst e
      refine ⟨t, u, d, F, r, δ, ?_, ht, hF.mono (same_tup s), E.mono s, hB, ?_, ?_, ?_⟩
      · rw [valV_put, if_pos rfl]
      · simp [look]
      · simp [List.lookup]
      · simp
    · have hy' : y ∈ r.map (·.1) := by
        simp only [List.map_cons, List.mem_cons] at hy
        exact hy.resolve_left e
      have hne : ¬ (Sum.inr y : Key) = Sum.inr x := fun z => e (Sum.inr.inj z)
      have key : ∃ t' u' d' F' r' δ', valV k0 (Sum.inr y : Key) = some (.ref t') ∧ H t' = some (.tup [u', .ref d']) ∧ FRep F' H u' ∧ EnvR n H d' r' δ' ∧ Bnd F' (r'.map (·.1)) ∧ expand F' r' = look r y ∧ udep F' δ' ≤ (δ.lookup y).getD 0 ∧ r'.length ≤ r.length := by
        cases n with
        | zero =>
          obtain ⟨_, e1, _⟩ := E
          subst e1
          cases hy'
        | succ n =>
          obtain ⟨k1, e1, _, q⟩ := E
          have : k1 = k0 := by rw [hd] at e1; cases e1; rfl
          subst this
          obtain ⟨t', u', d', F', r', δ', a1, a2, a3, a4, a5⟩ := q y hy'
          exact ⟨t', u', d', F', r', δ', a1, a2, a3, a4.up, a5⟩
      obtain ⟨t', u', d', F', r', δ', a1, a2, a3, a4, a5, a6, a7, a8⟩ := key
      refine ⟨t', u', d', F', r', δ', ?_, s _ _ a2, a3.mono (same_tup s), a4.mono s, a5, ?_, ?_, ?_⟩
      · rw [valV_put, if_neg hne]; exact a1
      · rw [a6]; simp [look, e]
      · have hb : (y == x) = false := by simpa using e
        simpa [List.lookup, hb] using a7
      · simp only [List.length_cons]; omega
/-- a part is no harder than the whole -/
structure Sub (A F : Fd) : Prop where
  bnd : ∀ l, Bnd F l → Bnd A l
  ud : ∀ δ, udep A δ + 1 ≤ udep F δ
  ok : ∀ r, OkE (expand F r) → OkE (expand A r)
  vb : ∀ r k, Fm.vb (expand A r) k ≤ Fm.vb (expand F r) k
  cn : ∀ r, Fm.cn (expand A r) ≤ Fm.cn (expand F r)
def PartOk (H : Hp) (v : V) : Option Fd → Prop
  | some A => FRep A H v
  | none => (∃ n, v = .int n) ∨ ∃ s, v = .str s
def plainWord (w : Str) : Prop := decide (w = "name") = false ∧ decide (w = "let") = false ∧ decide (w = "shift") = false
abbrev partR (N : NR) (r : Fm.Env) (x0 z0 x1 z1 : Int) (q : V × Option Fd) : List (Int × Int) := match q.2 with
  | some A => allE N (expand A r) x0 z0 x1 z1
  | none => []
theorem kinds (F : Fd) : (∃ x, F = .nm x) ∨ (∃ x A B, F = .lt x A B) ∨ (∃ dx dz A, F = .shift dx dz A) ∨ ((∀ dx dz A, F ≠ .shift dx dz A) ∧ (∀ x A B, F ≠ .lt x A B) ∧ ∀ x, F ≠ .nm x) := by
  cases F with
  | nm x => exact .inl ⟨x, rfl⟩
  | lt x A B => exact .inr (.inl ⟨x, A, B, rfl⟩)
  | shift dx dz A => exact .inr (.inr (.inl ⟨dx, dz, A, rfl⟩))
  | _ => exact .inr (.inr (.inr ⟨fun _ _ _ e => (nomatch e), fun _ _ _ e => (nomatch e), fun _ e => (nomatch e)⟩))
theorem frep_ref {H : Hp} {v : V} : ∀ {F : Fd}, FRep F H v → ∃ p xs, v = .ref p ∧ H p = some (.tup xs)
  | .whole _, ⟨p, e, h⟩ => ⟨p, _, e, h⟩
  | .px, ⟨p, e, h⟩ => ⟨p, _, e, h⟩
  | .pz, ⟨p, e, h⟩ => ⟨p, _, e, h⟩
  | .noise _ _, ⟨p, e, h⟩ => ⟨p, _, e, h⟩
  | .two _ _ _, ⟨p, _, _, e, h, _⟩ => ⟨p, _, e, h⟩
  | .over _ _, ⟨p, _, e, h, _⟩ => ⟨p, _, e, h⟩
  | .bel _ _ _ _, ⟨p, _, _, _, _, e, h, _⟩ => ⟨p, _, e, h⟩
  | .shift _ _ _, ⟨p, _, e, h, _⟩ => ⟨p, _, e, h⟩
  | .lt _ _ _, ⟨p, _, _, e, h, _⟩ => ⟨p, _, e, h⟩
  | .nm _, ⟨p, e, h⟩ => ⟨p, _, e, h⟩
structure Parts (F : Fd) (H : Hp) (u : V) : Prop where
  ex : ∃ (p : Addr) (w : Str) (ps : List (V × Option Fd)), u = .ref p ∧ H p = some (.tup (.str w :: ps.map (·.1))) ∧ (∀ q ∈ ps, PartOk H q.1 q.2) ∧ ps.length ≤ 4 ∧ plainWord w ∧ (∀ q ∈ ps, ∀ A, q.2 = some A → Sub A F) ∧
    ∀ (N : NR) (r : Fm.Env) (x0 z0 x1 z1 : Int), allE N (expand F r) x0 z0 x1 z1 = rangeG N (expand F r) x0 z0 x1 z1 :: ps.flatMap (partR N r x0 z0 x1 z1)
theorem sub_two1 (w : W2) (a b : Fd) : Sub a (.two w a b) := ⟨fun _ h => h.1, fun δ => by simp only [udep]; omega, fun _ h => h.1, fun r k => (vb_two w _ _ k).1, fun r => by simp only [expand, Fm.cn]; omega⟩
theorem sub_two2 (w : W2) (a b : Fd) : Sub b (.two w a b) := ⟨fun _ h => h.2, fun δ => by simp only [udep]; omega, fun _ h => h.2, fun r k => (vb_two w _ _ k).2, fun r => by simp only [expand, Fm.cn]; omega⟩
theorem plain_w2 (w : W2) : plainWord w.word := ⟨word_ne (by decide +kernel) w, word_ne (by decide +kernel) w, word_ne (by decide +kernel) w⟩
theorem parts {F : Fd} {H : Hp} {u : V} (h : FRep F H u) (h1 : ∀ dx dz A, F ≠ .shift dx dz A) (h2 : ∀ x A B, F ≠ .lt x A B) (h3 : ∀ x, F ≠ .nm x) : Parts F H u := by
  cases F with
  | whole n =>
    obtain ⟨p, e, hp⟩ := h
    refine ⟨p, "whole", [(.int n, none)], e, hp, ?_, by simp, ⟨by decide +kernel, by decide +kernel, by decide +kernel⟩, ?_, fun N r x0 z0 x1 z1 => rfl⟩
    · intro q hq; rw [List.mem_singleton.mp hq]; exact .inl ⟨n, rfl⟩
    · intro q hq A e; rw [List.mem_singleton.mp hq] at e; cases e
  | px =>
    obtain ⟨p, e, hp⟩ := h
    exact ⟨p, "x", [], e, hp, fun q hq => (nomatch hq), by decide, ⟨by decide +kernel, by decide +kernel, by decide +kernel⟩, fun q hq => (nomatch hq), fun N r x0 z0 x1 z1 => rfl⟩
  | pz =>
    obtain ⟨p, e, hp⟩ := h
    exact ⟨p, "z", [], e, hp, fun q hq => (nomatch hq), by decide, ⟨by decide +kernel, by decide +kernel, by decide +kernel⟩, fun q hq => (nomatch hq), fun N r x0 z0 x1 z1 => rfl⟩
  | noise s l =>
    obtain ⟨p, e, hp⟩ := h
    refine ⟨p, "noise", [(.int s, none), (.int l, none)], e, hp, ?_, by simp, ⟨by decide +kernel, by decide +kernel, by decide +kernel⟩, ?_, fun N r x0 z0 x1 z1 => rfl⟩
    · intro q hq
      simp only [List.mem_cons, List.not_mem_nil, or_false] at hq
      rcases hq with rfl | rfl
      · exact .inl ⟨s, rfl⟩
      · exact .inl ⟨l, rfl⟩
    · intro q hq A e
      simp only [List.mem_cons, List.not_mem_nil, or_false] at hq
      rcases hq with rfl | rfl <;> cases e
  | two w a b =>
    obtain ⟨p, u1, u2, e, hp, ha, hb⟩ := h
    refine ⟨p, w.word, [(u1, some a), (u2, some b)], e, hp, ?_, by simp, plain_w2 w, ?_, fun N r x0 z0 x1 z1 => by simp [allE, expand, partR]⟩
    · intro q hq
      simp only [List.mem_cons, List.not_mem_nil, or_false] at hq
      rcases hq with rfl | rfl
      · exact ha
      · exact hb
    · intro q hq A e
      simp only [List.mem_cons, List.not_mem_nil, or_false] at hq
      rcases hq with rfl | rfl <;> cases e
      · exact sub_two1 w a b
      · exact sub_two2 w a b
  | over a n =>
    obtain ⟨p, u1, e, hp, ha⟩ := h
    refine ⟨p, "over", [(u1, some a), (.int n, none)], e, hp, ?_, by simp, ⟨by decide +kernel, by decide +kernel, by decide +kernel⟩, ?_, fun N r x0 z0 x1 z1 => by simp [allE, expand, partR]⟩
    · intro q hq
      simp only [List.mem_cons, List.not_mem_nil, or_false] at hq
      rcases hq with rfl | rfl
      · exact ha
      · exact .inl ⟨n, rfl⟩
    · intro q hq A e
      simp only [List.mem_cons, List.not_mem_nil, or_false] at hq
      rcases hq with rfl | rfl <;> cases e
      exact ⟨fun _ h => h, fun δ => by simp only [udep]; omega, fun _ h => h.1, fun r k => Nat.le_refl _, fun r => by simp only [expand, Fm.cn]; omega⟩
  | bel a b c d =>
    obtain ⟨p, u1, u2, u3, u4, e, hp, ha, hb, hc, hd⟩ := h
    refine ⟨p, "below", [(u1, some a), (u2, some b), (u3, some c), (u4, some d)], e, hp, ?_, by simp, ⟨by decide +kernel, by decide +kernel, by decide +kernel⟩, ?_, fun N r x0 z0 x1 z1 => by simp [allE, expand, partR]⟩
    · intro q hq
      simp only [List.mem_cons, List.not_mem_nil, or_false] at hq
      rcases hq with rfl | rfl | rfl | rfl
      · exact ha
      · exact hb
      · exact hc
      · exact hd
    · intro q hq A e
      simp only [List.mem_cons, List.not_mem_nil, or_false] at hq
      rcases hq with rfl | rfl | rfl | rfl <;> cases e
      · exact ⟨fun _ h => h.1, fun δ => by simp only [udep]; omega, fun _ h => h.1, fun r k => by simp only [expand, Fm.vb]; omega, fun r => by simp only [expand, Fm.cn]; omega⟩
      · exact ⟨fun _ h => h.2.1, fun δ => by simp only [udep]; omega, fun _ h => h.2.1, fun r k => by simp only [expand, Fm.vb]; omega, fun r => by simp only [expand, Fm.cn]; omega⟩
      · exact ⟨fun _ h => h.2.2.1, fun δ => by simp only [udep]; omega, fun _ h => h.2.2.1, fun r k => by simp only [expand, Fm.vb]; omega, fun r => by simp only [expand, Fm.cn]; omega⟩
      · exact ⟨fun _ h => h.2.2.2, fun δ => by simp only [udep]; omega, fun _ h => h.2.2.2, fun r k => by simp only [expand, Fm.vb]; omega, fun r => by simp only [expand, Fm.cn]; omega⟩
  | shift dx dz a => exact absurd rfl (h1 dx dz a)
  | lt x a b => exact absurd rfl (h2 x a b)
  | nm x => exact absurd rfl (h3 x)
/-- a list of pairs -/
abbrev PairsR (H : Hp) : List V → List (Int × Int) → Prop := Paired fun v ab => ∃ p, v = V.ref p ∧ H p = some (.tup [.int ab.1, .int ab.2])
theorem PairsR.mono {H H' : Hp} (s : Same H H') : ∀ {vs : List V} {ps : List (Int × Int)}, PairsR H vs ps → PairsR H' vs ps
  | _, _, .nil => .nil
  | _, _, .cons ⟨p, e, h⟩ t => .cons ⟨p, e, s _ _ h⟩ (PairsR.mono s t)
theorem pairs_at {H : Hp} : ∀ {vs : List V} {ps : List (Int × Int)} {i : Nat} {y : V}, PairsR H vs ps → vs[i]? = some y → ∃ ab, ps[i]? = some ab ∧ ∃ p, y = V.ref p ∧ H p = some (.tup [.int ab.1, .int ab.2])
  | _, _, _, _, .nil, h => by simp at h
  | _, _, 0, y, .cons (b := b) a _, h => by
    simp at h
    subst h
    exact ⟨b, rfl, a⟩
  | _, _, i + 1, y, .cons _ t, h => by
    obtain ⟨ab, h1, h2⟩ := pairs_at (i := i) (y := y) t (by simpa using h)
    exact ⟨ab, by simpa using h1, h2⟩
theorem PairsR.append {H : Hp} : ∀ {vs ws : List V} {ps qs : List (Int × Int)}, PairsR H vs ps → PairsR H ws qs → PairsR H (vs ++ ws) (ps ++ qs)
  | _, _, _, _, .nil, h => h
  | _, _, _, _, .cons a t, h => .cons a (PairsR.append t h)
end Fr

/-! Steps: fields without names as a list in which nothing stands twice. -/
namespace Sm
open PySem Fm
inductive Stp where
  | whole (n : Int) | px (d : Int) | pz (d : Int) | noise (s l dx dz : Int) | two (w : W2) (i j : Nat) | over (i : Nat) (n : Int) | bel (a b c d : Nat)
  deriving DecidableEq
/-- what a step leans on lies ahead of place n -/
def Stp.lt : Stp → Nat → Prop
  | .two _ i j, n => i < n ∧ j < n
  | .over i _, n => i < n
  | .bel a b c d, n => a < n ∧ b < n ∧ c < n ∧ d < n
  | _, _ => True
theorem Stp.lt_mono {s : Stp} {m n : Nat} (h : s.lt m) (l : m ≤ n) : s.lt n := by
  cases s <;> simp only [Stp.lt] at * <;> omega
/-- put a step in, where it isn't there -/
def put (st : List Stp) (s : Stp) : List Stp × Nat := if s ∈ st then (st, st.idxOf s) else (st ++ [s], st.length)
def into : Ex → Int → Int → List Stp → List Stp × Nat
  | .whole n, _, _, st => put st (.whole n)
  | .px, dx, _, st => put st (.px dx)
  | .pz, _, dz, st => put st (.pz dz)
  | .noise s l, dx, dz, st => put st (.noise s l dx dz)
  | .two w a b, dx, dz, st =>
    let p := into a dx dz st
    let q := into b dx dz p.1
    put q.1 (.two w p.2 q.2)
  | .over a n, dx, dz, st =>
    let p := into a dx dz st
    put p.1 (.over p.2 n)
  | .bel a b c d, dx, dz, st =>
    let p := into a dx dz st
    let q := into b dx dz p.1
    let r := into c dx dz q.1
    let t := into d dx dz r.1
    put t.1 (.bel p.2 q.2 r.2 t.2)
  | .shift ex ez a, dx, dz, st => into a (dx + ex) (dz + ez) st
def stepsE (e : Ex) : List Stp := (into e 0 0 []).1
/-! ### what steps make, in any kind of values -/
structure Alg (α : Type) where
  dflt : α
  whole : Int → α
  px : Int → α
  pz : Int → α
  noise : Int → Int → Int → Int → α
  two : W2 → α → α → α
  over : α → Int → α
  bel : α → α → α → α → α
variable {α : Type}
def Alg.step (A : Alg α) (s : Stp) (vs : List α) : α := match s with
  | .whole n => A.whole n
  | .px d => A.px d
  | .pz d => A.pz d
  | .noise s l dx dz => A.noise s l dx dz
  | .two w i j => A.two w (vs.getD i A.dflt) (vs.getD j A.dflt)
  | .over i n => A.over (vs.getD i A.dflt) n
  | .bel a b c d => A.bel (vs.getD a A.dflt) (vs.getD b A.dflt) (vs.getD c A.dflt) (vs.getD d A.dflt)
def Alg.run (A : Alg α) (st : List Stp) : List α := st.foldl (fun vs s => vs ++ [A.step s vs]) []
theorem run_snoc (A : Alg α) (st : List Stp) (s : Stp) : A.run (st ++ [s]) = A.run st ++ [A.step s (A.run st)] := by
  simp [Alg.run, List.foldl_append]
theorem snoc_ind {β : Type} {P : List β → Prop} (h0 : P []) (h1 : ∀ l a, P l → P (l ++ [a])) (l : List β) : P l := by
  have key : ∀ l : List β, P l.reverse := by
    intro l
    induction l with
    | nil => exact h0
    | cons a r ih => rw [List.reverse_cons]; exact h1 _ _ ih
  have := key l.reverse
  rwa [List.reverse_reverse] at this
theorem run_len (A : Alg α) (st : List Stp) : (A.run st).length = st.length := by
  refine snoc_ind (P := fun st => (A.run st).length = st.length) rfl (fun st s ih => ?_) st
  rw [run_snoc]; simp [ih]
/-- more steps change no earlier value -/
theorem run_append (A : Alg α) (st : List Stp) : ∀ more : List Stp, ∃ t, A.run (st ++ more) = A.run st ++ t := by
  intro more
  refine snoc_ind (P := fun more => ∃ t, A.run (st ++ more) = A.run st ++ t) ⟨[], by simp⟩ (fun r s ih => ?_) more
  obtain ⟨t, h⟩ := ih
  rw [← List.append_assoc, run_snoc, h]
  exact ⟨_, List.append_assoc _ _ _⟩
theorem run_get (A : Alg α) {st st' : List Stp} (h : st <+: st') {i : Nat} (hi : i < st.length) : (A.run st').getD i A.dflt = (A.run st).getD i A.dflt := by
  obtain ⟨m, rfl⟩ := h
  obtain ⟨t, e⟩ := run_append A st m
  rw [e]
  have hl : i < (A.run st).length := by rw [run_len]; exact hi
  simp [List.getD, List.getElem?_append_left hl]
/-- steps lean on steps ahead -/
def Ok (st : List Stp) : Prop := ∀ (j : Nat) (s : Stp), st[j]? = some s → s.lt j
theorem ok_nil : Ok [] := fun j s h => by simp at h
theorem ok_snoc {st : List Stp} {s : Stp} (h : Ok st) (hs : s.lt st.length) : Ok (st ++ [s]) := fun j t e => by
  rcases Nat.lt_trichotomy j st.length with l | l | l
  · rw [List.getElem?_append_left l] at e; exact h j t e
  · subst l; simp at e; subst e; exact hs
  · rw [List.getElem?_append_right (by omega)] at e
    have : 1 ≤ j - st.length := by omega
    rw [List.getElem?_eq_none (by simp; omega)] at e
    cases e
/-- a step's value leans on what stands ahead of it alone -/
theorem step_eq (A : Alg α) {s : Stp} {n : Nat} {vs ws : List α} (hs : s.lt n) (h : ∀ i, i < n → vs.getD i A.dflt = ws.getD i A.dflt) : A.step s vs = A.step s ws := by
  cases s with
  | two w i j => simp only [Alg.step]; rw [h i hs.1, h j hs.2]
  | over i m => simp only [Alg.step]; rw [h i hs]
  | bel a b c d => simp only [Alg.step]; rw [h a hs.1, h b hs.2.1, h c hs.2.2.1, h d hs.2.2.2]
  | _ => rfl
theorem run_at (A : Alg α) {st : List Stp} (h : Ok st) {j : Nat} {s : Stp} (hj : st[j]? = some s) : (A.run st).getD j A.dflt = A.step s (A.run st) := by
  have hl : j < st.length := (List.getElem?_eq_some_iff.mp hj).1
  have e1 : st.take (j + 1) = st.take j ++ [s] := by rw [List.take_add_one, hj]; rfl
  have hp : st.take (j + 1) <+: st := List.take_prefix _ _
  have hp0 : st.take j <+: st := List.take_prefix _ _
  have hlen : (st.take j).length = j := by rw [List.length_take]; omega
  rw [run_get A hp (by rw [List.length_take]; omega), e1, run_snoc]
  have hr : (A.run (st.take j)).length = j := by rw [run_len, hlen]
  have e2 : (A.run (st.take j) ++ [A.step s (A.run (st.take j))]).getD j A.dflt = A.step s (A.run (st.take j)) := by
    simp [List.getD, List.getElem?_append_right (Nat.le_of_eq hr), hr]
  rw [e2]
  exact step_eq A (h j s hj) fun i hi => (run_get A hp0 (by omega)).symm
structure Put (st : List Stp) (s : Stp) (r : List Stp × Nat) : Prop where
  pre : st <+: r.1
  lt : r.2 < r.1.length
  at_ : r.1[r.2]? = some s
  ok : Ok st → s.lt st.length → Ok r.1
  nd : st.Nodup → r.1.Nodup
  len : r.1.length ≤ st.length + 1
theorem put_ok (st : List Stp) (s : Stp) : Put st s (put st s) := by
  unfold put
  split
  · rename_i h
    have hl := List.idxOf_lt_length_iff.mpr h
    exact ⟨List.prefix_refl _, hl, by rw [List.getElem?_eq_getElem hl, List.getElem_idxOf], fun o _ => o, fun n => n, Nat.le_succ _⟩
  · rename_i h
    refine ⟨List.prefix_append _ _, by simp, by simp, fun o hs => ok_snoc o hs, fun n => ?_, by simp⟩
    exact List.nodup_append.mpr ⟨n, by simp, fun a ha b hb e => by simp at hb; subst hb; subst e; exact h ha⟩
def foldE (A : Alg α) : Ex → Int → Int → α
  | .whole n, _, _ => A.whole n
  | .px, dx, _ => A.px dx
  | .pz, _, dz => A.pz dz
  | .noise s l, dx, dz => A.noise s l dx dz
  | .two w a b, dx, dz => A.two w (foldE A a dx dz) (foldE A b dx dz)
  | .over a n, dx, dz => A.over (foldE A a dx dz) n
  | .bel a b c d, dx, dz => A.bel (foldE A a dx dz) (foldE A b dx dz) (foldE A c dx dz) (foldE A d dx dz)
  | .shift ex ez a, dx, dz => foldE A a (dx + ex) (dz + ez)
structure Into (st : List Stp) (e : Ex) (dx dz : Int) (r : List Stp × Nat) : Prop where
  pre : st <+: r.1
  lt : r.2 < r.1.length
  ok : Ok st → Ok r.1
  nd : st.Nodup → r.1.Nodup
  val : Ok st → ∀ {α : Type} (A : Alg α), (A.run r.1).getD r.2 A.dflt = foldE A e dx dz
  len : r.1.length ≤ st.length + cn e
theorem leaf_into {st : List Stp} {s : Stp} {e : Ex} {dx dz : Int} (hs : ∀ n, s.lt n) (hv : ∀ {α : Type} (A : Alg α) (vs : List α), A.step s vs = foldE A e dx dz) (hc : cn e = 1) : Into st e dx dz (put st s) := by
  have p := put_ok st s
  exact ⟨p.pre, p.lt, fun o => p.ok o (hs _), p.nd, fun o α A => by rw [run_at A (p.ok o (hs _)) p.at_]; exact hv A _, by rw [hc]; exact p.len⟩
theorem into_ok : ∀ (e : Ex) (dx dz : Int) (st : List Stp), Into st e dx dz (into e dx dz st)
  | .whole n, dx, dz, st => leaf_into (fun _ => True.intro) (fun _ _ => rfl) rfl
  | .px, dx, dz, st => leaf_into (fun _ => True.intro) (fun _ _ => rfl) rfl
  | .pz, dx, dz, st => leaf_into (fun _ => True.intro) (fun _ _ => rfl) rfl
  | .noise s l, dx, dz, st => leaf_into (fun _ => True.intro) (fun _ _ => rfl) rfl
  | .two w a b, dx, dz, st => by
    have ha := into_ok a dx dz st
    have hb := into_ok b dx dz (into a dx dz st).1
    have p := put_ok (into b dx dz (into a dx dz st).1).1 (.two w (into a dx dz st).2 (into b dx dz (into a dx dz st).1).2)
    have lb := hb.pre.length_le
    have hs : (Stp.two w (into a dx dz st).2 (into b dx dz (into a dx dz st).1).2).lt (into b dx dz (into a dx dz st).1).1.length := ⟨Nat.lt_of_lt_of_le ha.lt lb, hb.lt⟩
    refine ⟨ha.pre.trans (hb.pre.trans p.pre), p.lt, fun o => p.ok (hb.ok (ha.ok o)) hs, fun n => p.nd (hb.nd (ha.nd n)), fun o α A => ?_, ?_⟩
    · show (A.run (put _ _).1).getD (put _ _).2 A.dflt = _
      rw [run_at A (p.ok (hb.ok (ha.ok o)) hs) p.at_]
      show A.two w _ _ = A.two w _ _
      rw [run_get A p.pre hs.1, run_get A p.pre hs.2, run_get A hb.pre ha.lt, ha.val o A, hb.val (ha.ok o) A]
    · have := p.len; have := ha.len; have := hb.len
      show (put _ _).1.length ≤ st.length + (1 + (cn a + cn b))
      omega
  | .over a n, dx, dz, st => by
    have ha := into_ok a dx dz st
    have p := put_ok (into a dx dz st).1 (.over (into a dx dz st).2 n)
    have hs : (Stp.over (into a dx dz st).2 n).lt (into a dx dz st).1.length := ha.lt
    refine ⟨ha.pre.trans p.pre, p.lt, fun o => p.ok (ha.ok o) hs, fun m => p.nd (ha.nd m), fun o α A => ?_, ?_⟩
    · show (A.run (put _ _).1).getD (put _ _).2 A.dflt = _
      rw [run_at A (p.ok (ha.ok o) hs) p.at_]
      show A.over _ n = A.over _ n
      rw [run_get A p.pre hs, ha.val o A]
    · have := p.len; have := ha.len
      show (put _ _).1.length ≤ st.length + (1 + cn a)
      omega
  | .bel a b c d, dx, dz, st => by
    have ha := into_ok a dx dz st
    have hb := into_ok b dx dz (into a dx dz st).1
    have hc := into_ok c dx dz (into b dx dz (into a dx dz st).1).1
    have hd := into_ok d dx dz (into c dx dz (into b dx dz (into a dx dz st).1).1).1
    have p := put_ok (into d dx dz (into c dx dz (into b dx dz (into a dx dz st).1).1).1).1 (.bel (into a dx dz st).2 (into b dx dz (into a dx dz st).1).2 (into c dx dz (into b dx dz (into a dx dz st).1).1).2 (into d dx dz (into c dx dz (into b dx dz (into a dx dz st).1).1).1).2)
    have lb := hb.pre.length_le
    have lc := hc.pre.length_le
    have ld := hd.pre.length_le
    have la' := ha.lt
    have lb' := hb.lt
    have lc' := hc.lt
    have hs : (Stp.bel (into a dx dz st).2 (into b dx dz (into a dx dz st).1).2 (into c dx dz (into b dx dz (into a dx dz st).1).1).2 (into d dx dz (into c dx dz (into b dx dz (into a dx dz st).1).1).1).2).lt (into d dx dz (into c dx dz (into b dx dz (into a dx dz st).1).1).1).1.length :=
      ⟨by omega, by omega, by omega, hd.lt⟩
    have od := fun o => hd.ok (hc.ok (hb.ok (ha.ok o)))
    refine ⟨ha.pre.trans (hb.pre.trans (hc.pre.trans (hd.pre.trans p.pre))), p.lt, fun o => p.ok (od o) hs, fun n => p.nd (hd.nd (hc.nd (hb.nd (ha.nd n)))), fun o α A => ?_, ?_⟩
    · show (A.run (put _ _).1).getD (put _ _).2 A.dflt = _
      rw [run_at A (p.ok (od o) hs) p.at_]
      show A.bel _ _ _ _ = A.bel _ _ _ _
      rw [run_get A p.pre hs.1, run_get A p.pre hs.2.1, run_get A p.pre hs.2.2.1, run_get A p.pre hs.2.2.2]
      rw [run_get A (hb.pre.trans (hc.pre.trans hd.pre)) ha.lt, run_get A (hc.pre.trans hd.pre) hb.lt, run_get A hd.pre hc.lt, ha.val o A, hb.val (ha.ok o) A, hc.val (hb.ok (ha.ok o)) A, hd.val (hc.ok (hb.ok (ha.ok o))) A]
    · have := p.len; have := ha.len; have := hb.len; have := hc.len; have := hd.len
      show (put _ _).1.length ≤ st.length + (1 + (cn a + (cn b + (cn c + cn d))))
      omega
  | .shift ex ez a, dx, dz, st => by
    have ha := into_ok a (dx + ex) (dz + ez) st
    refine ⟨ha.pre, ha.lt, ha.ok, ha.nd, fun o α A => ha.val o A, ?_⟩
    have := ha.len
    show (into a (dx + ex) (dz + ez) st).1.length ≤ st.length + (1 + cn a)
    omega
/-- a field's own step is the last one, where anything was put in -/
theorem put_top {st : List Stp} {s : Stp} (h : Ok st) (no : ∀ p, s.lt p → ¬ p < st.length) : (put st s).2 + 1 = (put st s).1.length := by
  unfold put
  split
  · rename_i m
    have hl := List.idxOf_lt_length_iff.mpr m
    exact absurd hl (no _ (h _ s (by rw [List.getElem?_eq_getElem hl, List.getElem_idxOf])))
  · simp
theorem put_any (st : List Stp) (s : Stp) : (put st s).1 = st ∨ (put st s).2 + 1 = (put st s).1.length := by
  unfold put
  split
  · exact .inl rfl
  · right; simp
theorem into_top : ∀ (e : Ex) (dx dz : Int) (st : List Stp), Ok st → (into e dx dz st).1 = st ∨ (into e dx dz st).2 + 1 = (into e dx dz st).1.length
  | .whole _, _, _, st, _ => put_any st _
  | .px, _, _, st, _ => put_any st _
  | .pz, _, _, st, _ => put_any st _
  | .noise _ _, _, _, st, _ => put_any st _
  | .two w a b, dx, dz, st, ok => by
    have oa := (into_ok a dx dz st).ok ok
    have ob := (into_ok b dx dz (into a dx dz st).1).ok oa
    show (put (into b dx dz (into a dx dz st).1).1 (.two w (into a dx dz st).2 (into b dx dz (into a dx dz st).1).2)).1 = st ∨ _
    rcases into_top b dx dz _ oa with hb | hb
    · rcases into_top a dx dz st ok with ha | ha
      · have e : (into b dx dz (into a dx dz st).1).1 = st := by rw [hb, ha]
        have := put_any (into b dx dz (into a dx dz st).1).1 (.two w (into a dx dz st).2 (into b dx dz (into a dx dz st).1).2)
        rcases this with h | h
        · exact .inl (h.trans e)
        · exact .inr h
      · refine .inr (put_top ob fun p hp => ?_)
        have h1 : (into a dx dz st).2 < p := hp.1
        rw [hb]
        omega
    · refine .inr (put_top ob fun p hp => ?_)
      have h1 : (into b dx dz (into a dx dz st).1).2 < p := hp.2
      omega
  | .over a n, dx, dz, st, ok => by
    have oa := (into_ok a dx dz st).ok ok
    show (put (into a dx dz st).1 (.over (into a dx dz st).2 n)).1 = st ∨ _
    rcases into_top a dx dz st ok with ha | ha
    · rcases put_any (into a dx dz st).1 (.over (into a dx dz st).2 n) with h | h
      · exact .inl (h.trans ha)
      · exact .inr h
    · refine .inr (put_top oa fun p hp => ?_)
      have h1 : (into a dx dz st).2 < p := hp
      omega
  | .bel a b c d, dx, dz, st, ok => by
    obtain ⟨qa, ea⟩ : ∃ q, into a dx dz st = q := ⟨_, rfl⟩
    obtain ⟨qb, eb⟩ : ∃ q, into b dx dz qa.1 = q := ⟨_, rfl⟩
    obtain ⟨qc, ec⟩ : ∃ q, into c dx dz qb.1 = q := ⟨_, rfl⟩
    obtain ⟨qd, ed⟩ : ∃ q, into d dx dz qc.1 = q := ⟨_, rfl⟩
    have oa := (into_ok a dx dz st).ok ok
    rw [ea] at oa
    have ob := (into_ok b dx dz qa.1).ok oa
    rw [eb] at ob
    have oc := (into_ok c dx dz qb.1).ok ob
    rw [ec] at oc
    have od := (into_ok d dx dz qc.1).ok oc
    rw [ed] at od
    have ta := into_top a dx dz st ok
    have tb := into_top b dx dz qa.1 oa
    have tc := into_top c dx dz qb.1 ob
    have td := into_top d dx dz qc.1 oc
    rw [ea] at ta
    rw [eb] at tb
    rw [ec] at tc
    rw [ed] at td
    have e : into (.bel a b c d) dx dz st = put qd.1 (.bel qa.2 qb.2 qc.2 qd.2) := by
      simp only [into, ea, eb, ec, ed]
    rw [e]
    by_cases hd : qd.1 = qc.1
    · by_cases hc : qc.1 = qb.1
      · by_cases hb : qb.1 = qa.1
        · by_cases ha : qa.1 = st
          · have e2 : qd.1 = st := by rw [hd, hc, hb, ha]
            rcases put_any qd.1 (.bel qa.2 qb.2 qc.2 qd.2) with h | h
            · exact .inl (h.trans e2)
            · exact .inr h
          · have h1 := ta.resolve_left ha
            refine .inr (put_top od fun p hp => ?_)
            have h2 : qa.2 < p := hp.1
            rw [hd, hc, hb]
            omega
        · have h1 := tb.resolve_left hb
          refine .inr (put_top od fun p hp => ?_)
          have h2 : qb.2 < p := hp.2.1
          rw [hd, hc]
          omega
      · have h1 := tc.resolve_left hc
        refine .inr (put_top od fun p hp => ?_)
        have h2 : qc.2 < p := hp.2.2.1
        rw [hd]
        omega
    · have h1 := td.resolve_left hd
      refine .inr (put_top od fun p hp => ?_)
      have h2 : qd.2 < p := hp.2.2.2
      omega
  | .shift ex ez a, dx, dz, st, ok => into_top a (dx + ex) (dz + ez) st ok
/-! ### values, ranges -/
def valA (g x z : Int) : Alg Int := ⟨0, fun n => n, fun d => x + d, fun d => z + d, fun s l dx dz => noiseL g s l (x + dx) (z + dz), W2.op, fun a n => a / n, fun a b c d => if a < b then c else d⟩
def rngA (N : NR) (x0 z0 x1 z1 : Int) : Alg (Int × Int) := ⟨(0, 0), fun n => (n, n), fun d => (x0 + d, x1 + d), fun d => (z0 + d, z1 + d), fun s l dx dz => N s l (x0 + dx) (z0 + dz) (x1 + dx) (z1 + dz), W2.rng, fun a n => (a.1 / n, a.2 / n), belR⟩
theorem fold_val : ∀ (e : Ex) (g x z dx dz : Int), foldE (valA g x z) e dx dz = valE e g (x + dx) (z + dz)
  | .whole _, _, _, _, _, _ => rfl
  | .px, _, _, _, _, _ => rfl
  | .pz, _, _, _, _, _ => rfl
  | .noise _ _, _, _, _, _, _ => rfl
  | .two w a b, g, x, z, dx, dz => by simp only [foldE, valE, fold_val a, fold_val b]; rfl
  | .over a n, g, x, z, dx, dz => by simp only [foldE, valE, fold_val a]; rfl
  | .bel a b c d, g, x, z, dx, dz => by simp only [foldE, valE, fold_val a, fold_val b, fold_val c, fold_val d]; rfl
  | .shift ex ez a, g, x, z, dx, dz => by simp only [foldE, valE, fold_val a, Int.add_assoc]
theorem fold_rng (N : NR) : ∀ (e : Ex) (x0 z0 x1 z1 dx dz : Int), foldE (rngA N x0 z0 x1 z1) e dx dz = rangeG N e (x0 + dx) (z0 + dz) (x1 + dx) (z1 + dz)
  | .whole _, _, _, _, _, _, _ => rfl
  | .px, _, _, _, _, _, _ => rfl
  | .pz, _, _, _, _, _, _ => rfl
  | .noise _ _, _, _, _, _, _, _ => rfl
  | .two w a b, x0, z0, x1, z1, dx, dz => by simp only [foldE, rangeG, fold_rng N a, fold_rng N b]; rfl
  | .over a n, x0, z0, x1, z1, dx, dz => by simp only [foldE, rangeG, fold_rng N a]; rfl
  | .bel a b c d, x0, z0, x1, z1, dx, dz => by simp only [foldE, rangeG, fold_rng N a, fold_rng N b, fold_rng N c, fold_rng N d]; rfl
  | .shift ex ez a, x0, z0, x1, z1, dx, dz => by simp only [foldE, rangeG, fold_rng N a, Int.add_assoc]
end Sm

/-! Ranges hold: in a part of the box they are no wider; values lie between. -/
namespace Rm
open PySem Fm
def In (a b : Int × Int) : Prop := b.1 ≤ a.1 ∧ a.2 ≤ b.2
theorem In.refl (a : Int × Int) : In a a := ⟨Int.le_refl _, Int.le_refl _⟩
theorem In.trans {a b c : Int × Int} (h : In a b) (k : In b c) : In a c := ⟨Int.le_trans k.1 h.1, Int.le_trans h.2 k.2⟩
/-- a product of one factor lies between those of its ends -/
theorem mul_ends {lo hi x : Int} (y : Int) (h1 : lo ≤ x) (h2 : x ≤ hi) : min (lo * y) (hi * y) ≤ x * y ∧ x * y ≤ max (lo * y) (hi * y) := by
  rcases Int.le_total 0 y with hy | hy
  · have a := Int.mul_le_mul_of_nonneg_right h1 hy
    have b := Int.mul_le_mul_of_nonneg_right h2 hy
    omega
  · have a := Int.mul_le_mul_of_nonpos_right h1 hy
    have b := Int.mul_le_mul_of_nonpos_right h2 hy
    omega
theorem mul_in {a b : Int × Int} {x y : Int} (h1 : a.1 ≤ x) (h2 : x ≤ a.2) (h3 : b.1 ≤ y) (h4 : y ≤ b.2) : (W2.rng .times a b).1 ≤ x * y ∧ x * y ≤ (W2.rng .times a b).2 := by
  have e1 := mul_ends y h1 h2
  have e2 := mul_ends a.1 h3 h4
  have e3 := mul_ends a.2 h3 h4
  rw [Int.mul_comm b.1 a.1, Int.mul_comm b.2 a.1, Int.mul_comm y a.1] at e2
  rw [Int.mul_comm b.1 a.2, Int.mul_comm b.2 a.2, Int.mul_comm y a.2] at e3
  simp only [W2.rng, mn4, mx4]
  omega
theorem rng_ok (w : W2) {a b : Int × Int} (ha : a.1 ≤ a.2) (hb : b.1 ≤ b.2) : (w.rng a b).1 ≤ (w.rng a b).2 := by
  cases w with
  | times =>
    have := mul_in (a := a) (b := b) (Int.le_refl a.1) ha (Int.le_refl b.1) hb
    omega
  | _ => simp only [W2.rng]; omega
theorem rng_in (w : W2) {a b a' b' : Int × Int} (ha : a.1 ≤ a.2) (hb : b.1 ≤ b.2) (h1 : In a a') (h2 : In b b') : In (w.rng a b) (w.rng a' b') := by
  obtain ⟨p1, p2⟩ := h1
  obtain ⟨q1, q2⟩ := h2
  cases w with
  | times =>
    have c1 := mul_in (a := a') (b := b') (x := a.1) (y := b.1) p1 (by omega) q1 (by omega)
    have c2 := mul_in (a := a') (b := b') (x := a.1) (y := b.2) p1 (by omega) (by omega) q2
    have c3 := mul_in (a := a') (b := b') (x := a.2) (y := b.1) (by omega) p2 q1 (by omega)
    have c4 := mul_in (a := a') (b := b') (x := a.2) (y := b.2) (by omega) p2 (by omega) q2
    simp only [In]
    simp only [W2.rng, mn4, mx4] at *
    omega
  | _ => simp only [In, W2.rng]; omega
theorem op_in (w : W2) {a b : Int × Int} {x y : Int} (h1 : a.1 ≤ x) (h2 : x ≤ a.2) (h3 : b.1 ≤ y) (h4 : y ≤ b.2) : (w.rng a b).1 ≤ w.op x y ∧ w.op x y ≤ (w.rng a b).2 := by
  cases w with
  | times => exact mul_in h1 h2 h3 h4
  | plus => simp only [W2.rng, W2.op]; omega
  | less => simp only [W2.rng, W2.op]; omega
  | least => simp only [W2.rng, W2.op]; split <;> omega
  | most => simp only [W2.rng, W2.op]; split <;> omega
theorem bel_ok {a b c d : Int × Int} (hc : c.1 ≤ c.2) (hd : d.1 ≤ d.2) : (belR a b c d).1 ≤ (belR a b c d).2 := by
  unfold belR
  split
  · exact hc
  · split
    · exact hd
    · show min c.1 d.1 ≤ max c.2 d.2
      omega
theorem bel_in {a b c d a' b' c' d' : Int × Int} (ha : a.1 ≤ a.2) (hb : b.1 ≤ b.2) (hc : c.1 ≤ c.2) (hd : d.1 ≤ d.2) (h1 : In a a') (h2 : In b b') (h3 : In c c') (h4 : In d d') : In (belR a b c d) (belR a' b' c' d') := by
  obtain ⟨p1, p2⟩ := h1
  obtain ⟨q1, q2⟩ := h2
  obtain ⟨r1, r2⟩ := h3
  obtain ⟨s1, s2⟩ := h4
  unfold belR
  by_cases t1 : a'.2 < b'.1
  · rw [if_pos t1, if_pos (show a.2 < b.1 by omega)]
    exact ⟨r1, r2⟩
  · rw [if_neg t1]
    by_cases t2 : b'.2 ≤ a'.1
    · rw [if_pos t2, if_neg (show ¬ a.2 < b.1 by omega), if_pos (show b.2 ≤ a.1 by omega)]
      exact ⟨s1, s2⟩
    · rw [if_neg t2]
      by_cases t3 : a.2 < b.1
      · rw [if_pos t3]
        show min c'.1 d'.1 ≤ c.1 ∧ c.2 ≤ max c'.2 d'.2
        omega
      · rw [if_neg t3]
        by_cases t4 : b.2 ≤ a.1
        · rw [if_pos t4]
          show min c'.1 d'.1 ≤ d.1 ∧ d.2 ≤ max c'.2 d'.2
          omega
        · rw [if_neg t4]
          show min c'.1 d'.1 ≤ min c.1 d.1 ∧ max c.2 d.2 ≤ max c'.2 d'.2
          omega
/-- ranges of noise that hold: no less than one another in parts -/
structure NMono (N N' : NR) : Prop where
  ok : ∀ s l x0 z0 x1 z1, x0 ≤ x1 → z0 ≤ z1 → (N s l x0 z0 x1 z1).1 ≤ (N s l x0 z0 x1 z1).2
  sub : ∀ s l x0 z0 x1 z1 x0' z0' x1' z1', x0 ≤ x1 → z0 ≤ z1 → x0' ≤ x0 → x1 ≤ x1' → z0' ≤ z0 → z1 ≤ z1' → In (N s l x0 z0 x1 z1) (N' s l x0' z0' x1' z1')
theorem wide_mono : NMono wideN wideN := ⟨fun _ _ _ _ _ _ _ _ => (by decide : (0 : Int) ≤ 65535), fun _ _ _ _ _ _ _ _ _ _ _ _ _ _ _ _ => In.refl _⟩
theorem div_le {a b n : Int} (h : a ≤ b) (hn : 1 ≤ n) : a / n ≤ b / n := Int.ediv_le_ediv (by omega) h
theorem range_ok {N N' : NR} (hN : NMono N N') : ∀ (e : Ex) (x0 z0 x1 z1 : Int), OkE e → x0 ≤ x1 → z0 ≤ z1 → (rangeG N e x0 z0 x1 z1).1 ≤ (rangeG N e x0 z0 x1 z1).2
  | .whole _, _, _, _, _, _, _, _ => Int.le_refl _
  | .px, _, _, _, _, _, hx, _ => hx
  | .pz, _, _, _, _, _, _, hz => hz
  | .noise s l, x0, z0, x1, z1, _, hx, hz => hN.ok s l x0 z0 x1 z1 hx hz
  | .two w a b, x0, z0, x1, z1, h, hx, hz => rng_ok w (range_ok hN a x0 z0 x1 z1 h.1 hx hz) (range_ok hN b x0 z0 x1 z1 h.2 hx hz)
  | .over a n, x0, z0, x1, z1, h, hx, hz => div_le (range_ok hN a x0 z0 x1 z1 h.1 hx hz) h.2.1
  | .bel a b c d, x0, z0, x1, z1, h, hx, hz => bel_ok (range_ok hN c x0 z0 x1 z1 h.2.2.1 hx hz) (range_ok hN d x0 z0 x1 z1 h.2.2.2 hx hz)
  | .shift dx dz a, x0, z0, x1, z1, h, hx, hz => range_ok hN a _ _ _ _ h.2.2 (by omega) (by omega)
theorem range_in {N N' : NR} (hN : NMono N N') : ∀ (e : Ex) (x0 z0 x1 z1 x0' z0' x1' z1' : Int), OkE e → x0 ≤ x1 → z0 ≤ z1 → x0' ≤ x0 → x1 ≤ x1' → z0' ≤ z0 → z1 ≤ z1' → In (rangeG N e x0 z0 x1 z1) (rangeG N' e x0' z0' x1' z1')
  | .whole _, _, _, _, _, _, _, _, _, _, _, _, _, _, _, _ => In.refl _
  | .px, _, _, _, _, _, _, _, _, _, _, _, h1, h2, _, _ => ⟨h1, h2⟩
  | .pz, _, _, _, _, _, _, _, _, _, _, _, _, _, h3, h4 => ⟨h3, h4⟩
  | .noise s l, x0, z0, x1, z1, _, _, _, _, _, hx, hz, h1, h2, h3, h4 => hN.sub s l _ _ _ _ _ _ _ _ hx hz h1 h2 h3 h4
  | .two w a b, x0, z0, x1, z1, x0', z0', x1', z1', h, hx, hz, h1, h2, h3, h4 =>
    rng_in w (range_ok hN a x0 z0 x1 z1 h.1 hx hz) (range_ok hN b x0 z0 x1 z1 h.2 hx hz) (range_in hN a x0 z0 x1 z1 x0' z0' x1' z1' h.1 hx hz h1 h2 h3 h4) (range_in hN b x0 z0 x1 z1 x0' z0' x1' z1' h.2 hx hz h1 h2 h3 h4)
  | .over a n, x0, z0, x1, z1, x0', z0', x1', z1', h, hx, hz, h1, h2, h3, h4 => by
    have i := range_in hN a x0 z0 x1 z1 x0' z0' x1' z1' h.1 hx hz h1 h2 h3 h4
    exact ⟨div_le i.1 h.2.1, div_le i.2 h.2.1⟩
  | .bel a b c d, x0, z0, x1, z1, x0', z0', x1', z1', h, hx, hz, h1, h2, h3, h4 =>
    bel_in (range_ok hN a x0 z0 x1 z1 h.1 hx hz) (range_ok hN b x0 z0 x1 z1 h.2.1 hx hz) (range_ok hN c x0 z0 x1 z1 h.2.2.1 hx hz) (range_ok hN d x0 z0 x1 z1 h.2.2.2 hx hz)
      (range_in hN a x0 z0 x1 z1 x0' z0' x1' z1' h.1 hx hz h1 h2 h3 h4) (range_in hN b x0 z0 x1 z1 x0' z0' x1' z1' h.2.1 hx hz h1 h2 h3 h4) (range_in hN c x0 z0 x1 z1 x0' z0' x1' z1' h.2.2.1 hx hz h1 h2 h3 h4) (range_in hN d x0 z0 x1 z1 x0' z0' x1' z1' h.2.2.2 hx hz h1 h2 h3 h4)
  | .shift dx dz a, x0, z0, x1, z1, x0', z0', x1', z1', h, hx, hz, h1, h2, h3, h4 => range_in hN a _ _ _ _ _ _ _ _ h.2.2 (by omega) (by omega) (by omega) (by omega) (by omega) (by omega)
/-- noise lies in its range -/
def NHolds (g : Int) (N : NR) : Prop := ∀ s l x0 z0 x1 z1 x z, x0 ≤ x → x ≤ x1 → z0 ≤ z → z ≤ z1 → (N s l x0 z0 x1 z1).1 ≤ noiseL g s l x z ∧ noiseL g s l x z ≤ (N s l x0 z0 x1 z1).2
theorem wide_holds (g : Int) : NHolds g wideN := fun s l _ _ _ _ x z _ _ _ _ => noise_in g s l x z
theorem val_in {g : Int} {N : NR} (hN : NHolds g N) : ∀ (e : Ex) (x0 z0 x1 z1 x z : Int), OkE e → x0 ≤ x → x ≤ x1 → z0 ≤ z → z ≤ z1 → (rangeG N e x0 z0 x1 z1).1 ≤ valE e g x z ∧ valE e g x z ≤ (rangeG N e x0 z0 x1 z1).2
  | .whole _, _, _, _, _, _, _, _, _, _, _, _ => ⟨Int.le_refl _, Int.le_refl _⟩
  | .px, _, _, _, _, _, _, _, h1, h2, _, _ => ⟨h1, h2⟩
  | .pz, _, _, _, _, _, _, _, _, _, h3, h4 => ⟨h3, h4⟩
  | .noise s l, x0, z0, x1, z1, x, z, _, h1, h2, h3, h4 => hN s l x0 z0 x1 z1 x z h1 h2 h3 h4
  | .two w a b, x0, z0, x1, z1, x, z, h, h1, h2, h3, h4 => by
    have i := val_in hN a x0 z0 x1 z1 x z h.1 h1 h2 h3 h4
    have j := val_in hN b x0 z0 x1 z1 x z h.2 h1 h2 h3 h4
    exact op_in w i.1 i.2 j.1 j.2
  | .over a n, x0, z0, x1, z1, x, z, h, h1, h2, h3, h4 => by
    have i := val_in hN a x0 z0 x1 z1 x z h.1 h1 h2 h3 h4
    exact ⟨div_le i.1 h.2.1, div_le i.2 h.2.1⟩
  | .bel a b c d, x0, z0, x1, z1, x, z, h, h1, h2, h3, h4 => by
    have i := val_in hN a x0 z0 x1 z1 x z h.1 h1 h2 h3 h4
    have j := val_in hN b x0 z0 x1 z1 x z h.2.1 h1 h2 h3 h4
    have k := val_in hN c x0 z0 x1 z1 x z h.2.2.1 h1 h2 h3 h4
    have m := val_in hN d x0 z0 x1 z1 x z h.2.2.2 h1 h2 h3 h4
    show (belR _ _ _ _).1 ≤ (if _ then _ else _) ∧ (if _ then _ else _) ≤ (belR _ _ _ _).2
    unfold belR
    by_cases t : valE a g x z < valE b g x z
    · rw [if_pos t]
      split
      · exact k
      · split
        · omega
        · show min _ _ ≤ _ ∧ _ ≤ max _ _
          omega
    · rw [if_neg t]
      split
      · omega
      · split
        · exact m
        · show min _ _ ≤ _ ∧ _ ≤ max _ _
          omega
  | .shift dx dz a, x0, z0, x1, z1, x, z, h, h1, h2, h3, h4 => val_in hN a _ _ _ _ _ _ h.2.2 (by omega) (by omega) (by omega) (by omega)
/-- all ranges of a field in a part of the box lie within those of the box, one by one -/
theorem all_in {N N' : NR} (hN : NMono N N') (B : Int × Int) : ∀ (e : Ex) (x0 z0 x1 z1 x0' z0' x1' z1' : Int), OkE e → x0 ≤ x1 → z0 ≤ z1 → x0' ≤ x0 → x1 ≤ x1' → z0' ≤ z0 → z1 ≤ z1' →
    (∀ p ∈ allE N' e x0' z0' x1' z1', In p B) → ∀ p ∈ allE N e x0 z0 x1 z1, In p B
  | .whole n, x0, z0, x1, z1, x0', z0', x1', z1', h, hx, hz, h1, h2, h3, h4, q, p, hp => by
    have e := List.mem_singleton.mp hp
    rw [e]
    exact (range_in hN (.whole n) _ _ _ _ _ _ _ _ h hx hz h1 h2 h3 h4).trans (q _ (List.mem_singleton.mpr rfl))
  | .px, x0, z0, x1, z1, x0', z0', x1', z1', h, hx, hz, h1, h2, h3, h4, q, p, hp => by
    have e := List.mem_singleton.mp hp
    rw [e]
    exact (range_in hN .px _ _ _ _ _ _ _ _ h hx hz h1 h2 h3 h4).trans (q _ (List.mem_singleton.mpr rfl))
  | .pz, x0, z0, x1, z1, x0', z0', x1', z1', h, hx, hz, h1, h2, h3, h4, q, p, hp => by
    have e := List.mem_singleton.mp hp
    rw [e]
    exact (range_in hN .pz _ _ _ _ _ _ _ _ h hx hz h1 h2 h3 h4).trans (q _ (List.mem_singleton.mpr rfl))
  | .noise s l, x0, z0, x1, z1, x0', z0', x1', z1', h, hx, hz, h1, h2, h3, h4, q, p, hp => by
    have e := List.mem_singleton.mp hp
    rw [e]
    exact (range_in hN (.noise s l) _ _ _ _ _ _ _ _ h hx hz h1 h2 h3 h4).trans (q _ (List.mem_singleton.mpr rfl))
  | .two w a b, x0, z0, x1, z1, x0', z0', x1', z1', h, hx, hz, h1, h2, h3, h4, q, p, hp => by
    rcases List.mem_cons.mp hp with e | hp
    · rw [e]
      exact (range_in hN (.two w a b) _ _ _ _ _ _ _ _ h hx hz h1 h2 h3 h4).trans (q _ List.mem_cons_self)
    · rcases List.mem_append.mp hp with hp | hp
      · exact all_in hN B a _ _ _ _ _ _ _ _ h.1 hx hz h1 h2 h3 h4 (fun p hp => q p (List.mem_cons_of_mem _ (List.mem_append_left _ hp))) p hp
      · exact all_in hN B b _ _ _ _ _ _ _ _ h.2 hx hz h1 h2 h3 h4 (fun p hp => q p (List.mem_cons_of_mem _ (List.mem_append_right _ hp))) p hp
  | .over a n, x0, z0, x1, z1, x0', z0', x1', z1', h, hx, hz, h1, h2, h3, h4, q, p, hp => by
    rcases List.mem_cons.mp hp with e | hp
    · rw [e]
      exact (range_in hN (.over a n) _ _ _ _ _ _ _ _ h hx hz h1 h2 h3 h4).trans (q _ List.mem_cons_self)
    · exact all_in hN B a _ _ _ _ _ _ _ _ h.1 hx hz h1 h2 h3 h4 (fun p hp => q p (List.mem_cons_of_mem _ hp)) p hp
  | .bel a b c d, x0, z0, x1, z1, x0', z0', x1', z1', h, hx, hz, h1, h2, h3, h4, q, p, hp => by
    rcases List.mem_cons.mp hp with e | hp
    · rw [e]
      exact (range_in hN (.bel a b c d) _ _ _ _ _ _ _ _ h hx hz h1 h2 h3 h4).trans (q _ List.mem_cons_self)
    · rcases List.mem_append.mp hp with hp | hp
      · exact all_in hN B a _ _ _ _ _ _ _ _ h.1 hx hz h1 h2 h3 h4 (fun p hp => q p (List.mem_cons_of_mem _ (List.mem_append_left _ hp))) p hp
      · rcases List.mem_append.mp hp with hp | hp
        · exact all_in hN B b _ _ _ _ _ _ _ _ h.2.1 hx hz h1 h2 h3 h4 (fun p hp => q p (List.mem_cons_of_mem _ (List.mem_append_right _ (List.mem_append_left _ hp)))) p hp
        · rcases List.mem_append.mp hp with hp | hp
          · exact all_in hN B c _ _ _ _ _ _ _ _ h.2.2.1 hx hz h1 h2 h3 h4 (fun p hp => q p (List.mem_cons_of_mem _ (List.mem_append_right _ (List.mem_append_right _ (List.mem_append_left _ hp))))) p hp
          · exact all_in hN B d _ _ _ _ _ _ _ _ h.2.2.2 hx hz h1 h2 h3 h4 (fun p hp => q p (List.mem_cons_of_mem _ (List.mem_append_right _ (List.mem_append_right _ (List.mem_append_right _ hp))))) p hp
  | .shift dx dz a, x0, z0, x1, z1, x0', z0', x1', z1', h, hx, hz, h1, h2, h3, h4, q, p, hp => by
    rcases List.mem_cons.mp hp with e | hp
    · rw [e]
      exact (range_in hN (.shift dx dz a) _ _ _ _ _ _ _ _ h hx hz h1 h2 h3 h4).trans (q _ List.mem_cons_self)
    · exact all_in hN B a _ _ _ _ _ _ _ _ h.2.2 (by omega) (by omega) (by omega) (by omega) (by omega) (by omega) (fun p hp => q p (List.mem_cons_of_mem _ hp)) p hp
end Rm

/-! Weights of fields; steps as they stand in the heap. -/
namespace Pf
open PySem L2 Lw Fm Fr Sm
/-! ### weights -/
def grE : Ex → Int
  | .whole n => (if n < 0 then -n else n) + 1
  | .px => 1200000
  | .pz => 1200000
  | .noise _ _ => 65535
  | .two w a b => match w with
    | .times => min (grE a * grE b) 1000000000000000000000000000001
    | _ => grE a + grE b
  | .over a _ => grE a
  | .bel a b c d => [grE a, grE b, grE c, grE d].sum
  | .shift _ _ a => grE a
theorem sum4 (a b c d : Int) : [a, b, c, d].sum = a + b + c + d := by simp; omega
theorem gr_bnd : ∀ e : Ex, OkE e → 0 ≤ grE e ∧ grE e ≤ (cn e : Int) * 1000000000000000000000000000001
  | .whole n, h => by
    have h1 : -999999999 ≤ n := h.1
    have h2 : n ≤ 999999999 := h.2
    simp only [grE, cn]
    split <;> omega
  | .px, _ => by simp only [grE, cn]; omega
  | .pz, _ => by simp only [grE, cn]; omega
  | .noise _ _, _ => by simp only [grE, cn]; omega
  | .two w a b, h => by
    have ha := gr_bnd a h.1
    have hb := gr_bnd b h.2
    have hp := Int.mul_nonneg ha.1 hb.1
    have e1 : ((cn (.two w a b) : Nat) : Int) = 1 + ((cn a : Int) + (cn b : Int)) := by simp only [cn]; omega
    rw [e1]
    cases w <;> simp only [grE] <;> omega
  | .over a _, h => by
    have ha := gr_bnd a h.1
    simp only [grE, cn]
    omega
  | .bel a b c d, h => by
    have ha := gr_bnd a h.1
    have hb := gr_bnd b h.2.1
    have hc := gr_bnd c h.2.2.1
    have hd := gr_bnd d h.2.2.2
    simp only [grE, cn, sum4]
    omega
  | .shift _ _ a, h => by
    have ha := gr_bnd a h.2.2
    simp only [grE, cn]
    omega
theorem gr_mul {a b : Ex} (ha : OkE a) (hb : OkE b) (la : cn a ≤ 1000000000000000000000000000000) (lb : cn b ≤ 1000000000000000000000000000000) : L2.CMulW (grE a) (grE b) := by
  have h1 := gr_bnd a ha
  have h2 := gr_bnd b hb
  have e : (2 : Nat) ^ 210 = 1645504557321206042154969182557350504982735865633579863348609024 := by decide
  refine L2.wide_mul (a := 210) (b := 210) ?_ ?_ (by decide) (by decide) (by decide)
  · rw [e]; omega
  · rw [e]; omega
/-- what is let stays small, whether it is asked for or not -/
def Cok : Fd → Fm.Env → Prop
  | .two _ a b, r => Cok a r ∧ Cok b r
  | .over a _, r => Cok a r
  | .bel a b c d, r => Cok a r ∧ Cok b r ∧ Cok c r ∧ Cok d r
  | .shift _ _ a, r => Cok a r
  | .lt x a b, r => cn (expand a r) ≤ 1000000000000000000000000000000 ∧ Cok a r ∧ Cok b ((x, expand a r) :: r)
  | _, _ => True
theorem cok_of : ∀ (F : Fd) (d : Nat) (r : Fm.Env) (c : Nat), dep F ≤ d → (∀ x, cn (look r x) ≤ max 1 c) → Cd d c ≤ 1000000000000000000000000000000 → Cok F r := by
  have base : ∀ (d c : Nat), 1 ≤ Cd d c ∧ max 1 c ≤ Cd d c := by
    intro d
    induction d with
    | zero => intro c; simp only [Cd]; omega
    | succ d ih =>
      intro c
      have h1 := ih (max c (Cd d c))
      simp only [Cd]
      omega
  have step : ∀ (d c : Nat), 1 + 4 * Cd d c ≤ Cd (d + 1) c := by
    intro d c
    have h1 := Cd_mono (d := d) (show c ≤ max c (Cd d c) by omega)
    simp only [Cd]
    omega
  intro F
  induction F with
  | whole n => exact fun _ _ _ _ _ _ => True.intro
  | px => exact fun _ _ _ _ _ _ => True.intro
  | pz => exact fun _ _ _ _ _ _ => True.intro
  | noise a l => exact fun _ _ _ _ _ _ => True.intro
  | nm x => exact fun _ _ _ _ _ _ => True.intro
  | two w a b iha ihb =>
    intro d r c h N hC
    have h' : 1 + max (dep a) (dep b) ≤ d := h
    obtain ⟨d, rfl⟩ : ∃ d', d = d' + 1 := ⟨d - 1, by omega⟩
    have st := step d c
    exact ⟨iha d r c (by omega) N (by omega), ihb d r c (by omega) N (by omega)⟩
  | over a n iha =>
    intro d r c h N hC
    have h' : 1 + dep a ≤ d := h
    obtain ⟨d, rfl⟩ : ∃ d', d = d' + 1 := ⟨d - 1, by omega⟩
    have st := step d c
    exact iha d r c (by omega) N (by omega)
  | bel a b e f iha ihb ihc ihe =>
    intro d r c h N hC
    have h' : 1 + max (max (dep a) (dep b)) (max (dep e) (dep f)) ≤ d := h
    obtain ⟨d, rfl⟩ : ∃ d', d = d' + 1 := ⟨d - 1, by omega⟩
    have st := step d c
    exact ⟨iha d r c (by omega) N (by omega), ihb d r c (by omega) N (by omega), ihc d r c (by omega) N (by omega), ihe d r c (by omega) N (by omega)⟩
  | shift dx dz a iha =>
    intro d r c h N hC
    have h' : 1 + dep a ≤ d := h
    obtain ⟨d, rfl⟩ : ∃ d', d = d' + 1 := ⟨d - 1, by omega⟩
    have st := step d c
    exact iha d r c (by omega) N (by omega)
  | lt x a b iha ihb =>
    intro d r c h N hC
    have h' : 1 + max (dep a) (dep b) ≤ d := h
    obtain ⟨d, rfl⟩ : ∃ d', d = d' + 1 := ⟨d - 1, by omega⟩
    have st := step d c
    have ha := cn_le a d r c (by omega) N
    have bs := base d (max c (Cd d c))
    have eC : Cd (d + 1) c = 1 + 4 * Cd d (max c (Cd d c)) := rfl
    refine ⟨by omega, iha d r c (by omega) N (by omega), ihb d ((x, expand a r) :: r) (max c (Cd d c)) (by omega) (fun y => ?_) (by omega)⟩
    have := N y
    unfold look
    split <;> omega
/-- at d what each name's field weighs -/
def WEnv (K : PySem.W.Frag) (H : Hp) (d : Addr) (r : Fm.Env) : Prop := ∃ kvs : List (Key × V), H d = some (.dK kvs) ∧ kvs.length ≤ r.length ∧ ∀ x, x ∈ r.map (·.1) → ∃ t, valV kvs (Sum.inr x : Key) = some (.ref t) ∧ SqT K H t [.int (cn (look r x) : Nat), .int (grE (look r x))]
theorem same_sqT {K : PySem.W.Frag} {H H' : Hp} {p : Addr} {xs : List V} (s : Same H H') (h : SqT K H p xs) : SqT K H' p xs := by
  rcases h with (h | ⟨o, h⟩) | h
  · exact .inl (.inl (s _ _ h))
  · exact .inl (.inr ⟨o, s _ _ h⟩)
  · exact .inr h
theorem WEnv.mono {K : PySem.W.Frag} {H H' : Hp} {d : Addr} {r : Fm.Env} (s : Same H H') : WEnv K H d r → WEnv K H' d r := fun ⟨kvs, h, l, q⟩ => ⟨kvs, s _ _ h, l, fun x hx => by
  obtain ⟨t, a1, a2⟩ := q x hx
  exact ⟨t, a1, same_sqT s a2⟩⟩
theorem WEnv.let_ {K : PySem.W.Frag} {H H' : Hp} {d p t : Addr} {r : Fm.Env} {kvs : List (Key × V)} {x : Str} {e : Ex} (E : WEnv K H d r) (hd : H d = some (.dK kvs)) (s : Same H H') (hp : H' p = some (.dK (putK kvs (Sum.inr x : Key) (.ref t))))
    (ht : SqT K H' t [.int (cn e : Nat), .int (grE e)]) : WEnv K H' p ((x, e) :: r) := by
  obtain ⟨k0, h0, l, q⟩ := E
  have ek : k0 = kvs := by rw [hd] at h0; cases h0; rfl
  subst ek
  refine ⟨_, hp, ?_, fun y hy => ?_⟩
  · have := length_putK k0 (Sum.inr x : Key) (V.ref t)
    simp only [List.length_cons]
    omega
  · by_cases e1 : y = x
    · subst e1
      refine ⟨t, by rw [valV_put, if_pos rfl], ?_⟩
      simpa [look] using ht
    · have hy' : y ∈ r.map (·.1) := by
        simp only [List.map_cons, List.mem_cons] at hy
        exact hy.resolve_left e1
      obtain ⟨t', a1, a2⟩ := q y hy'
      refine ⟨t', ?_, ?_⟩
      · rw [valV_put, if_neg (fun z => e1 (Sum.inr.inj z))]; exact a1
      · have e2 : look ((x, e) :: r) y = look r y := by simp [look, e1]
        rw [e2]
        exact same_sqT s a2
/-! ### steps in the heap -/
def stepK : Stp → List Key
  | .whole n => [.inr "whole", .inl n]
  | .px d => [.inr "x", .inl d]
  | .pz d => [.inr "z", .inl d]
  | .noise s l dx dz => [.inr "noise", .inl s, .inl l, .inl dx, .inl dz]
  | .two w i j => [.inr w.word, .inl (i : Int), .inl (j : Int)]
  | .over i n => [.inr "over", .inl (i : Int), .inl n]
  | .bel a b c d => [.inr "below", .inl (a : Int), .inl (b : Int), .inl (c : Int), .inl (d : Int)]
def stepV : Stp → List V
  | .whole n => [.str "whole", .int n]
  | .px d => [.str "x", .int d]
  | .pz d => [.str "z", .int d]
  | .noise s l dx dz => [.str "noise", .int s, .int l, .int dx, .int dz]
  | .two w i j => [.str w.word, .int (i : Int), .int (j : Int)]
  | .over i n => [.str "over", .int (i : Int), .int n]
  | .bel a b c d => [.str "below", .int (a : Int), .int (b : Int), .int (c : Int), .int (d : Int)]
theorem stepV_eq (s : Stp) : stepV s = (stepK s).map kV := by cases s <;> rfl
theorem word_inj {w v : W2} (h : w.word = v.word) : w = v := by
  cases w <;> cases v <;> first | rfl | (exact absurd h (by decide +kernel))
theorem w2_ne (w : W2) : w.word ≠ "over" ∧ w.word ≠ "whole" ∧ w.word ≠ "x" ∧ w.word ≠ "z" ∧ w.word ≠ "noise" ∧ w.word ≠ "below" := by
  cases w <;> exact ⟨by decide +kernel, by decide +kernel, by decide +kernel, by decide +kernel, by decide +kernel, by decide +kernel⟩
theorem stepK_inj {s t : Stp} (h : stepK s = stepK t) : s = t := by
  cases s <;> cases t <;> simp only [stepK, List.cons.injEq, Sum.inr.injEq, Sum.inl.injEq, and_true, Int.natCast_inj, reduceCtorEq, and_false] at h
  case whole.whole => rw [h.2]
  case px.px => rw [h.2]
  case pz.pz => rw [h.2]
  case noise.noise => rw [h.2.1, h.2.2.1, h.2.2.2.1, h.2.2.2.2]
  case two.two w i j v k l => rw [word_inj h.1, h.2.1, h.2.2]
  case two.over w i j k n => exact absurd h.1 (w2_ne w).1
  case over.two k n w i j => exact absurd h.1.symm (w2_ne w).1
  case over.over => rw [h.2.1, h.2.2]
  case bel.bel => rw [h.2.1, h.2.2.1, h.2.2.2.1, h.2.2.2.2]
  all_goals first | exact absurd h.1 (by decide +kernel) | exact h.elim
/-- the steps made so far, each with its number -/
def mkKV (st : List Stp) : List (List Key × V) := st.zipIdx.map fun q => (stepK q.1, V.int (q.2 : Int))
theorem mkKV_len (st : List Stp) : (mkKV st).length = st.length := by simp [mkKV]
theorem mkKV_snoc (st : List Stp) (s : Stp) : mkKV (st ++ [s]) = mkKV st ++ [(stepK s, V.int (st.length : Int))] := by
  simp [mkKV, List.zipIdx_append]
theorem valV_mk (s : Stp) : ∀ (st : List Stp) (n : Nat), valV (st.zipIdx n |>.map fun q => (stepK q.1, V.int (q.2 : Int))) (stepK s) = if s ∈ st then some (V.int ((n + st.idxOf s : Nat) : Int)) else none
  | [], _ => rfl
  | t :: r, n => by
    rw [List.zipIdx_cons, List.map_cons]
    by_cases e : t = s
    · subst e
      rw [valV_pos rfl, if_pos List.mem_cons_self, List.idxOf_cons_self, Nat.add_zero]
    · rw [valV_neg (fun h => e (stepK_inj h)), valV_mk s r (n + 1)]
      have e2 : (t == s) = false := by simpa using e
      by_cases m : s ∈ r
      · rw [if_pos m, if_pos (List.mem_cons_of_mem _ m), List.idxOf_cons, e2]
        have : n + 1 + List.idxOf s r = n + (List.idxOf s r + 1) := by omega
        rw [this]
        rfl
      · rw [if_neg m, if_neg]
        intro h
        rcases List.mem_cons.mp h with h | h
        · exact e h.symm
        · exact m h
theorem mk_get (st : List Stp) (s : Stp) : valV (mkKV st) (stepK s) = if s ∈ st then some (V.int ((st.idxOf s : Nat) : Int)) else none := by
  have := valV_mk s st 0
  simpa [mkKV] using this
theorem putK_new {κ : Type} [DecidableEq κ] {kvs : List (κ × V)} {k : κ} {v : V} (h : valV kvs k = none) : putK kvs k v = kvs ++ [(k, v)] := by
  unfold putK
  rw [valV_any, h]
  rfl
/-- what setdefault does with a step -/
theorem mk_put {st : List Stp} {s : Stp} {P : V → List (List Key × V) → Prop} (h : P (V.int ((put st s).2 : Int)) (mkKV (put st s).1)) :
    (∀ v, valV (mkKV st) (stepK s) = some v → P v (mkKV st)) ∧ (valV (mkKV st) (stepK s) = none → P (V.int (st.length : Int)) (putK (mkKV st) (stepK s) (V.int (st.length : Int)))) := by
  rw [mk_get]
  unfold put at h
  by_cases m : s ∈ st
  · rw [if_pos m] at h
    rw [if_pos m]
    exact ⟨fun v e => by rw [← Option.some.inj e]; exact h, fun e => nomatch e⟩
  · rw [if_neg m] at h
    rw [if_neg m]
    refine ⟨fun v e => (nomatch e), fun _ => ?_⟩
    rw [putK_new (by rw [mk_get, if_neg m]), ← mkKV_snoc]
    exact h
/-- a list of steps -/
abbrev StepsR (H : Hp) : List V → List Stp → Prop := Paired fun v s => ∃ p, v = V.ref p ∧ H p = some (.tup (stepV s))
theorem StepsR.mono {H H' : Hp} (t : Tup H H') : ∀ {vs : List V} {st : List Stp}, StepsR H vs st → StepsR H' vs st
  | _, _, .nil => .nil
  | _, _, .cons ⟨p, e, h⟩ r => .cons ⟨p, e, t _ _ h⟩ (StepsR.mono t r)
theorem steps_at {H : Hp} : ∀ {vs : List V} {st : List Stp} {i : Nat} {y : V}, StepsR H vs st → vs[i]? = some y → ∃ s, st[i]? = some s ∧ ∃ p, y = V.ref p ∧ H p = some (.tup (stepV s))
  | _, _, _, _, .nil, h => by simp at h
  | _, _, 0, y, .cons (b := b) a _, h => by
    simp at h
    subst h
    exact ⟨b, rfl, a⟩
  | _, _, i + 1, y, .cons _ t, h => by
    obtain ⟨s, h1, h2⟩ := steps_at (i := i) (y := y) t (by simpa using h)
    exact ⟨s, by simpa using h1, h2⟩
theorem StepsR.append {H : Hp} : ∀ {vs ws : List V} {st tt : List Stp}, StepsR H vs st → StepsR H ws tt → StepsR H (vs ++ ws) (st ++ tt)
  | _, _, _, _, .nil, h => h
  | _, _, _, _, .cons a t, h => .cons a (StepsR.append t h)
theorem steps_of_keys {H : Hp} : ∀ {st : List Stp} {n : Nat} {bs : List Addr}, IsKeys H (st.zipIdx n |>.map fun q => (stepK q.1, V.int (q.2 : Int))) bs → StepsR H (bs.map V.ref) st
  | [], _, bs, h => by
    cases bs with
    | nil => exact .nil
    | cons b r => cases h
  | s :: st, n, bs, h => by
    rw [List.zipIdx_cons, List.map_cons] at h
    cases h with
    | @cons a b l m h t =>
      refine .cons ⟨b, rfl, ?_⟩ (steps_of_keys (n := n + 1) t)
      rw [stepV_eq]
      exact h
end Pf

/-! Noise as the program reckons it; the values of steps. -/
namespace Pf
open PySem L2 Lw Fm Fr Sm
theorem cmul_mod {a m b : Int} (h : 0 < m) (h2 : m ≤ 18446744073709551616) : L2.CMul (a % m) b := Or.inl ⟨by have := Int.emod_nonneg a (show m ≠ 0 by omega); omega, by have := Int.emod_lt_of_pos a h; omega⟩
theorem cmul_nn {a b m : Int} (h0 : 0 ≤ a) (h1 : a < m) (h2 : m ≤ 18446744073709551616) : L2.CMul a b := Or.inl ⟨by omega, by omega⟩
theorem kb_0 (a i : Int) : (a * a + 69621 * i + 1) % 2147483629 = kB a i := rfl
theorem kb_1 (a i : Int) : (a * a + 69621 * i + 1 + 69621) % 2147483629 = kB a (i + 1) := by
  unfold kB
  congr 1
  omega
theorem kc_0 (b j : Int) : (b * b + (16807 * j + 1)) % 2147483587 = kC b j := by
  unfold kC
  congr 1
  omega
theorem kc_1 (b j : Int) : (b * b + (16807 * j + 1) + 16807) % 2147483587 = kC b (j + 1) := by
  unfold kC
  congr 1
  omega
/-- four knots, as they come of one another -/
def fourRaw (g s i j : Int) : List V :=
  let a := (g + 48271 * s + 7) % 2147483647
  let b := (a * a + 69621 * i + 1) % 2147483629
  let c := (a * a + 69621 * i + 1 + 69621) % 2147483629
  let t := 16807 * j + 1
  let k1 := (b * b + t) % 2147483587
  let k3 := (b * b + t + 16807) % 2147483587
  let k2 := (c * c + t) % 2147483587
  let k4 := (c * c + t + 16807) % 2147483587
  [.int ((k1 * k1 + k1) % 2147483579 % 65536), .int ((k2 * k2 + k2) % 2147483579 % 65536), .int ((k3 * k3 + k3) % 2147483579 % 65536), .int ((k4 * k4 + k4) % 2147483579 % 65536)]
abbrev fourV (g s i j : Int) : List V := [.int (knotL g s i j), .int (knotL g s (i + 1) j), .int (knotL g s i (j + 1)), .int (knotL g s (i + 1) (j + 1))]
theorem four_eq (g s i j : Int) : fourRaw g s i j = fourV g s i j := by
  unfold fourRaw
  simp only [kb_0, kb_1, kc_0, kc_1]
  rfl
theorem noise_of {g s x z S : Int} {k : Nat} (hS : (2 : Int) ^ k = S) (S0 : 0 < S) : noiseL g s k x z = ((S - z % S) * ((S - x % S) * knotL g s (x / S) (z / S) + x % S * knotL g s (x / S + 1) (z / S)) + z % S * ((S - x % S) * knotL g s (x / S) (z / S + 1) + x % S * knotL g s (x / S + 1) (z / S + 1))) / (S * S) := by
  have ex : ∀ y : Int, (y - y % S) / S = y / S := fun y => by
    have h := Int.mul_ediv_add_emod y S
    have e : y - y % S = S * (y / S) := by omega
    rw [e, Int.mul_ediv_cancel_left _ (by omega)]
  unfold noiseL
  rw [Int.toNat_natCast, hS]
  simp only [ex]
  congr 1
  simp only [Int.mul_add, Int.mul_assoc, Int.mul_comm, Int.mul_left_comm, Int.add_assoc]
theorem noise_knot {g s x z S : Int} {k : Nat} (hS : (2 : Int) ^ k = S) (S0 : 0 < S) (hx : x % S = 0) (hz : z % S = 0) : noiseL g s k x z = knotL g s (x / S) (z / S) := by
  rw [noise_of hS S0, hx, hz]
  simp only [Int.sub_zero, Int.zero_mul, Int.add_zero]
  rw [← Int.mul_assoc, Int.mul_ediv_cancel_left]
  exact Int.ne_of_gt (Int.mul_pos S0 S0)
theorem shift_eq {a S : Int} {k : Nat} (hS : (2 : Int) ^ k = S) : a / 2 ^ (k + k) = a / (S * S) := by
  rw [Int.pow_add, hS]
/-! ### sizes of steps' values -/
/-- the numbers of a step lie within their bounds -/
def OkS : Stp → Prop
  | .noise _ l _ _ => 0 ≤ l ∧ l ≤ 8
  | .over _ n => 1 ≤ n ∧ n ≤ 1000000000
  | _ => True
def OkSs (st : List Stp) : Prop := ∀ s ∈ st, OkS s
theorem okS_put {st : List Stp} {s : Stp} (h : OkSs st) (hs : OkS s) : OkSs (put st s).1 := by
  unfold put
  split
  · exact h
  · intro t ht
    rcases List.mem_append.mp ht with ht | ht
    · exact h t ht
    · rw [List.mem_singleton.mp ht]; exact hs
theorem okS_into : ∀ (e : Ex) (dx dz : Int) (st : List Stp), OkE e → OkSs st → OkSs (into e dx dz st).1
  | .whole _, _, _, _, _, h => okS_put h True.intro
  | .px, _, _, _, _, h => okS_put h True.intro
  | .pz, _, _, _, _, h => okS_put h True.intro
  | .noise _ _, _, _, _, o, h => okS_put h o.2
  | .two _ a b, dx, dz, st, o, h => okS_put (okS_into b dx dz _ o.2 (okS_into a dx dz st o.1 h)) True.intro
  | .over a _, dx, dz, st, o, h => okS_put (okS_into a dx dz st o.1 h) o.2
  | .bel a b c d, dx, dz, st, o, h => okS_put (okS_into d dx dz _ o.2.2.2 (okS_into c dx dz _ o.2.2.1 (okS_into b dx dz _ o.2.1 (okS_into a dx dz st o.1 h)))) True.intro
  | .shift ex ez a, dx, dz, st, o, h => okS_into a (dx + ex) (dz + ez) st o.2.2 h
/-- all values are less than B bits long -/
def Szd (g x z : Int) (B : Nat) (st : List Stp) : Prop := ∀ i, i < st.length → (((valA g x z).run st).getD i 0).natAbs < 2 ^ B
theorem szd_nil (g x z : Int) (B : Nat) : Szd g x z B [] := fun i h => absurd h (Nat.not_lt_zero i)
theorem szd_put {g x z : Int} {B : Nat} {st : List Stp} {s : Stp} (h : Szd g x z B st) (hv : (((valA g x z).run (put st s).1).getD (put st s).2 0).natAbs < 2 ^ B) : Szd g x z B (put st s).1 := by
  have P := put_ok st s
  intro i hi
  by_cases l : i < st.length
  · show (((valA g x z).run (put st s).1).getD i (valA g x z).dflt).natAbs < 2 ^ B
    rw [run_get (valA g x z) P.pre l]
    exact h i l
  · have e : i = (put st s).2 := by
      unfold put at hi ⊢
      split at hi
      · exact absurd hi l
      · rename_i m
        rw [if_neg m]
        rw [List.length_append] at hi
        simp only [List.length_cons, List.length_nil] at hi
        show i = st.length
        omega
    rw [e]
    exact hv
theorem szd_into : ∀ (e : Ex) (g x z dx dz : Int) (k B : Nat) (st : List Stp), OkE e → Ok st → 34 ≤ k → (x + dx).natAbs < 2 ^ k → (z + dz).natAbs < 2 ^ k → vb e k ≤ B → Szd g x z B st → Szd g x z B (into e dx dz st).1 := by
  have leaf : ∀ (e : Ex) (s : Stp) (g x z dx dz : Int) (k B : Nat) (st : List Stp), into e dx dz st = put st s → OkE e → Ok st → 34 ≤ k → (x + dx).natAbs < 2 ^ k → (z + dz).natAbs < 2 ^ k → vb e k ≤ B → Szd g x z B st → Szd g x z B (into e dx dz st).1 := by
    intro e s g x z dx dz k B st he o ok hk hx hz hv h
    have iv := (into_ok e dx dz st).val ok (valA g x z)
    have b := lt_pow_of (val_bits e g (x + dx) (z + dz) k o hk hx hz) hv
    rw [fold_val] at iv
    rw [he] at iv ⊢
    refine szd_put h ?_
    show (((valA g x z).run (put st s).1).getD (put st s).2 (valA g x z).dflt).natAbs < 2 ^ B
    rw [iv]
    exact b
  have whole : ∀ (e : Ex) (s : Stp) (st' : List Stp) (g x z dx dz : Int) (k B : Nat) (st : List Stp), into e dx dz st = put st' s → OkE e → Ok st → 34 ≤ k → (x + dx).natAbs < 2 ^ k → (z + dz).natAbs < 2 ^ k → vb e k ≤ B → Szd g x z B st' → Szd g x z B (into e dx dz st).1 := by
    intro e s st' g x z dx dz k B st he o ok hk hx hz hv h
    have iv := (into_ok e dx dz st).val ok (valA g x z)
    have b := lt_pow_of (val_bits e g (x + dx) (z + dz) k o hk hx hz) hv
    rw [fold_val] at iv
    rw [he] at iv ⊢
    refine szd_put h ?_
    show (((valA g x z).run (put st' s).1).getD (put st' s).2 (valA g x z).dflt).natAbs < 2 ^ B
    rw [iv]
    exact b
  intro e
  induction e with
  | whole n => exact fun g x z dx dz k B st => leaf (.whole n) (.whole n) g x z dx dz k B st rfl
  | px => exact fun g x z dx dz k B st => leaf .px (.px dx) g x z dx dz k B st rfl
  | pz => exact fun g x z dx dz k B st => leaf .pz (.pz dz) g x z dx dz k B st rfl
  | noise s l => exact fun g x z dx dz k B st => leaf (.noise s l) (.noise s l dx dz) g x z dx dz k B st rfl
  | two w a b iha ihb =>
    intro g x z dx dz k B st o ok hk hx hz hv h
    have v2 := vb_two w a b k
    have ha := iha g x z dx dz k B st o.1 ok hk hx hz (by omega) h
    have hb := ihb g x z dx dz k B _ o.2 ((into_ok a dx dz st).ok ok) hk hx hz (by omega) ha
    exact whole (.two w a b) _ _ g x z dx dz k B st rfl o ok hk hx hz hv hb
  | over a n iha =>
    intro g x z dx dz k B st o ok hk hx hz hv h
    have ha := iha g x z dx dz k B st o.1 ok hk hx hz hv h
    exact whole (.over a n) _ _ g x z dx dz k B st rfl o ok hk hx hz hv ha
  | bel a b c d iha ihb ihc ihd =>
    intro g x z dx dz k B st o ok hk hx hz hv h
    have hv' : max (max (vb a k) (vb b k)) (max (vb c k) (vb d k)) ≤ B := hv
    have oa := (into_ok a dx dz st).ok ok
    have ob := (into_ok b dx dz _).ok oa
    have oc := (into_ok c dx dz _).ok ob
    have ha := iha g x z dx dz k B st o.1 ok hk hx hz (by omega) h
    have hb := ihb g x z dx dz k B _ o.2.1 oa hk hx hz (by omega) ha
    have hc := ihc g x z dx dz k B _ o.2.2.1 ob hk hx hz (by omega) hb
    have hd := ihd g x z dx dz k B _ o.2.2.2 oc hk hx hz (by omega) hc
    exact whole (.bel a b c d) _ _ g x z dx dz k B st rfl o ok hk hx hz hv hd
  | shift ex ez a iha =>
    intro g x z dx dz k B st o ok hk hx hz hv h
    refine iha g x z (dx + ex) (dz + ez) (k + 1) B st o.2.2 ok (by omega) ?_ ?_ hv h
    · rw [← Int.add_assoc]; exact shift_bits o.1 hk hx
    · rw [← Int.add_assoc]; exact shift_bits o.2.1 hk hz
theorem cut1T {w : V} {xs : List V} : cutV (w :: xs) (some 1) none = xs := by
  unfold cutV
  rw [show HT.sIx (w :: xs).length 0 (some 1) = min 1 (w :: xs).length from HT.sIx_nat (w :: xs).length 0 1, HT.sIx_none]
  rw [show min 1 (w :: xs).length = 1 by rw [List.length_cons]; omega]
  show List.take ((w :: xs).length - 1) xs = xs
  rw [List.length_cons, Nat.add_sub_cancel]
  exact List.take_length
theorem cut1T_ok {w : V} {xs : List V} : ¬ (HT.sIx (w :: xs).length 0 (some 1) = 0 ∧ HT.sIx (w :: xs).length (w :: xs).length none = (w :: xs).length) := by
  rw [show HT.sIx (w :: xs).length 0 (some 1) = min 1 (w :: xs).length from HT.sIx_nat (w :: xs).length 0 1]
  rw [List.length_cons]
  omega
theorem g_yes {σ : L2.St} {H : Hp} {Q : Bool → Hp → Prop} (q : Q true H) : tYes σ H Q := q
theorem g_din {σ : L2.St} {H : Hp} {Q : VK} {ty td : TE} (q : ty σ H fun y H1 => td σ H1 fun x H2 => ∃ a o, x = .ref a ∧ DGet H2 a y o ∧ Q (.bl o.isSome) H2) : tDIn ty td σ H Q := q
theorem keepT_tup {mk : Addr} {H H' : Hp} {kvs : List (List Key × V)} (k : Keep mk H H') (h : H mk = some (.dT kvs)) : Tup H H' := fun a xs e => k a _ (ne_of e h (by intro z; cases z)) e
theorem envR_keep {mk : Addr} {H H' : Hp} {kv : List (List Key × V)} (k : Keep mk H H') (h : H mk = some (.dT kv)) : ∀ {n : Nat} {d : Addr} {r : Fm.Env} {δ : List (Str × Nat)}, EnvR n H d r δ → EnvR n H' d r δ
  | 0, _, _, _, ⟨e, q⟩ => ⟨k _ _ (ne_of e h (by intro z; cases z)) e, q⟩
  | n + 1, _, _, _, ⟨kvs, e, l, q⟩ => ⟨kvs, k _ _ (ne_of e h (by intro z; cases z)) e, l, fun x hx => by
    obtain ⟨t, u, d', F, r', δ', a1, a2, a3, a4, a5⟩ := q x hx
    exact ⟨t, u, d', F, r', δ', a1, k _ _ (ne_of a2 h (by intro z; cases z)) a2, a3.mono (keepT_tup k h), envR_keep k h a4, a5⟩⟩
theorem g_star {K : PySem.W.Frag} {σ : L2.St} {H : Hp} {te : TE} {t : TA} {Q : List V → Hp → Prop} (q : te σ H fun x H1 => ∃ p xs, x = V.ref p ∧ (SqT K H1 p xs ∨ SqL K H1 p xs) ∧ t σ H1 fun ys H2 => Q (xs ++ ys) H2) : StX.tStar K te t σ H Q := q
theorem g_lstT {K : PySem.W.Frag} {σ : L2.St} {H : Hp} {p : Addr} {xs : List V} {t : TGs} {Q : L2.St → Hp → Prop} {m : Nat} (h : SqL K H p xs) (hl : xs.length = m) (q : t xs σ H Q) : gLst K m t (.ref p) σ H Q := ⟨p, xs, rfl, h, hl, q⟩
theorem mn4_of {a b c d m : Int} (h : m ∈ [a, b, c, d]) (l : ∀ y, y ∈ [a, b, c, d] → m ≤ y) : m = mn4 a b c d := by
  have h1 := l a (by simp); have h2 := l b (by simp); have h3 := l c (by simp); have h4 := l d (by simp)
  simp only [List.mem_cons, List.not_mem_nil, or_false] at h
  unfold mn4
  omega
theorem mx4_of {a b c d m : Int} (h : m ∈ [a, b, c, d]) (l : ∀ y, y ∈ [a, b, c, d] → y ≤ m) : m = mx4 a b c d := by
  have h1 := l a (by simp); have h2 := l b (by simp); have h3 := l c (by simp); have h4 := l d (by simp)
  simp only [List.mem_cons, List.not_mem_nil, or_false] at h
  unfold mx4
  omega
theorem pr_at {H : Hp} : ∀ {vs : List V} {ps : List (Int × Int)} {j : Nat}, PairsR H vs ps → j < ps.length → ∃ p, vs[j]? = some (V.ref p) ∧ H p = some (.tup [.int (ps.getD j (0, 0)).1, .int (ps.getD j (0, 0)).2])
  | _, _, _, .nil, h => absurd h (Nat.not_lt_zero _)
  | _, _, 0, .cons (b := b) ⟨p, e, h⟩ _, _ => ⟨p, by rw [e]; rfl, h⟩
  | _, _, j + 1, .cons _ t, h => by
    obtain ⟨p, h1, h2⟩ := pr_at (j := j) t (by simpa using h)
    exact ⟨p, by simpa using h1, by simpa using h2⟩
theorem pairs_putL {H : Hp} {a : Addr} {ys : List V} {o : HO} (ha : H a = some (.lst ys)) : ∀ {vs : List V} {ps : List (Int × Int)}, PairsR H vs ps → PairsR (upd H a o) vs ps
  | _, _, .nil => .nil
  | _, _, .cons ⟨p, e, h⟩ t => .cons ⟨p, e, by rw [upd_ne (ne_of h ha (by intro z; cases z))]; exact h⟩ (pairs_putL ha t)
/-- all ranges of steps -/
def AllP (N : NR) (x0 z0 x1 z1 : Int) (P : Int × Int → Prop) (st : List Stp) : Prop := ∀ i, i < st.length → P (((rngA N x0 z0 x1 z1).run st).getD i (0, 0))
theorem allP_put {N : NR} {x0 z0 x1 z1 : Int} {P : Int × Int → Prop} {st : List Stp} {s : Stp} (h : AllP N x0 z0 x1 z1 P st) (hv : P (((rngA N x0 z0 x1 z1).run (put st s).1).getD (put st s).2 (0, 0))) : AllP N x0 z0 x1 z1 P (put st s).1 := by
  have Q := put_ok st s
  intro i hi
  by_cases l : i < st.length
  · show P (((rngA N x0 z0 x1 z1).run (put st s).1).getD i (rngA N x0 z0 x1 z1).dflt)
    rw [run_get (rngA N x0 z0 x1 z1) Q.pre l]
    exact h i l
  · have e : i = (put st s).2 := by
      unfold put at hi ⊢
      split at hi
      · exact absurd hi l
      · rename_i m
        rw [if_neg m]
        rw [List.length_append] at hi
        simp only [List.length_cons, List.length_nil] at hi
        show i = st.length
        omega
    rw [e]
    exact hv
theorem allE_head (N : NR) (e : Ex) (x0 z0 x1 z1 : Int) : rangeG N e x0 z0 x1 z1 ∈ allE N e x0 z0 x1 z1 := by
  cases e <;> simp [allE]
theorem all_into {N : NR} {P : Int × Int → Prop} : ∀ (e : Ex) (x0 z0 x1 z1 dx dz : Int) (st : List Stp), Ok st → (∀ p ∈ allE N e (x0 + dx) (z0 + dz) (x1 + dx) (z1 + dz), P p) → AllP N x0 z0 x1 z1 P st → AllP N x0 z0 x1 z1 P (into e dx dz st).1 := by
  have last : ∀ (e : Ex) (s : Stp) (st' : List Stp) (x0 z0 x1 z1 dx dz : Int) (st : List Stp), into e dx dz st = put st' s → Ok st → (∀ p ∈ allE N e (x0 + dx) (z0 + dz) (x1 + dx) (z1 + dz), P p) → AllP N x0 z0 x1 z1 P st' → AllP N x0 z0 x1 z1 P (into e dx dz st).1 := by
    intro e s st' x0 z0 x1 z1 dx dz st he ok hp h
    have iv := (into_ok e dx dz st).val ok (rngA N x0 z0 x1 z1)
    rw [fold_rng] at iv
    have b := hp _ (allE_head N e _ _ _ _)
    rw [he] at iv ⊢
    refine allP_put h ?_
    show P (((rngA N x0 z0 x1 z1).run (put st' s).1).getD (put st' s).2 (rngA N x0 z0 x1 z1).dflt)
    rw [iv]
    exact b
  intro e
  induction e with
  | whole n => exact fun x0 z0 x1 z1 dx dz st ok hp h => last (.whole n) (.whole n) st x0 z0 x1 z1 dx dz st rfl ok hp h
  | px => exact fun x0 z0 x1 z1 dx dz st ok hp h => last .px (.px dx) st x0 z0 x1 z1 dx dz st rfl ok hp h
  | pz => exact fun x0 z0 x1 z1 dx dz st ok hp h => last .pz (.pz dz) st x0 z0 x1 z1 dx dz st rfl ok hp h
  | noise s l => exact fun x0 z0 x1 z1 dx dz st ok hp h => last (.noise s l) (.noise s l dx dz) st x0 z0 x1 z1 dx dz st rfl ok hp h
  | two w a b iha ihb =>
    intro x0 z0 x1 z1 dx dz st ok hp h
    have ha := iha x0 z0 x1 z1 dx dz st ok (fun p hm => hp p (by simp [allE, hm])) h
    have hb := ihb x0 z0 x1 z1 dx dz _ ((into_ok a dx dz st).ok ok) (fun p hm => hp p (by simp [allE, hm])) ha
    exact last (.two w a b) _ _ x0 z0 x1 z1 dx dz st rfl ok hp hb
  | over a n iha =>
    intro x0 z0 x1 z1 dx dz st ok hp h
    have ha := iha x0 z0 x1 z1 dx dz st ok (fun p hm => hp p (by simp [allE, hm])) h
    exact last (.over a n) _ _ x0 z0 x1 z1 dx dz st rfl ok hp ha
  | bel a b c d iha ihb ihc ihd =>
    intro x0 z0 x1 z1 dx dz st ok hp h
    have oa := (into_ok a dx dz st).ok ok
    have ob := (into_ok b dx dz _).ok oa
    have oc := (into_ok c dx dz _).ok ob
    have ha := iha x0 z0 x1 z1 dx dz st ok (fun p hm => hp p (by simp [allE, hm])) h
    have hb := ihb x0 z0 x1 z1 dx dz _ oa (fun p hm => hp p (by simp [allE, hm])) ha
    have hc := ihc x0 z0 x1 z1 dx dz _ ob (fun p hm => hp p (by simp [allE, hm])) hb
    have hd := ihd x0 z0 x1 z1 dx dz _ oc (fun p hm => hp p (by simp [allE, hm])) hc
    exact last (.bel a b c d) _ _ x0 z0 x1 z1 dx dz st rfl ok hp hd
  | shift ex ez a iha =>
    intro x0 z0 x1 z1 dx dz st ok hp h
    refine iha x0 z0 x1 z1 (dx + ex) (dz + ez) st ok (fun p hm => hp p ?_) h
    simp only [allE, List.mem_cons]
    right
    simpa [Int.add_assoc] using hm
theorem all_bits {N : NR} (hN : NOk N) : ∀ (e : Ex) (x0 z0 x1 z1 : Int) (k : Nat), OkE e → 34 ≤ k → B2 (x0, x1) k → B2 (z0, z1) k → ∀ p ∈ allE N e x0 z0 x1 z1, B2 p (vb e k) := by
  intro e
  induction e with
  | two w a b iha ihb =>
    intro x0 z0 x1 z1 k h hk hx hz p hp
    have v2 := vb_two w a b k
    simp only [allE, List.mem_cons, List.mem_append] at hp
    rcases hp with rfl | hp | hp
    · exact range_bits hN (.two w a b) x0 z0 x1 z1 k h hk hx hz
    · exact (iha x0 z0 x1 z1 k h.1 hk hx hz p hp).mono v2.1
    · exact (ihb x0 z0 x1 z1 k h.2 hk hx hz p hp).mono v2.2
  | over a n iha =>
    intro x0 z0 x1 z1 k h hk hx hz p hp
    simp only [allE, List.mem_cons] at hp
    rcases hp with rfl | hp
    · exact range_bits hN (.over a n) x0 z0 x1 z1 k h hk hx hz
    · exact iha x0 z0 x1 z1 k h.1 hk hx hz p hp
  | bel a b c d iha ihb ihc ihd =>
    intro x0 z0 x1 z1 k h hk hx hz p hp
    have hv : vb (.bel a b c d) k = max (max (vb a k) (vb b k)) (max (vb c k) (vb d k)) := rfl
    simp only [allE, List.mem_cons, List.mem_append] at hp
    rcases hp with rfl | hp | hp | hp | hp
    · exact range_bits hN (.bel a b c d) x0 z0 x1 z1 k h hk hx hz
    · exact (iha x0 z0 x1 z1 k h.1 hk hx hz p hp).mono (by omega)
    · exact (ihb x0 z0 x1 z1 k h.2.1 hk hx hz p hp).mono (by omega)
    · exact (ihc x0 z0 x1 z1 k h.2.2.1 hk hx hz p hp).mono (by omega)
    · exact (ihd x0 z0 x1 z1 k h.2.2.2 hk hx hz p hp).mono (by omega)
  | shift ex ez a iha =>
    intro x0 z0 x1 z1 k h hk hx hz p hp
    simp only [allE, List.mem_cons] at hp
    rcases hp with rfl | hp
    · exact range_bits hN (.shift ex ez a) x0 z0 x1 z1 k h hk hx hz
    · exact iha (x0 + ex) (z0 + ez) (x1 + ex) (z1 + ez) (k + 1) h.2.2 (by omega) ⟨shift_bits h.1 hk hx.1, shift_bits h.1 hk hx.2⟩ ⟨shift_bits h.2.1 hk hz.1, shift_bits h.2.1 hk hz.2⟩ p hp
  | _ =>
    intro x0 z0 x1 z1 k h hk hx hz p hp
    simp only [allE, List.mem_singleton] at hp
    subst hp
    exact range_bits hN _ x0 z0 x1 z1 k h hk hx hz
/-- weights as pairs -/
abbrev WR (K : PySem.W.Frag) (H : Hp) : List V → List Ex → Prop := Paired fun v e => ∃ p, v = V.ref p ∧ SqT K H p [.int (cn e : Nat), .int (grE e)]
theorem sqT_putL {K : PySem.W.Frag} {H : Hp} {p a : Addr} {xs ys : List V} {o : HO} (h : SqT K H p xs) (ha : H a = some (.lst ys)) : SqT K (upd H a o) p xs := by
  rcases h with (h | ⟨o', h⟩) | h
  · exact .inl (.inl (by rw [upd_ne (ne_of h ha (by intro z; cases z))]; exact h))
  · exact .inl (.inr ⟨o', by rw [upd_ne (ne_of h ha (by intro z; cases z))]; exact h⟩)
  · exact .inr h
theorem WR.putL {K : PySem.W.Frag} {H : Hp} {a : Addr} {ys : List V} {o : HO} (ha : H a = some (.lst ys)) : ∀ {vs : List V} {es : List Ex}, WR K H vs es → WR K (upd H a o) vs es
  | _, _, .nil => .nil
  | _, _, .cons ⟨p, e, h⟩ t => .cons ⟨p, e, sqT_putL h ha⟩ (WR.putL ha t)
theorem WR.mono {K : PySem.W.Frag} {H H' : Hp} (s : Same H H') : ∀ {vs : List V} {es : List Ex}, WR K H vs es → WR K H' vs es
  | _, _, .nil => .nil
  | _, _, .cons ⟨p, e, h⟩ t => .cons ⟨p, e, same_sqT s h⟩ (WR.mono s t)
theorem WR.append {K : PySem.W.Frag} {H : Hp} : ∀ {vs ws : List V} {es fs : List Ex}, WR K H vs es → WR K H ws fs → WR K H (vs ++ ws) (es ++ fs)
  | _, _, _, _, .nil, h => h
  | _, _, _, _, .cons a t, h => .cons a (WR.append t h)
theorem wr_at {K : PySem.W.Frag} {H : Hp} : ∀ {vs : List V} {es : List Ex} {i : Nat} {y : V}, WR K H vs es → vs[i]? = some y → ∃ e, es[i]? = some e ∧ ∃ p, y = V.ref p ∧ SqT K H p [.int (cn e : Nat), .int (grE e)]
  | _, _, _, _, .nil, h => by simp at h
  | _, _, 0, y, .cons (b := b) a _, h => by
    simp at h
    subst h
    exact ⟨b, rfl, a⟩
  | _, _, i + 1, y, .cons _ t, h => by
    obtain ⟨s, h1, h2⟩ := wr_at (i := i) (y := y) t (by simpa using h)
    exact ⟨s, by simpa using h1, h2⟩
/-- what is left of a field when names and lets are gone through -/
def coreF : Fd → Prop
  | .lt _ _ _ => False
  | .nm _ => False
  | _ => True
def wordF : Fd → Str
  | .whole _ => "whole"
  | .px => "x"
  | .pz => "z"
  | .noise _ _ => "noise"
  | .two w _ _ => w.word
  | .over _ _ => "over"
  | .bel _ _ _ _ => "below"
  | .shift _ _ _ => "shift"
  | .lt _ _ _ => "let"
  | .nm _ => "name"
theorem frep_word {H : Hp} {v : V} : ∀ {F : Fd}, FRep F H v → ∃ p xs, v = .ref p ∧ H p = some (.tup (.str (wordF F) :: xs))
  | .whole _, ⟨p, e, h⟩ => ⟨p, _, e, h⟩
  | .px, ⟨p, e, h⟩ => ⟨p, _, e, h⟩
  | .pz, ⟨p, e, h⟩ => ⟨p, _, e, h⟩
  | .noise _ _, ⟨p, e, h⟩ => ⟨p, _, e, h⟩
  | .two _ _ _, ⟨p, _, _, e, h, _⟩ => ⟨p, _, e, h⟩
  | .over _ _, ⟨p, _, e, h, _⟩ => ⟨p, _, e, h⟩
  | .bel _ _ _ _, ⟨p, _, _, _, _, e, h, _⟩ => ⟨p, _, e, h⟩
  | .shift _ _ _, ⟨p, _, e, h, _⟩ => ⟨p, _, e, h⟩
  | .lt _ _ _, ⟨p, _, _, e, h, _⟩ => ⟨p, _, e, h⟩
  | .nm _, ⟨p, e, h⟩ => ⟨p, _, e, h⟩
end Pf

/-! Steps as data; the steps of several fields, one behind the other. -/
namespace Pf
open PySem PySem.Spec PyProof.Rows L2 Lw Fm Fr Sm
theorem room65 {k : Nat} {A : Around} (r : Room k A) : A.units + 65 < cLine := by
  have := r.un
  omega
def kD : Key → PyData
  | .inl i => .int i
  | .inr x => .str x
def stepD (s : Stp) : PyData := .tuple ((stepK s).map kD)
theorem eqv_kD (a b : Key) : PyData.eqv (kD a) (kD b) = decide (a = b) := by
  cases a with
  | inl i => cases b with
    | inl j => simp only [kD, PyData.eqv, Sum.inl.injEq]; exact Bool.eq_iff_iff.mpr (by simp)
    | inr y => simp [kD, PyData.eqv]
  | inr x => cases b with
    | inl j => simp [kD, PyData.eqv]
    | inr y => simp only [kD, PyData.eqv, Sum.inr.injEq]; exact Bool.eq_iff_iff.mpr (by simp)
theorem eqv_kDs : ∀ (a b : List Key), PyData.eqvAll (a.map kD) (b.map kD) = decide (a = b)
  | [], [] => by simp [PyData.eqvAll]
  | [], _ :: _ => by simp [PyData.eqvAll]
  | _ :: _, [] => by simp [PyData.eqvAll]
  | x :: a, y :: b => by
    rw [List.map_cons, List.map_cons]
    simp only [PyData.eqvAll, eqv_kD, eqv_kDs a b]
    by_cases h1 : x = y <;> by_cases h2 : a = b <;> simp [h1, h2]
theorem eqv_stepD (s t : Stp) : PyData.eqv (stepD s) (stepD t) = decide (s = t) := by
  unfold stepD
  simp only [PyData.eqv, eqv_kDs]
  by_cases h : s = t
  · rw [h]; simp
  · rw [decide_eq_false h, decide_eq_false fun e => h (stepK_inj e)]
theorem eqv_stepsD : ∀ (a b : List Stp), PyData.eqvAll (a.map stepD) (b.map stepD) = decide (a = b)
  | [], [] => by simp [PyData.eqvAll]
  | [], _ :: _ => by simp [PyData.eqvAll]
  | _ :: _, [] => by simp [PyData.eqvAll]
  | x :: a, y :: b => by
    rw [List.map_cons, List.map_cons]
    simp only [PyData.eqvAll, eqv_stepD, eqv_stepsD a b]
    by_cases h1 : x = y <;> by_cases h2 : a = b <;> simp [h1, h2]
theorem any_stepD (s : Stp) : ∀ st : List Stp, ((st.map stepD).any fun z => PyData.eqv z (stepD s)) = decide (s ∈ st)
  | [] => by simp
  | t :: r => by
    rw [List.map_cons, List.any_cons, any_stepD s r, eqv_stepD]
    by_cases h1 : t = s
    · subst h1; simp
    · have : ¬ s = t := fun e => h1 e.symm
      simp [h1, this]
theorem lay_step (s : Stp) : PyData.canLay0 (stepD s) = true := by
  have hw : ∀ w : W2, PyData.strOk w.word = true := fun w => by cases w <;> decide +kernel
  cases s with
  | two w i j =>
    show (PyData.canLay0 (.str w.word) && (true && (true && true))) = true
    rw [show PyData.canLay0 (.str w.word) = PyData.strOk w.word from rfl, hw w]
    rfl
  | whole n => show (PyData.canLay0 (.str "whole") && (true && true)) = true; decide +kernel
  | px n => show (PyData.canLay0 (.str "x") && (true && true)) = true; decide +kernel
  | pz n => show (PyData.canLay0 (.str "z") && (true && true)) = true; decide +kernel
  | noise a b c d => show (PyData.canLay0 (.str "noise") && (true && (true && (true && (true && true))))) = true; decide +kernel
  | over a b => show (PyData.canLay0 (.str "over") && (true && (true && true))) = true; decide +kernel
  | bel a b c d => show (PyData.canLay0 (.str "below") && (true && (true && (true && (true && true))))) = true; decide +kernel
theorem depth_keys : ∀ ks : List Key, PyData.depthAll (ks.map kD) ≤ 1
  | [] => by decide
  | x :: r => by
    have h := depth_keys r
    have e : PyData.depthAll ((x :: r).map kD) = max (PyData.depth (kD x)) (PyData.depthAll (r.map kD)) := rfl
    have e2 : PyData.depth (kD x) ≤ 1 := by cases x <;> simp [kD, PyData.depth]
    omega
theorem depth_step (s : Stp) : PyData.depth (stepD s) ≤ 2 := by
  have h := depth_keys (stepK s)
  have e : PyData.depth (stepD s) = PyData.depthAll ((stepK s).map kD) + 1 := rfl
  omega
theorem lay_steps : ∀ st : List Stp, PyData.canLayAll0 (st.map stepD) = true
  | [] => rfl
  | x :: r => by
    show (PyData.canLay0 (stepD x) && PyData.canLayAll0 (r.map stepD)) = true
    rw [lay_step, lay_steps r]
    rfl
theorem depth_steps : ∀ st : List Stp, PyData.depthAll (st.map stepD) ≤ 2
  | [] => by decide
  | x :: r => by
    have h := depth_steps r
    have e : PyData.depthAll ((x :: r).map stepD) = max (PyData.depth (stepD x)) (PyData.depthAll (r.map stepD)) := rfl
    have e2 := depth_step x
    omega
theorem shaped_step (s : Stp) : SeqAt.shaped (stepD s) = true := by
  unfold SeqAt.shaped
  have := depth_step s
  rw [lay_step, decide_eq_true (show PyData.depth (stepD s) ≤ 64 by omega)]
  rfl
theorem shaped_steps (st : List Stp) : SeqAt.shaped (.list (st.map stepD)) = true := by
  have h1 : PyData.canLay0 (.list (st.map stepD)) = true := lay_steps st
  have h2 : PyData.depth (.list (st.map stepD)) ≤ 64 := by
    have h := depth_steps st
    have e : PyData.depth (.list (st.map stepD)) = PyData.depthAll (st.map stepD) + 1 := rfl
    omega
  unfold SeqAt.shaped
  rw [h1, decide_eq_true h2]
  rfl
theorem dp_keys {K : PySem.W.Frag} {H : Hp} : ∀ ks : List Key, DpAll K H (ks.map kV) (ks.map kD)
  | [] => .nil
  | .inl i :: r => .cons (.int i) (dp_keys r)
  | .inr x :: r => .cons (.str x) (dp_keys r)
theorem dp_step {K : PySem.W.Frag} {H : Hp} {p : Addr} {s : Stp} (h : H p = some (.tup (stepV s))) : Dp K H (.ref p) (stepD s) := by
  rw [stepV_eq] at h
  exact .tup (SqT.of h) (dp_keys _)
theorem dp_steps {K : PySem.W.Frag} {H : Hp} : ∀ {vs : List V} {st : List Stp}, StepsR H vs st → DpAll K H vs (st.map stepD)
  | _, _, .nil => .nil
  | _, _, .cons ⟨p, e, h⟩ t => by
    subst e
    exact .cons (dp_step h) (dp_steps t)
theorem steps_putL {H : Hp} {a : Addr} {ys : List V} {o : HO} (ha : H a = some (.lst ys)) : ∀ {vs : List V} {st : List Stp}, StepsR H vs st → StepsR (upd H a o) vs st
  | _, _, .nil => .nil
  | _, _, .cons ⟨p, e, h⟩ t => .cons ⟨p, e, by rw [upd_ne (ne_of h ha (by intro z; cases z))]; exact h⟩ (steps_putL ha t)
theorem none_of_same {H H' : Hp} {a : Addr} (s : Same H H') (h : H' a = none) : H a = none := by
  cases e : H a with
  | none => rfl
  | some u => rw [s _ _ e] at h; cases h
theorem steps_get {H : Hp} : ∀ {vs : List V} {st : List Stp} {i : Nat}, StepsR H vs st → i < st.length → ∃ p s, vs[i]? = some (V.ref p) ∧ st[i]? = some s ∧ H p = some (.tup (stepV s))
  | _, _, _, .nil, h => absurd h (Nat.not_lt_zero _)
  | _, _, 0, .cons (b := b) ⟨p, e, h⟩ _, _ => ⟨p, b, by rw [e]; rfl, rfl, h⟩
  | _, _, i + 1, .cons _ t, h => by
    obtain ⟨p, s, h1, h2, h3⟩ := steps_get (i := i) t (by simpa using h)
    exact ⟨p, s, by simpa using h1, by simpa using h2, h3⟩
theorem StepsR.take {H : Hp} : ∀ {vs : List V} {st : List Stp} (n : Nat), StepsR H vs st → StepsR H (vs.take n) (st.take n)
  | _, _, 0, _ => .nil
  | _, _, n + 1, .nil => .nil
  | _, _, n + 1, .cons a t => .cons a (StepsR.take n t)
theorem ok_take {st : List Stp} (h : Ok st) (n : Nat) : Ok (st.take n) := fun j s e => by
  rw [List.getElem?_take] at e
  split at e
  · exact h j s e
  · cases e
theorem okSs_take {st : List Stp} (h : OkSs st) (n : Nat) : OkSs (st.take n) := fun s hs => h s (List.mem_of_mem_take hs)
theorem szd_take {g x z : Int} {B : Nat} {st : List Stp} (h : Szd g x z B st) (n : Nat) : Szd g x z B (st.take n) := fun i hi => by
  have e := run_get (valA g x z) (List.take_prefix n st) hi
  have l : i < st.length := by rw [List.length_take] at hi; omega
  have b := h i l
  have e' : ((valA g x z).run st).getD i 0 = ((valA g x z).run (st.take n)).getD i 0 := e
  rw [e'] at b
  exact b
theorem cut_take {xs : List V} {j : Nat} : cutV xs none (some (j : Int)) = xs.take j := by
  unfold cutV
  rw [HT.sIx_none, show HT.sIx xs.length xs.length (some (j : Int)) = min j xs.length from HT.sIx_nat xs.length xs.length j]
  simp only [List.drop_zero, Nat.sub_zero]
  rcases Nat.le_total j xs.length with h | h
  · rw [Nat.min_eq_left h]
  · rw [Nat.min_eq_right h, List.take_length, List.take_of_length_le h]
/-- the place of a step among steps that have it -/
theorem idx_facts {s : Stp} {st : List Stp} (h : s ∈ st) : (st.map stepD)[st.idxOf s]? = some (stepD s) ∧ ∀ (m : Nat) (z : PyData), m < st.idxOf s → (st.map stepD)[m]? = some z → PyData.eqv z (stepD s) = false := by
  have hl := List.idxOf_lt_length_iff.mpr h
  refine ⟨by rw [List.getElem?_map, List.getElem?_eq_getElem hl, List.getElem_idxOf]; rfl, fun m z hm hz => ?_⟩
  rw [List.getElem?_map] at hz
  obtain ⟨t, ht, rfl⟩ := Option.map_eq_some_iff.mp hz
  rw [eqv_stepD]
  refine decide_eq_false fun e => ?_
  subst e
  obtain ⟨hm', e⟩ := List.getElem?_eq_some_iff.mp ht
  have hn := List.not_of_lt_findIdx (p := fun y => y == t) (xs := st) (i := m) hm
  rw [e] at hn
  simp at hn
/-- the steps of several fields, one behind the other -/
def intos (r : Fm.Env) (dx dz : Int) : List Fd → List Stp → List Stp × List Nat
  | [], st => (st, [])
  | A :: l, st => ((intos r dx dz l (into (expand A r) dx dz st).1).1, (into (expand A r) dx dz st).2 :: (intos r dx dz l (into (expand A r) dx dz st).1).2)
theorem intos_snoc (r : Fm.Env) (dx dz : Int) (A : Fd) : ∀ (l : List Fd) (st : List Stp), intos r dx dz (l ++ [A]) st = ((into (expand A r) dx dz (intos r dx dz l st).1).1, (intos r dx dz l st).2 ++ [(into (expand A r) dx dz (intos r dx dz l st).1).2])
  | [], st => rfl
  | B :: l, st => by
    show ((intos r dx dz (l ++ [A]) _).1, _ :: (intos r dx dz (l ++ [A]) _).2) = _
    rw [intos_snoc r dx dz A l]
    rfl
theorem intos_len (r : Fm.Env) (dx dz : Int) : ∀ (l : List Fd) (st : List Stp), (intos r dx dz l st).1.length ≤ st.length + (l.map fun A => cn (expand A r)).sum ∧ (intos r dx dz l st).2.length = l.length
  | [], st => ⟨by simp [intos], rfl⟩
  | A :: l, st => by
    have h := intos_len r dx dz l (into (expand A r) dx dz st).1
    have i := (into_ok (expand A r) dx dz st).len
    refine ⟨?_, ?_⟩
    · show (intos r dx dz l _).1.length ≤ _
      rw [List.map_cons, List.sum_cons]
      omega
    · show (_ :: (intos r dx dz l _).2).length = _
      simp [h.2]
end Pf

/-! {**d, k: v} at the model's level. -/
namespace Dm
open PySem
section
variable {prog : Program} {w : World} {K : Type} [DecidableEq K] {knd : KeyKind prog w K} {A : Around} {E : Value → Shared → Prop} {s : Shared}
theorem wpAny_dictPut_pairs {d : Addr} {kvs : List (K × Value)} {k : K} {key v : Value} {Q : Unit → Shared → Prop} (hkey : knd.is k key = true) (hm : s.heap.DictOf knd d kvs)
    (hQ : ∀ h', h'.DictOf knd d (stored kvs k v) → Heap.SameBut d s.heap h' → Q () { s with heap := h' })
    (hsz : kvs.length ≤ sizeLine := by size_fits) :
    wpAny (model prog w) A (dictPut d (knd.hash k) key v) Q E s := by
  obtain ⟨o, es, ep, ho, hc, hd, hk, hp, hn⟩ := hm
  have hes : es.size ≤ sizeLine := by have e1 := hp.length; have e2 : es.toList.length = es.size := by simp
                                      omega
  unfold dictPut
  refine wpAny_bind (wpAny_dictFind_of hkey ho hd hk ?_)
  have hidx : (es.findIdx? fun e => knd.is k e.key) = kvs.findIdx? fun kv => decide (kv.1 = k) := by
    rw [← hp.findIdx k]; obtain ⟨l⟩ := es; simp
  cases hi : es.findIdx? fun e => knd.is k e.key with
  | some i =>
    refine wpAny_updateDict ho hd (hQ _ ⟨_, _, ep, Heap.get?_update_self _ ho (Obj.isFreed_of_dict (Obj.data_mapDict hd _)),
      hc.mapDict _, Obj.data_mapDict hd _, hk.modify _ _, ?_, ?_⟩ (Heap.SameBut.update ..))
    · rw [stored, if_pos (any_of_findIdx_some (hidx ▸ hi))]
      have hl : (es.toList.findIdx? fun e => knd.is k e.key) = some i := by rw [← hi]; obtain ⟨l⟩ := es; simp
      have := hp.modify hn hl v
      obtain ⟨l⟩ := es
      simpa using this
    · rw [stored, if_pos (any_of_findIdx_some (hidx ▸ hi)), keys_map_store]; exact hn
  | none =>
    have hnot : k ∉ kvs.map (·.1) := not_mem_of_findIdx_none (hidx ▸ hi)
    have hany : ¬ (kvs.any fun kv => decide (kv.1 = k)) = true := by
      rw [List.any_eq_true]; rintro ⟨kv, hkv, he⟩
      exact hnot (List.mem_map.mpr ⟨kv, hkv, of_decide_eq_true he⟩)
    refine wpAny_updateDictKeys (hz := hes) ho hd (hQ _ ⟨_, _, ep + 1, Heap.get?_update_self _ ho (Obj.isFreed_of_dict (Obj.data_mapDictKeys hd _)),
      hc.mapDictKeys _, Obj.data_mapDictKeys hd _, hk.push hkey _, ?_, ?_⟩ (Heap.SameBut.update ..))
    · rw [stored, if_neg hany]
      have := hp.append hkey (knd.hash k) v
      obtain ⟨l⟩ := es
      simpa using this
    · rw [stored, if_neg hany, List.map_append, List.nodup_append]
      refine ⟨hn, by simp, ?_⟩
      intro a ha b hb
      simp only [List.map_cons, List.map_nil, List.mem_singleton] at hb
      subst hb
      exact fun e => hnot (e ▸ ha)

theorem wpAny_mergeMapping {d o : Addr} {kvs more : List (K × Value)} {Q : Unit → Shared → Prop} (hdo : d ≠ o) (hoS : (o == sysModules) = false)
    (hd : s.heap.DictOf knd d kvs) (ho : s.heap.DictOf knd o more)
    (hQ : ∀ h', h'.DictOf knd d (merged kvs more) → h'.DictOf knd o more → Heap.SameBut d s.heap h' → Q () { s with heap := h' })
    (hsz : kvs.length + more.length ≤ sizeLine) :
    wpAny (model prog w) A (mergeMapping d (.ref o) false) Q E s := by
  obtain ⟨od, esd, epd, hod, hcd, hdd, hkd, hpd, hnd⟩ := id hd
  obtain ⟨oo, eso, epo, hoo, hco, hdo', hko, hpo, hno⟩ := id ho
  have hlen : more.length = eso.size := by rw [← hpo.length]; simp
  unfold mergeMapping
  refine wpAny_bind (wpAny_isInstance ho.typeIs isSubtype_dict_dict ?_)
  simp only [if_true]
  refine wpAny_bind (wpAny_specialOf ho.typeIs F.slot_dict_iter.lookup (wpAny_bind (wpAny_pure ?_)))
  have eb : ((some (Value.builtin "dict.__iter__") : Option Value) == some (Value.builtin "dict.__iter__")) = true := by decide +kernel
  simp only [eb]
  rw [if_neg (by rw [hoS]; exact Bool.false_ne_true)]
  refine wpAny_bind (wpAny_dictEntries hod hdd ?_)
  have loop : wpAny (model prog w) A (do
      let l ← dictEntries o
      let epoch ← dictEpoch o
      forIn (List.range l.size) PUnit.unit fun i (_ : PUnit) => (do
          let l' ← dictEntries o
          match l'[i]? with
            | some e => do
              holding [e.key, e.val] (dictPut d e.hash e.key e.val)
              let ep' ← dictEpoch o
              if (ep' != epoch) = true then do
                  (unsupported "dict.changed-during-merge" : Sem PUnit)
                  pure (ForInStep.yield PUnit.unit)
                else pure (ForInStep.yield PUnit.unit)
            | _ => do
              (unsupported "dict.changed-during-merge" : Sem PUnit)
              pure (ForInStep.yield PUnit.unit) : Sem (ForInStep PUnit))
      pure ()) Q E s := by
    refine wpAny_bind (wpAny_dictEntries hoo hdo' ?_)
    refine wpAny_bind (wpAny_dictEpoch hoo hdo' ?_)
    refine wpAny_bind ?_
    rw [List.range_eq_range']
    refine wpAny_forIn_list _
      (fun rest _ s' => ∃ h' i, s' = { s with heap := h' } ∧ rest = List.range' i (eso.size - i) ∧ i ≤ eso.size ∧ h'.DictOf knd d (merged kvs (more.take i)) ∧ h'.get? o = some oo ∧ Heap.SameBut d s.heap h')
      _ ?_ ?_ _ _ ⟨s.heap, 0, rfl, by simp, Nat.zero_le _, by simpa [merged] using hd, hoo, Heap.SameBut.refl _ _⟩
    · rintro x rest b s' ⟨h', i, rfl, hr, hi, hd', hoo', hs'⟩
      have hlt : i < eso.size := by
        rcases Nat.lt_or_ge i eso.size with h | h
        · exact h
        · rw [Nat.sub_eq_zero_of_le h] at hr; simp at hr
      obtain ⟨rfl, hrest⟩ : x = i ∧ rest = List.range' (i + 1) (eso.size - (i + 1)) := by
        have e : eso.size - i = (eso.size - (i + 1)) + 1 := by omega
        rw [e, List.range'_succ] at hr
        injection hr with h1 h2
        exact ⟨h1, h2⟩
      refine wpAny_bind (wpAny_dictEntries hoo' hdo' ?_)
      rw [Array.getElem?_eq_getElem hlt]
      obtain ⟨kv, hkv⟩ : ∃ kv, more[x]? = some kv := ⟨more[x]'(by rw [hlen]; exact hlt), List.getElem?_eq_getElem _⟩
      obtain ⟨k, v⟩ := kv
      obtain ⟨hkey, hval⟩ := hpo.get? (e := eso[x]) (by simp [hlt]) hkv
      obtain ⟨k', hkey', hhash⟩ := hko eso[x] (Array.getElem_mem hlt)
      obtain rfl : k' = k := knd.inj _ _ _ hkey' hkey
      show wpAny _ _ (holding [eso[x].key, eso[x].val] (dictPut d eso[x].hash eso[x].key eso[x].val) >>= _) _ _ _
      rw [hhash, hval]
      have hmx : (merged kvs (more.take x)).length ≤ sizeLine := by
        have e1 := merged_length_le kvs (more.take x)
        have e2 : (more.take x).length ≤ more.length := by rw [List.length_take]; omega
        omega
      refine wpAny_bind (wpAny_holding (wpAny_dictPut_pairs (hsz := hmx) hkey hd' fun h'' hd'' hs'' => ?_))
      have hoo'' : h''.get? o = some oo := (hs''.2 o (Ne.symm hdo)).trans hoo'
      refine wpAny_bind (wpAny_dictEpoch hoo'' hdo' ?_)
      rw [if_neg (by simp)]
      exact wpAny_pure ⟨h'', x + 1, rfl, hrest, hlt, by rw [merged_take_succ kvs more x (k', v) hkv]; exact hd'', hoo'', hs'.trans hs''⟩
    · rintro b s' ⟨h', i, rfl, hr, hi, hd', hoo', hs'⟩
      have hin : i = eso.size := by
        rcases Nat.lt_or_ge i eso.size with h | h
        · have e : eso.size - i = (eso.size - (i + 1)) + 1 := by omega
          rw [e, List.range'_succ] at hr; exact nomatch hr
        · exact Nat.le_antisymm hi h
      refine wpAny_pure (hQ h' ?_ ⟨oo, eso, epo, hoo', hco, hdo', hko, hpo, hno⟩ hs')
      rw [hin, ← hlen, List.take_length] at hd'; exact hd'
  have loop2 := loop
  split
  · refine wpAny_bind (wpAny_dictEntries hoo hdo' ?_)
    refine wpAny_bind ?_
    rw [← Array.forIn_toList]
    refine wpAny_forIn_list _ (fun rest _ s' => s' = s ∧ ∀ e ∈ rest, e ∈ eso.toList) _ ?_ ?_ _ _ ⟨rfl, fun e h => h⟩
    · rintro e rest b s' ⟨rfl, hall⟩
      obtain ⟨k, hkey, _⟩ := hko e (Array.mem_toList_iff.mp (hall e List.mem_cons_self))
      have hb := knd.byValue k _ hkey
      cases hkk : e.key with
      | ref a =>
        rw [hkk] at hb
        cases hb
      | _ => exact wpAny_pure ⟨rfl, fun x hx => hall x (List.mem_cons_of_mem _ hx)⟩
    · rintro b s' ⟨rfl, _⟩
      exact loop
  · exact loop
theorem wpAny_displayStar {m k v : Sem Value} {Q : Value → Shared → Prop}
    (h : wpAny (model prog w) A m (fun mv s1 => ∃ o more, mv = .ref o ∧ s.heap.objs.size ≠ o ∧ (o == sysModules) = false ∧ s1.heap.DictOf knd s.heap.objs.size [] ∧ s1.heap.DictOf knd o more ∧ more.length < sizeLine ∧
      ∀ h1, h1.DictOf knd s.heap.objs.size more → Heap.SameBut s.heap.objs.size s1.heap h1 →
        wpAny (model prog w) A (evalPairs [(k, v)]) (fun vs s2 => ∃ key val more2, more2.length < sizeLine ∧ Carries knd vs [(key, val)] ∧ h1.objs.size ≠ s.heap.objs.size ∧ (h1.objs.size == sysModules) = false ∧ s2.heap.DictOf knd h1.objs.size [] ∧ s2.heap.DictOf knd s.heap.objs.size more2 ∧
          ∀ h2, h2.DictOf knd h1.objs.size [(key, val)] → Heap.SameBut h1.objs.size s2.heap h2 → ∀ h3, h3.DictOf knd s.heap.objs.size (stored more2 key val) → h3.DictOf knd h1.objs.size [(key, val)] → Heap.SameBut s.heap.objs.size h2 h3 →
            Q (.ref s.heap.objs.size) { s2 with heap := h3, toks := s2.toks + vs.length }) E { s1 with heap := h1.push { cls := .type "dict", data := .dict #[] } }) E
      { s with heap := s.heap.push { cls := .type "dict", data := .dict #[] } }) :
    wpAny (model prog w) A (dictDisplay [(none, m), (some k, v)]) Q E s := by
  unfold dictDisplay
  simp only [List.forIn_cons, List.forIn_nil]
  refine wpAny_bind ?_
  refine wpAny_bind ?_
  simp only [List.isEmpty_nil, if_true]
  refine wpAny_bind (wpAny_pure ?_)
  refine wpAny_bind (wpAny_alloc ?_)
  refine wpAny_bind (wpAny_holding (wpAny_mono h (fun mv s1 hm => ?_) fun _ _ e => e))
  obtain ⟨o, more, rfl, hne, hoS, hd, ho, hz, h1⟩ := hm
  have hnd : (more.map (·.1)).Nodup := by
    obtain ⟨_, _, _, _, _, _, _, _, n⟩ := ho
    exact n
  refine wpAny_bind (wpAny_onRaise (wpAny_tryCatch (wpAny_onRaise (wpAny_holding (wpAny_mergeMapping hne hoS hd ho (fun h' hd' ho' hs' => ?_) (by simp only [List.length_nil]; omega))))))
  rw [merged_nil_of_nodup more hnd] at hd'
  refine wpAny_pure ?_
  refine wpAny_bind ?_
  simp only [List.nil_append, List.length_cons, List.length_nil]
  refine wpAny_pure ?_
  refine wpAny_pure ?_
  simp only [List.isEmpty_cons, Bool.false_eq_true, if_false]
  refine wpAny_bind (wpAny_bind (wpAny_holding (wpAny_subDict (knd := knd) (by simp) (wpAny_mono (h1 h' hd' hs') (fun vs s2 hv => ?_) fun _ _ e => e))))
  obtain ⟨key, val, more2, hz2, hc, hne2, hS2, hd2, hdm, hq⟩ := hv
  refine ⟨[(key, val)], hc, hd2, fun h2 hd3 hs3 => ?_⟩
  have e1 : merged ([] : List (K × Value)) [(key, val)] = [(key, val)] := rfl
  rw [e1] at hd3
  refine wpAny_bind (wpAny_onRaise (wpAny_holding (wpAny_mergeMapping (s := { s2 with heap := h2, toks := s2.toks + vs.length }) hne2.symm hS2 (hdm.sameBut hs3 hne2.symm) hd3 (fun h3 hd4 hd5 hs4 => ?_) (by simp only [List.length_cons, List.length_nil]; omega))))
  refine wpAny_pure ?_
  exact wpAny_pure (hq h2 hd3 hs3 h3 hd4 hd5 hs4)
end
end Dm

/-! min, max of a tuple of ints. -/
namespace Dz
open PySem PySem.Spec PyProof.Rows L2
section
variable {prog : Program} {w : World} {A : Around} {E : Value → Shared → Prop} {s : Shared} {l : Addr} {xs : Array (Int × Tok)}
theorem old_keptT {h' : Heap} {o : Obj} (hk : ∀ b u, b ∉ [s.heap.objs.size] → (s.heap.push o).get? b = some u → h'.get? b = some u) :
    ∀ b u, s.heap.get? b = some u → h'.get? b = some u := fun b u e => by
  refine hk b u (fun hm => ?_) (Heap.get?_push_of_some _ e)
  rcases List.mem_cons.mp hm with e1 | hm
  · exact absurd (e1 ▸ Heap.lt_size e) (Nat.lt_irrefl _)
  · cases hm
theorem max_intTuple {Q : Value → Shared → Prop} (hh : A.handled = none) (hl : s.heap.IsTuple l (intItems xs)) (hne : 0 < xs.size)
    (h : ∀ v h' tk, (intItems xs)[argBest (fun i j => decide (numAt xs i > numAt xs j)) (xs.size - 1)]? = some v → (∀ b o, s.heap.get? b = some o → h'.get? b = some o) → Q v { s with heap := h', toks := tk }) :
    wpAny (model prog w) A (call (.builtin "max") [.ref l]) Q E s := by
  have hlt : l < s.heap.objs.size := by obtain ⟨_, e, _⟩ := hl; exact Heap.lt_size e
  refine call_max_walk (wpAny_pyIter_tuple hl ?_)
  refine ⟨_, [_, l], [_], _, _, _, _, rfl, Walks.tuple (A := A.in1) hh _ l (Nat.ne_of_lt hlt) (intItems xs), ⟨⟨_, Heap.get?_push_size _ rfl, rfl, rfl⟩, hl.push _⟩, fun c hc => ?_, by simpa [intItems] using hne, CmpOf.ints_gt (numAt xs) (fun _ _ => intItems_at), fun v h' tk hP hk => ?_⟩
  · show c < (s.heap.push _).objs.size
    rw [Heap.size_push]
    rcases List.mem_cons.mp hc with rfl | hc
    · exact Nat.lt_succ_self _
    · rcases List.mem_cons.mp hc with rfl | hc
      · exact Nat.lt_succ_of_lt hlt
      · cases hc
  · exact h v h' tk (by simpa [intItems] using hP) (old_keptT hk)
theorem min_intTuple {Q : Value → Shared → Prop} (hh : A.handled = none) (hl : s.heap.IsTuple l (intItems xs)) (hne : 0 < xs.size)
    (h : ∀ v h' tk, (intItems xs)[argBest (fun i j => decide (numAt xs i < numAt xs j)) (xs.size - 1)]? = some v → (∀ b o, s.heap.get? b = some o → h'.get? b = some o) → Q v { s with heap := h', toks := tk }) :
    wpAny (model prog w) A (call (.builtin "min") [.ref l]) Q E s := by
  have hlt : l < s.heap.objs.size := by obtain ⟨_, e, _⟩ := hl; exact Heap.lt_size e
  refine call_min_walk (wpAny_pyIter_tuple hl ?_)
  refine ⟨_, [_, l], [_], _, _, _, _, rfl, Walks.tuple (A := A.in1) hh _ l (Nat.ne_of_lt hlt) (intItems xs), ⟨⟨_, Heap.get?_push_size _ rfl, rfl, rfl⟩, hl.push _⟩, fun c hc => ?_, by simpa [intItems] using hne, CmpOf.ints_lt (numAt xs) (fun _ _ => intItems_at), fun v h' tk hP hk => ?_⟩
  · show c < (s.heap.push _).objs.size
    rw [Heap.size_push]
    rcases List.mem_cons.mp hc with rfl | hc
    · exact Nat.lt_succ_self _
    · rcases List.mem_cons.mp hc with rfl | hc
      · exact Nat.lt_succ_of_lt hlt
      · cases hc
  · exact h v h' tk (by simpa [intItems] using hP) (old_keptT hk)
end
section
variable {X : Cx}
def rMaxT (K : PySem.W.Frag) : List V → Hp → VK → Prop := fun vs H Q => ∃ (a : Addr) (ns : List Int), vs = [V.ref a] ∧ SqT K H a (ns.map V.int) ∧ 0 < ns.length ∧ ∀ m, m ∈ ns → (∀ y, y ∈ ns → y ≤ m) → Q (.int m) H
def rMinT (K : PySem.W.Frag) : List V → Hp → VK → Prop := fun vs H Q => ∃ (a : Addr) (ns : List Int), vs = [V.ref a] ∧ SqT K H a (ns.map V.int) ∧ 0 < ns.length ∧ ∀ m, m ∈ ns → (∀ y, y ∈ ns → m ≤ y) → Q (.int m) H
theorem cr_maxT (hc : X.calm = true) : CallR X (.builtin "max") (rMaxT X.K) := by
  intro pins s σ H vs us Q I r h
  obtain ⟨a, ns, rfl, hs, hne, q⟩ := h
  obtain ⟨its, rv, hl, _⟩ := I.tuple hs
  rw [Vals.ref1 r]
  obtain ⟨xs, e⟩ := rv.ints.allInts.items
  have hn : numsOf (intItems xs).toList = ns := by rw [← e]; exact rv.ints.numsOf
  rw [nums_intItems] at hn
  subst hn
  rw [e] at hl
  have hsz : 0 < xs.size := by simpa using hne
  refine max_intTuple (I.ok.hd hc) hl hsz fun v h' tk hv hk => ?_
  obtain ⟨t, rfl⟩ := intItems_at hv
  obtain ⟨h1, h2⟩ := argBest_gt (numAt xs) (xs.size - 1)
  refine ⟨.int _, H, I.kept hk, ⟨_, rfl⟩, q _ ?_ fun a ha => ?_⟩
  · rw [numAt_eq]; exact PySem.getD_mem (by rw [List.length_map, Array.length_toList]; omega)
  · obtain ⟨j, hj, rfl⟩ := mem_getD ha
    rw [List.length_map, Array.length_toList] at hj
    rw [← numAt_eq]; exact h2 j (by omega)
theorem cr_minT (hc : X.calm = true) : CallR X (.builtin "min") (rMinT X.K) := by
  intro pins s σ H vs us Q I r h
  obtain ⟨a, ns, rfl, hs, hne, q⟩ := h
  obtain ⟨its, rv, hl, _⟩ := I.tuple hs
  rw [Vals.ref1 r]
  obtain ⟨xs, e⟩ := rv.ints.allInts.items
  have hn : numsOf (intItems xs).toList = ns := by rw [← e]; exact rv.ints.numsOf
  rw [nums_intItems] at hn
  subst hn
  rw [e] at hl
  have hsz : 0 < xs.size := by simpa using hne
  refine min_intTuple (I.ok.hd hc) hl hsz fun v h' tk hv hk => ?_
  obtain ⟨t, rfl⟩ := intItems_at hv
  obtain ⟨h1, h2⟩ := argBest_lt (numAt xs) (xs.size - 1)
  refine ⟨.int _, H, I.kept hk, ⟨_, rfl⟩, q _ ?_ fun a ha => ?_⟩
  · rw [numAt_eq]; exact PySem.getD_mem (by rw [List.length_map, Array.length_toList]; omega)
  · obtain ⟨j, hj, rfl⟩ := mem_getD ha
    rw [List.length_map, Array.length_toList] at hj
    rw [← numAt_eq]; exact h2 j (by omega)
end
end Dz

/-! try: body / except C as e: suite, and what was caught stays known afterwards. -/
namespace Ec
open PySem PySem.Spec PyProof.Rows L2
section
variable {X : Cx} {pins : List (Addr × Obj)} {σ : List (Option V)} {H : Hp} {s : Shared} {a : Addr} {oe : Obj} {vs : Array Value} {O : HO}
/-- an object that lies there untracked, new since the entry, is tracked -/
theorem track (I : Inv X pins σ H s) (ha : s.heap.get? a = some oe) (hd : oe.data = .fields vs) (na : H a = none) (nL : a ≠ X.env.locals) (n0 : X.s_0.heap.get? a = none) (np : ∀ p ∈ X.pn ++ pins, p.1 ≠ a) (hO : ObjOk X.prog X.w (upd H a O) s.heap a O) :
    Inv X pins σ (upd H a O) s := by
  have ne : ∀ {b : Addr} {u : HO}, H b = some u → b ≠ a := fun {b u} q => ne_of_none q na
  have n1 : ∀ {b : Addr} {o : Obj}, X.s_0.heap.get? b = some o → b ≠ a := fun {b o} q z => by
    rw [z, n0] at q
    cases q
  have nc : ∀ {x : Str} {c : Addr}, X.env.cells.lookup x = some c → c ≠ a := fun {x c} q z => by
    obtain ⟨v, o, ho, hv⟩ := I.cell x c q
    rw [z, ha] at ho
    cases ho
    rw [hd] at hv
    cases hv
  refine ⟨I.ok, I.os, I.bare, ⟨I.base.keep, I.base.slot, fun b o q z y => ?_, I.base.there, fun b xs q => ?_, fun b o u q => ?_, fun b ps q => ?_⟩, I.loc, I.cell, ?_, fun x c q => ?_, fun p hp => ?_, fun b u q => ?_, I.len⟩
  · rw [upd_ne (n1 q)]
    exact I.base.free b o q z y
  · have z := I.base.tups b xs q
    rw [upd_ne (ne z)]
    exact z
  · have z := I.base.frzs b o u q
    rw [upd_ne (ne z)]
    exact z
  · obtain ⟨more, z⟩ := I.base.tbls b ps q
    exact ⟨more, by rw [upd_ne (ne z)]; exact z⟩
  · rw [upd_ne nL.symm]
    exact I.free
  · rw [upd_ne (nc q)]
    exact I.freeC x c q
  · obtain ⟨p1, p2, p3⟩ := I.pin p hp
    exact ⟨p1, by rw [upd_ne (np p hp)]; exact p2, p3⟩
  · by_cases e : b = a
    · subst e
      rw [upd_same] at q
      cases q
      exact hO
    · rw [upd_ne e] at q
      exact (I.hok b u q).stay (fun c v _ z => z) (fun c z => by rw [upd_ne (ne z)]; exact z) fun c xs z => by rw [upd_ne (ne z)]; exact z
end
/-- what the clause wishes of an exception of the body, the caught one known when it ends -/
def wKeep (K : PySem.W.Frag) (c : Value) (i : Nat) (ts : Addr → Value → Option Addr → TS) (Wout : WX) (D : Ends) : WX := fun cls d σ H => ∃ b, PySem.W.exmOne K cls c = some b ∧ (b = false → Wout cls d σ H) ∧
  (b = true → ∀ a, H a = none → ts a cls d { nx := fun σ' H' => D.nx (σ'.set i none) (upd H' a (exg a cls d)), rt := fun v H' => D.rt v (upd H' a (exg a cls d)), bk := fun σ' H' => D.bk (σ'.set i none) (upd H' a (exg a cls d)), ct := fun σ' H' => D.ct (σ'.set i none) (upd H' a (exg a cls d)) } (σ.set i (some (.ref a))) H)
section
variable {X : Cx} {x n : Str} {c : Value} {i : Nat} {body suite : List Stmt} {b₀ : Stmt} {np pos pos' : Pos} {tb : WX → TS} {ts : Addr → Value → Option Addr → TS} {Wout : WX}
theorem ps_try_keep (hx : X.ex = []) (hs : X.stack = X.env :: X.outer) (hf : X.env.frame = some X.env.locals) (hN : X.N.Nodup) (hi : X.N[i]? = some n) (hln : X.env.kindOf n = some .local) (hc : Names X x c) (tk : Takes X Wout)
    (hb : ∀ (W : WX) (pn : List (Addr × Obj)) (xe : Value → Shared → Prop), Takes (X.tr pn xe) W → PassesOwn (model X.prog X.w) X.A X.env xe → PSs (X.tr pn xe) body (tb W))
    (hsu : ∀ (a : Addr) (oe : Obj) (cls : Value) (d : Option Addr) (pn : List (Addr × Obj)), Zc cls d oe → (∃ vs, oe.data = .fields vs) → PSs (X.suite a ((a, oe) :: pn)) (b₀ :: suite) (ts a cls d)) :
    PS X (.Try body [.ExceptHandler (some (.Name x np)) (some n) (b₀ :: suite) pos'] [] [] pos) (fun D σ H => tb (wKeep X.K c i ts Wout D) D σ H) := by
  refine ⟨fun pins s σ H D I h => wpAny_Try_except ?_⟩
  have ok := I.ok
  have fr : X.A.frames = some (X.env :: X.outer) := by rw [ok.frames, hs]
  let after : Value → Shared → Prop := fun e sa => wpAny (model X.prog X.w) X.A (noteFrame e X.env) (fun _ sb => wpAny (model X.prog X.w) X.A (setFlight e none) (fun _ sc => wpAny (model X.prog X.w) X.A (handleBy e X.env [.ExceptHandler (some (.Name x np)) (some n) (b₀ :: suite) pos']) (SP X pins D) X.xe sc) X.xe sb) X.xe sa
  refine wpAny_mono ((hb (wKeep X.K c i ts Wout D) (X.pn ++ pins) after (fun u sx xx => ?_) PassesOwn.looking).run [] s σ H D (I.toTry _) h) (fun f s1 done => ?_) fun e s1 he => he
  · obtain ⟨a, B, sI, pins0, τ, G, cls, d, rfl, J0, nb, up, sky, na, os, ag, b, eb, no, yes⟩ := xx
    have J : Inv X pins τ G sI := J0.ofTry ok
    rw [hs] at sky
    show wpAny (model X.prog X.w) X.A (noteFrame (.ref a) X.env) _ _ _
    refine Sky.land Zc.steady fr hf sky fun m fl upm => ?_
    have Jm : Inv X pins τ G { sx with heap := m } := J.landed nb fl.1 (up.trans upm) os ag
    obtain ⟨o1, v1, at1, z1, d1⟩ := fl.there
    have notin : a ∉ frs (X.env :: X.outer) := fun hm => by
      obtain ⟨_, o', e', nofr⟩ := fl.2.2.1.mem hm
      rw [at1] at e'
      cases e'
      exact nofr _ d1
    have nL : a ≠ X.env.locals := fun z => notin (List.mem_filterMap.mpr ⟨X.env, List.mem_cons_self, by rw [hf, z]⟩)
    have nF : a ∉ X.fs := fun hm => by
      obtain ⟨e, he, q⟩ := List.mem_filterMap.mp hm
      exact notin (List.mem_filterMap.mpr ⟨e, List.mem_cons_of_mem _ he, q⟩)
    have new : sI.heap.get? a = none := by
      cases q : sI.heap.get? a with
      | none => rfl
      | some o =>
        have z := nb a o q (by rw [hs]; exact notin)
        rw [fl.2.1] at z
        cases z
    have n0 : X.s_0.heap.get? a = none := by
      cases q : X.s_0.heap.get? a with
      | none => rfl
      | some o =>
        obtain ⟨o', z⟩ := J.base.there a o q (by rw [hx]; exact fun z => nomatch z)
        rw [new] at z
        cases z
    have npin : ∀ p ∈ X.pn ++ pins, p.1 ≠ a := fun p hp z => by
      have q := (J.pin p hp).1
      rw [z, new] at q
      cases q
    have S1 := Jm.suite at1 d1 na nL nF
    refine wpAny_handleBy_cons (codeAny_handlers_test ?_) (by intro q; cases q)
    have ty : PySem.W.Looks (model X.prog X.w) m (typeOf (.ref a)) cls := fun A Q E s k q => wpAny_typeOf_ref (k _ _ at1) (by rw [z1.1]; exact q)
    have asks := PySem.W.exm_one (M := model X.prog X.w) Jm.kIn ty eb
    have name : ∀ {Q : Value → Shared → Prop} {E : Value → Shared → Prop}, Q c { sx with heap := m } → wpAny (model X.prog X.w) (X.A.mark (some (.ref a))) (eval (.Name x np) X.env) Q E { sx with heap := m } := fun {Q E} q => by
      obtain ⟨hg, hdb, hm | ⟨hm, hv, hnn⟩⟩ := hc
      · exact ld_glob (X := X.suite a ((a, o1) :: (X.pn ++ pins))) S1 hg hm q hdb
      · exact ld_blt (X := X.suite a ((a, o1) :: (X.pn ++ pins))) S1 hg hm hv q hnn hdb
    refine name (asks.here ?_)
    cases b with
    | false =>
      show wpAny _ X.A (handleBy (.ref a) X.env []) _ _ _
      refine wpAny_handleBy_nil ?_
      obtain ⟨_, _, _, o2, v2, T, _, _, at2, _, d2, h1, _⟩ := id fl
      unfold PySem.passOn
      refine wpAny_bind (wpAny_field at2 d2 h1 ?_)
      rw [if_neg (show ¬ ((Value.ref T == Value.none) = true) from by simp)]
      have out : wpAny (model X.prog X.w) X.A (setFlight (.ref a) X.env.frame) (fun _ s4 => wpAny (model X.prog X.w) X.A (throw (.ref a) : Sem Flow) (SP X pins D) X.xe s4) X.xe { sx with heap := m } := by
        rw [hf]
        refine HandSPX.setFlight_upZ fl fun m4 hh4 up4 => wpAny_throw (tk _ _ ⟨a, B, sI, pins, τ, G, cls, d, rfl, J, nb, (up.trans upm).trans up4, .inr (.inr (by rw [hs]; exact hh4)), na, os, ag, no rfl⟩)
      first | exact wpAny_bind (wpAny_pure (wpAny_bind out)) | exact wpAny_bind out
    | true =>
      refine codeAny_handlers_suite_as (HandSPX.lands_againZ fl fun m4 fl4 up4 => ?_)
      have J4 : Inv X pins τ G { sx with heap := m4 } := J.landed nb fl4.1 ((up.trans upm).trans up4) os ag
      obtain ⟨o4, v4, at4, z4, d4⟩ := fl4.there
      refine store_ok (X := X.suite a ((a, o4) :: (X.pn ++ pins))) (v := .ref a) (J4.suite at4 d4 na nL nF) hN hi (.inl hln) rfl (fun s5 S5 => ?_) (.inr hln)
      refine wpAny_mono ((hsu a o4 cls d (X.pn ++ pins) z4 ⟨_, d4⟩).run [] s5 _ G _ S5 (yes rfl a na)) (fun f s6 done => ?_) (fun _ _ z => z.elim)
      have ends : ∀ {τ6 : L2.St} {G6 : Hp} {Q : Shared → Prop}, Inv (X.suite a ((a, o4) :: (X.pn ++ pins))) [] τ6 G6 s6 → (∀ s7, Inv X pins (τ6.set i none) (upd G6 a (exg a cls d)) s7 → Q s7) →
          wpAny (model X.prog X.w) X.A (do bindName X.env n .none; unbindBehindTheSuite X.env n pos') (fun _ s7 => Q s7) X.xe s6 := fun {τ6 G6 Q} S6 hq => by
        obtain ⟨q1, q2, _⟩ := S6.pin (a, o4) (List.mem_append_left _ List.mem_cons_self)
        exact gone_ok (track (S6.unsuite ok) q1 d4 q2 nL n0 npin (exg_ok q1 z4 d4)) hN hi hln hq
      cases f with
      | next =>
        obtain ⟨τ6, G6, S6, q6⟩ := done
        exact ends S6 fun s7 J7 => ⟨_, _, J7, q6⟩
      | brk =>
        obtain ⟨τ6, G6, S6, q6⟩ := done
        exact ends S6 fun s7 J7 => ⟨_, _, J7, q6⟩
      | cont =>
        obtain ⟨τ6, G6, S6, q6⟩ := done
        exact ends S6 fun s7 J7 => ⟨_, _, J7, q6⟩
      | ret u =>
        obtain ⟨v6, τ6, G6, S6, r6, q6⟩ := done
        exact ends S6 fun s7 J7 => ⟨_, _, _, J7, r6, q6⟩
  · cases f with
    | next =>
      obtain ⟨τ, G, J, q⟩ := done
      exact wpAny_execs_nil ⟨τ, G, J.ofTry ok, q⟩
    | brk =>
      obtain ⟨τ, G, J, q⟩ := done
      exact ⟨τ, G, J.ofTry ok, q⟩
    | cont =>
      obtain ⟨τ, G, J, q⟩ := done
      exact ⟨τ, G, J.ofTry ok, q⟩
    | ret u =>
      obtain ⟨v, τ, G, J, r, q⟩ := done
      exact ⟨v, τ, G, J.ofTry ok, r, q⟩
end
end Ec

/-! Errors as values: the classes by name, readings of the calls that make them; small readings. -/
namespace Ec
open PySem PySem.Spec PyProof.Rows L2 Lw
def Ext (H H' : Hp) : Prop := ∀ b u, H b = some u → H' b = some u
theorem Ext.refl {H : Hp} : Ext H H := fun _ _ h => h
theorem Ext.trans {H H1 H2 : Hp} (a : Ext H H1) (b : Ext H1 H2) : Ext H H2 := fun c u h => b c u (a c u h)
theorem Ext.new {H H' : Hp} {p : Addr} {o : HO} (a : Ext H H') (n : H' p = none) : Ext H (upd H' p o) := fun c u h => by
  rw [upd_ne (ne_of_none (a c u h) n)]
  exact a c u h
/-- an __init__ that stores what it is given, under these names -/
def spIni (K : PySem.W.Frag) (C : Addr) (names : List Str) : Sp := fun vs H Q _ => ∃ (a : Addr) (ys : List V), vs = .ref a :: ys ∧ ys.length = names.length ∧ Own K C ∧ (∀ f ∈ names, PySem.W.findIn K (.ref C) f = some none) ∧ H a = some (exo a C none) ∧
  ∀ H' d, a ≠ d → H d = none → H' a = some (exo a C (some d)) → H' d = some (exd d (names.zip ys).reverse) → (∀ b u, b ≠ a → H b = some u → H' b = some u) → Q .non H'
section
variable {P : Program} {w : World} {K : PySem.W.Frag} {mg : Str → Option Value} {base : Heap} {f : Addr} {fd : FuncData} {C : Addr}
theorem one_put {σ : L2.St} {H : Hp} {a : Addr} {g : Str} {y : V} {D : Ends} (O : Own K C) (hf : PySem.W.findIn K (.ref C) g = some none) (h : H a = some (exo a C none)) {i j : Nat} (hi : σ[i]? = some (some (.ref a))) (hj : σ[j]? = some (some y))
    (q : ∀ H', Exc H' a C [(g, y)] → (∀ b u, b ≠ a → H b = some u → H' b = some u) → (∃ d, a ≠ d ∧ H d = none ∧ H' a = some (exo a C (some d)) ∧ H' d = some (exd d [(g, y)])) → D.nx σ H') : tSt K g (tVar i) (tVar j) D σ H := by
  refine g_var hj (g_var hi ⟨a, C, rfl, O, hf, .inl ⟨h, fun dx n ne => ?_⟩⟩)
  have e1 : upd (upd H dx (exd dx [(g, y)])) a (exo a C (some dx)) dx = some (exd dx [(g, y)]) := by rw [upd_ne ne, upd_same]
  refine q _ (.dict upd_same e1) (fun b u nb hb => ?_) ⟨dx, ne.symm, n, upd_same, e1⟩
  rw [upd_ne nb, upd_ne (ne_of_none hb n)]
  exact hb
theorem two_put {σ : L2.St} {H : Hp} {a d : Addr} {g : Str} {y : V} {fs : List (Str × V)} {D : Ends} (O : Own K C) (hf : PySem.W.findIn K (.ref C) g = some none) (h : H a = some (exo a C (some d))) (hd : H d = some (exd d fs)) (ne : a ≠ d) (hl : fs.length ≤ 900) {i j : Nat} (hi : σ[i]? = some (some (.ref a))) (hj : σ[j]? = some (some y))
    (q : ∀ H', Exc H' a C ((g, y) :: fs) → (∀ b u, b ≠ d → H b = some u → H' b = some u) → D.nx σ H') : tSt K g (tVar i) (tVar j) D σ H := by
  refine g_var hj (g_var hi ⟨a, C, rfl, O, hf, .inr ⟨d, fs, h, hd, hl, ?_⟩⟩)
  exact q _ (.dict (by rw [upd_ne ne]; exact h) upd_same) (fun b u nb hb => by rw [upd_ne nb]; exact hb)
end
/-! ### the classes by name -/
structure Mk (P : Program) (w : World) (K : PySem.W.Frag) (mg : Str → Option Value) (base : Heap) (x : Str) (names : List Str) (dvs : List V) : Prop where
  ex : ∃ (fd : FuncData) (ps : List Str) (ds : List Value), mg x = some (.ref (cA K x)) ∧ Init K (cA K x) (iA K x) ∧ FnOk P w K mg base CX0 1 (iA K x) fd ps (spIni K (cA K x) names) ∧ Binds K fd ps ds ∧ Vals dvs ds
structure Mkk (P : Program) (w : World) (K : PySem.W.Frag) (mg : Str → Option Value) (base : Heap) (x : Str) (ks names : List Str) (gV : List V → List V → List V) : Prop where
  ex : ∃ (fd : FuncData) (ps : List Str) (g : List Value → List Value → List Value), mg x = some (.ref (cA K x)) ∧ Init K (cA K x) (iA K x) ∧ FnOk P w K mg base CX0 1 (iA K x) fd ps (spIni K (cA K x) names) ∧ KBinds K fd ps ks g gV
section
variable {X : Cx} {x : Str} {names ks : List Str} {dvs : List V} {p pos : Pos} {e : Expr} {es : List Expr} {kws : List Keyword} {t tk : TA} {gV : List V → List V → List V}
theorem pe_cls {C : Addr} (hm : X.mg x = some (.ref C)) (hg : Gl X x := by rfl) (hd : (x == ("__debug__" : Str)) = false := by decide) : PE X (.Name x pos) (tC (.ref C)) := pe_glob hg hm rfl hd
theorem pe_mk (M : Mk X.prog X.w X.K X.mg X.base x names dvs) (hr : Room 2 X.A) (ha : PA X (e :: es) t) (hg : Gl X x := by rfl) (hdb : (x == ("__debug__" : Str)) = false := by decide)
    (he : starEach (e :: es) X.env = (false, eval e X.env) :: starEach es X.env := by rfl) (hpl : (backTo pos (starEach es X.env)).any (·.1) = false := by rfl) : PE X (.Call (.Name x p) (e :: es) [] pos) (tMkI (cA X.K x) (spIni X.K (cA X.K x) names) dvs t) := by
  obtain ⟨fd, ps, ds, hm, N, F, hb, hd⟩ := M.ex
  exact pe_mkI N F hr hb hd hm ha hg hdb he hpl
theorem pe_mk0 (M : Mk X.prog X.w X.K X.mg X.base x names dvs) (hr : Room 2 X.A) (hg : Gl X x := by rfl) (hdb : (x == ("__debug__" : Str)) = false := by decide) : PE X (.Call (.Name x p) [] [] pos) (tMkI (cA X.K x) (spIni X.K (cA X.K x) names) dvs tNil) := by
  obtain ⟨fd, ps, ds, hm, N, F, hb, hd⟩ := M.ex
  exact pe_mkI0 N F hr hb hd hm hg hdb
theorem pe_mkk (M : Mkk X.prog X.w X.K X.mg X.base x ks names gV) (hr : Room 2 X.A) (hkw : PK X kws tk) (hg : Gl X x := by rfl)
    (hall : (backToKw pos (keywordEach kws X.env)).all (·.1.isSome) = true := by rfl) (hks : (backToKw pos (keywordEach kws X.env)).filterMap (·.1) = ks := by rfl) (hdb : (x == ("__debug__" : Str)) = false := by decide)
    (hpl : ((backTo pos (starEach [] X.env)).any (·.1) || (backToKw pos (keywordEach kws X.env)).any (·.1.isNone)) = false := by rfl) : PE X (.Call (.Name x p) [] kws pos) (tMkK (cA X.K x) (spIni X.K (cA X.K x) names) gV tk) := by
  obtain ⟨fd, ps, g, hm, N, F, hb⟩ := M.ex
  exact pe_mkK N F hr hb hm hkw hg hall hks hdb hpl
end
section
variable {K : PySem.W.Frag} {C : Addr} {names : List Str} {Q : VK} {σ : L2.St} {H : Hp} {dvs : List V} {t : TA}
theorem ini_mk {ys : List V} {E : XK} {H : Hp} (O : Own K C) (hf : ∀ f ∈ names, PySem.W.findIn K (.ref C) f = some none) (hl : ys.length = names.length) (q : ∀ a H', H a = none → Exc H' a C (names.zip ys).reverse → Ext H H' → Q (.ref a) H') :
    ∀ a, H a = none → spIni K C names (.ref a :: ys) (upd H a (exo a C none)) (fun v H2 => v = .non ∧ Q (.ref a) H2) E := fun a ha => by
  refine ⟨a, ys, rfl, hl, O, hf, upd_same, fun H' d _ _ e1 e2 k => ⟨rfl, q a H' ha (.dict e1 e2) fun b u hb => k b u (ne_of_none hb ha) ?_⟩⟩
  rw [upd_ne (ne_of_none hb ha)]
  exact hb
theorem g_mkI {sp : Sp} (q : t σ H fun vs H1 => vs.length ≤ 1000 ∧ ∀ a, H1 a = none → sp (.ref a :: (vs ++ dvs)) (upd H1 a (exo a C none)) (fun v H2 => v = .non ∧ Q (.ref a) H2) E0) : tMkI C sp dvs t σ H Q := q
theorem g_mkK {sp : Sp} {gV : List V → List V → List V} (q : t σ H fun zs H1 => ∀ a, H1 a = none → sp (gV [.ref a] zs) (upd H1 a (exo a C none)) (fun v H2 => v = .non ∧ Q (.ref a) H2) E0) : tMkK C sp gV t σ H Q := q
theorem g_mkP (q : t σ H fun vs H1 => vs.length ≤ 1000 ∧ ∀ a, H1 a = none → Q (.ref a) (upd H1 a (exo a C none))) : tMkP C t σ H Q := q
theorem mkP_go {H : Hp} (q : ∀ a H', H a = none → Exc H' a C [] → Ext H H' → Q (.ref a) H') : ∀ a, H a = none → Q (.ref a) (upd H a (exo a C none)) := fun a ha => q a _ ha (.bare upd_same) (Ext.refl.new ha)
theorem g_fx {f : Str} {te : TE} (q : te σ H fun x H1 => ∃ (a C : Addr) (fs : List (Str × V)) (v : V), x = .ref a ∧ Own K C ∧ PySem.W.findIn K (.ref C) f = some none ∧ Exc H1 a C fs ∧ fs.lookup f = some v ∧ Q v H1) : tFx K f te σ H Q := q
end
def datB (bs : List Bool) : PyData := .list (bs.map .bool)
theorem Ext.put {H H' : Hp} {p : Addr} {o : HO} (a : Ext H H') (n : H p = none) : Ext H (upd H' p o) := fun c u h => by
  rw [upd_ne (ne_of_none h n)]
  exact a c u h
section
variable {K : PySem.W.Frag} {H : Hp} {Q : VK} {x y : V} {d : PyData} {l : Addr}
theorem dp_bools : ∀ bs : List Bool, DpAll K H (bs.map V.bl) (bs.map .bool)
  | [] => .nil
  | b :: bs => .cons (.bl b) (dp_bools bs)
theorem dp_row {bs : List Bool} (h : H l = some (.lst (bs.map V.bl))) : Dp K H (.ref l) (datB bs) := .lst (SqL.of h) (dp_bools bs)
theorem ne_same (hd : SeqAt.shaped d = true) (h1 : Dp K H x d) (h2 : Dp K H y d) (q : Q (.bl false) H) : rNeD K x y H Q := ⟨d, d, h1, h2, hd, hd, by
  rw [PySem.SeqAt.eqv_refl d (SeqAt.canLay_of_shaped hd)]
  exact q⟩
theorem eq_same (hd : SeqAt.shaped d = true) (h1 : Dp K H x d) (h2 : Dp K H y d) (q : Q (.bl true) H) : rEqD K x y H Q := ⟨d, d, h1, h2, hd, hd, by
  rw [PySem.SeqAt.eqv_refl d (SeqAt.canLay_of_shaped hd)]
  exact q⟩
end
theorem g_enum {K : PySem.W.Frag} {ta : TA} {σ : L2.St} {H : Hp} {R : It → Hp → Prop} (q : ta σ H fun vs H1 => ∃ a xs, vs = [.ref a] ∧ SqL K H1 a xs ∧ R (Ite K a) H1) : iEnum K ta σ H R := q
theorem g_yes {σ : L2.St} {H : Hp} {Q : Bool → Hp → Prop} (q : Q true H) : tYes σ H Q := q
theorem dec_int (a b : Int) : decide (V.int a = V.int b) = decide (a = b) := by simp
theorem bl_is {b c : Bool} {P : Bool → Prop} (h : b = c) (q : P c) : ∃ k, V.bl b = .bl k ∧ P k := ⟨c, by rw [h], q⟩
theorem g_none {Q : Option Int → Hp → Prop} {σ : L2.St} {H : Hp} (q : Q none H) : tNoPart σ H Q := q
theorem sl_both {K : PySem.W.Frag} {T : Addr} {xs : List V} {lo hi : Option Int} {H : Hp} {Q : VK} (R : Addr → Hp → Prop) (h : SqT K H T xs) (rT : R T H) (rN : ∀ p, H p = none → R p (upd H p (.tup (cutV xs lo hi)))) (q : ∀ tr H', R tr H' → Q (.ref tr) H') : rSlA K (.ref T) lo hi H Q :=
  ⟨T, xs, rfl, h, fun _ => q _ _ rT, fun _ p hp => q _ _ (rN p hp)⟩
theorem ini_mkK {K : PySem.W.Frag} {C : Addr} {names : List Str} {Q : VK} {ys : List V} {E : XK} {H : Hp} {g : Addr → List V} (hg : ∀ a, g a = .ref a :: ys) (O : Own K C) (hf : ∀ f ∈ names, PySem.W.findIn K (.ref C) f = some none) (hl : ys.length = names.length) (q : ∀ a H', H a = none → Exc H' a C (names.zip ys).reverse → Ext H H' → Q (.ref a) H') :
    ∀ a, H a = none → spIni K C names (g a) (upd H a (exo a C none)) (fun v H2 => v = .non ∧ Q (.ref a) H2) E := fun a ha => by
  rw [hg]
  exact ini_mk O hf hl q a ha
section
variable {K : PySem.W.Frag} {C : Addr} {names : List Str} {Q : VK} {dvs : List V} {H : Hp} {σ : L2.St} {m m' : Nat} {v v' : V}
theorem mkP0 (q : ∀ a H', H a = none → Exc H' a C [] → Ext H H' → Q (.ref a) H') : tMkP C tNil σ H Q := ⟨by simp, mkP_go q⟩
theorem mkP1 (h : σ[m]? = some (some v)) (q : ∀ a H', H a = none → Exc H' a C [] → Ext H H' → Q (.ref a) H') : tMkP C (tCons (tVar m) tNil) σ H Q := g_mkP (g_cons (g_var h (g_nil ⟨by simp, mkP_go q⟩)))
theorem mkI0 (O : Own K C) (hf : ∀ f ∈ names, PySem.W.findIn K (.ref C) f = some none) (hl : ([] ++ dvs).length = names.length) (q : ∀ a H', H a = none → Exc H' a C (names.zip ([] ++ dvs)).reverse → Ext H H' → Q (.ref a) H') : tMkI C (spIni K C names) dvs tNil σ H Q :=
  ⟨by simp, ini_mk (ys := [] ++ dvs) O hf hl q⟩
theorem mkI1 (h : σ[m]? = some (some v)) (O : Own K C) (hf : ∀ f ∈ names, PySem.W.findIn K (.ref C) f = some none) (hl : ([v] ++ dvs).length = names.length) (q : ∀ a H', H a = none → Exc H' a C (names.zip ([v] ++ dvs)).reverse → Ext H H' → Q (.ref a) H') :
    tMkI C (spIni K C names) dvs (tCons (tVar m) tNil) σ H Q := g_mkI (g_cons (g_var h (g_nil ⟨by simp, ini_mk (ys := [v] ++ dvs) O hf hl q⟩)))
theorem mkI2 (h : σ[m]? = some (some v)) (h' : σ[m']? = some (some v')) (O : Own K C) (hf : ∀ f ∈ names, PySem.W.findIn K (.ref C) f = some none) (hl : ([v, v'] ++ dvs).length = names.length) (q : ∀ a H', H a = none → Exc H' a C (names.zip ([v, v'] ++ dvs)).reverse → Ext H H' → Q (.ref a) H') :
    tMkI C (spIni K C names) dvs (tCons (tVar m) (tCons (tVar m') tNil)) σ H Q := g_mkI (g_cons (g_var h (g_cons (g_var h' (g_nil ⟨by simp, ini_mk (ys := [v, v'] ++ dvs) O hf hl q⟩)))))
variable {gV : List V → List V → List V} {ys : List V}
theorem mkK1 (h : σ[m]? = some (some v)) (hg : ∀ a : Addr, gV [.ref a] [v] = .ref a :: ys) (O : Own K C) (hf : ∀ f ∈ names, PySem.W.findIn K (.ref C) f = some none) (hl : ys.length = names.length) (q : ∀ a H', H a = none → Exc H' a C (names.zip ys).reverse → Ext H H' → Q (.ref a) H') :
    tMkK C (spIni K C names) gV (tCons (tVar m) tNil) σ H Q := g_mkK (g_cons (g_var h (g_nil (ini_mkK hg O hf hl q))))
theorem mkK2 (h : σ[m]? = some (some v)) (h' : σ[m']? = some (some v')) (hg : ∀ a : Addr, gV [.ref a] [v, v'] = .ref a :: ys) (O : Own K C) (hf : ∀ f ∈ names, PySem.W.findIn K (.ref C) f = some none) (hl : ys.length = names.length) (q : ∀ a H', H a = none → Exc H' a C (names.zip ys).reverse → Ext H H' → Q (.ref a) H') :
    tMkK C (spIni K C names) gV (tCons (tVar m) (tCons (tVar m') tNil)) σ H Q := g_mkK (g_cons (g_var h (g_cons (g_var h' (g_nil (ini_mkK hg O hf hl q))))))
end
theorem cut_ints (ns : List Int) (lo hi : Option Int) : ∃ ms : List Int, cutV (ns.map V.int) lo hi = ms.map V.int ∧ ms.length ≤ ns.length := by
  refine ⟨((ns.drop (HT.sIx ns.length 0 lo)).take (HT.sIx ns.length ns.length hi - HT.sIx ns.length 0 lo)), ?_, ?_⟩
  · unfold cutV
    rw [List.length_map, List.map_take, List.map_drop]
  · rw [List.length_take, List.length_drop]
    omega
theorem can_ints : ∀ ms : List Int, PyData.canLayAll0 (ms.map .int) = true
  | [] => rfl
  | m :: ms => by
    rw [List.map_cons, PyData.canLayAll0, can_ints ms]
    rfl
theorem dep_ints : ∀ ms : List Int, PyData.depthAll (ms.map .int) = 0
  | [] => rfl
  | m :: ms => by
    rw [List.map_cons, PyData.depthAll, dep_ints ms]
    rfl
theorem dp_ints {K : PySem.W.Frag} {H : Hp} : ∀ ms : List Int, DpAll K H (ms.map V.int) (ms.map .int)
  | [] => .nil
  | m :: ms => .cons (.int m) (dp_ints ms)
theorem sqT_ext {K : PySem.W.Frag} {H H' : Hp} {a : Addr} {xs : List V} (k : Ext H H') (h : SqT K H a xs) : SqT K H' a xs := by
  rcases h with (h | h) | h
  · exact .inl (.inl (k _ _ h))
  · obtain ⟨o, h⟩ := h
    exact .inl (.inr ⟨o, k _ _ h⟩)
  · exact .inr h
def nilB (K : PySem.W.Frag) (a : Addr) : Bool := match K.lookup a with
  | some ⟨.type "tuple", _, .seq its _, _⟩ => its.isEmpty
  | _ => false
theorem nil_ok {K : PySem.W.Frag} {a : Addr} (h : nilB K a = true) (H : Hp) : SqT K H a [] := by
  unfold nilB at h
  split at h
  · rename_i dd its n sl hl
    obtain ⟨l⟩ := its
    cases l with
    | nil => exact .inr ⟨_, #[], n, hl, rfl, rfl, Nat.zero_le _, .nil⟩
    | cons x xs => cases h
  · cases h
theorem vals_take {n : Nat} : ∀ {vs : List V} {us : List Value}, Vals vs us → Vals (vs.take n) (us.take n) := by
  induction n with
  | zero => intro _ _ _; exact .nil
  | succ n ih =>
    intro vs us r
    cases r with
    | nil => exact .nil
    | cons a b => exact .cons a (ih b)
end Ec

/-! t[::-1] of a tuple. -/
namespace Tr
open PySem PySem.Spec PyProof.Rows L2
section
variable {prog : Program} {w : World} {A : Around} {E : Value → Shared → Prop} {s : Shared}
theorem rev_applied {sl : Addr} {vs : Value} {n : Nat} {Q : Int × Int × Nat → Shared → Prop} (hs : s.heap.IsSliceOf sl .none .none vs) (ps : IsPart vs (some (-1)))
    (h : Q ((n : Int) - 1, -1, n) s) : wpAny (model prog w) A (Builtin.Slice.sliceApplied (.ref sl) (pure (n : Int))) Q E s := by
  obtain ⟨os, hos, hcs, hds⟩ := id hs
  unfold Builtin.Slice.sliceApplied Builtin.Slice.sliceFields
  refine wpAny_bind (wpAny_bind (wpAny_field hos hds (x := .none) rfl (wpAny_bind (wpAny_field hos hds (x := .none) rfl (wpAny_bind (wpAny_field hos hds (x := vs) rfl (wpAny_pure ?_)))))))
  refine wpAny_bind (HT.slicePart_ ps ?_)
  show wpAny _ _ (if ((-1 : Int) == 0) = true then _ else _) _ _ s
  rw [if_neg (by decide)]
  refine wpAny_bind (slicePart_none (wpAny_bind (slicePart_none (wpAny_bind (wpAny_pure ?_)))))
  show wpAny _ _ (pure ((n : Int) - 1, (-1 : Int), Builtin.Slice.slicePlaces ((n : Int) - 1) (-1) (-1))) _ _ s
  have e : Builtin.Slice.slicePlaces ((n : Int) - 1) (-1) (-1) = n := by
    unfold Builtin.Slice.slicePlaces
    have h1 : ¬ ((-1 : Int) > 0) := by omega
    simp only [h1, if_false]
    show (if (n : Int) - 1 > -1 then ((n : Int) - 1 - -1 - 1) / 1 + 1 else 0).toNat = n
    rw [Int.ediv_one]
    split <;> omega
  rw [e]
  exact wpAny_pure h
theorem fm_congr {α β : Type} {f g : α → Option β} : ∀ l : List α, (∀ m ∈ l, f m = g m) → l.filterMap f = l.filterMap g
  | [], _ => rfl
  | a :: r, h => by
    rw [List.filterMap_cons, List.filterMap_cons, h a List.mem_cons_self, fm_congr r fun m hm => h m (List.mem_cons_of_mem _ hm)]
theorem rev_pick (xs : Array Value) : ((List.range xs.size).filterMap fun (m : Nat) => xs[(((xs.size : Nat) : Int) - 1 + (m : Int) * -1).toNat]?).toArray = xs.toList.reverse.toArray := by
  congr 1
  have h := PySem.W.krv_all xs.toList.reverse.toArray
  have hs : xs.toList.reverse.toArray.size = xs.size := by rw [List.size_toArray, List.length_reverse, Array.length_toList]
  rw [hs] at h
  have e : xs.toList.reverse = xs.toList.reverse.toArray.toList := rfl
  refine (fm_congr _ fun m hm => ?_).trans (h.trans e.symm)
  have hm := List.mem_range.mp hm
  have e2 : xs.toList.reverse.toArray[m]? = xs.toList.reverse[m]? := List.getElem?_toArray
  rw [e2, show (((xs.size : Nat) : Int) - 1 + (m : Int) * -1).toNat = xs.size - 1 - m by omega, List.getElem?_reverse (by rw [Array.length_toList]; exact hm), Array.length_toList]
  exact Array.getElem?_toList.symm
theorem getItem_tuple_rev {t sl : Addr} {items : Array Value} {vs : Value} {Q : Value → Shared → Prop} (ht : IsTup s.heap t items) (hs : s.heap.IsSliceOf sl .none .none vs) (ps : IsPart vs (some (-1)))
    (h : Q (.ref s.heap.objs.size) { s with heap := s.heap.push { cls := .type "tuple", data := .seq items.toList.reverse.toArray } }) (hsz : items.size ≤ sizeLine) : wpAny (model prog w) A (getItem (.ref t) (.ref sl)) Q E s := by
  have htake : sizeOk (.seq items.toList.reverse.toArray) := by
    show items.toList.reverse.toArray.size ≤ sizeLine
    rw [List.size_toArray, List.length_reverse, Array.length_toList]
    exact hsz
  obtain ⟨os, hos, hcs, hds⟩ := id hs
  have hTs : s.TypeIs (.ref sl) "slice" := ⟨os, hos, hcs⟩
  unfold getItem
  try with_reducible refine wpAny_holding ?_
  first | refine wpAny_bind (wpAny_pure ?_) | skip
  refine wpAny_bind (wpAny_sequenceKey ht.typeIs (by decide) ?_)
  refine wpAny_bind (wpAny_callSpecial?_slot (name := Str.ofString "__getitem__") ht.typeIs PyProof.Rows.slot_tuple_getitem
    (wpAny_call_entry PyProof.Rows.slot_tuple_getitem ht.typeIs PyProof.Rows.entry_tuple_getitem ?_ (PyProof.Rows.args_tuple_getitem _ _)))
  show wpAny _ _ (Builtin.Tuple.tupleItemsOf (.ref t) >>= _) _ _ s
  refine wpAny_bind (tupleItemsOf_ ht ?_)
  refine wpAny_bind (wpAny_typeOf hTs ?_)
  rw [if_pos (by decide)]
  refine wpAny_bind (rev_applied hs ps ?_)
  have hno : ¬ ((((items.size : Nat) : Int) - 1 == 0 && (-1 : Int) == 1 && items.size == items.size) = true) := by
    intro q
    rw [Bool.and_eq_true, Bool.and_eq_true] at q
    exact absurd (eq_of_beq q.1.2) (by decide)
  show wpAny _ _ (if (((items.size : Nat) : Int) - 1 == 0 && (-1 : Int) == 1 && items.size == items.size) = true then _ else _) _ _ s
  rw [if_neg hno, rev_pick]
  first
    | exact wpAny_bind (m := Builtin.Tuple.tupleExact _) (wpAny_newObj_type (wpAny_pure ⟨_, rfl, wpAny_pure h⟩) htake)
    | exact wpAny_bind (m := Builtin.Tuple.tupleExact _) (wpAny_newObj_type (wpAny_bind (wpAny_pure (wpAny_pure ⟨_, rfl, wpAny_pure h⟩))) htake)
    | exact wpAny_bind (wpAny_bind (m := Builtin.Tuple.tupleExact _) (wpAny_newObj_type (wpAny_pure (wpAny_pure ⟨_, rfl, wpAny_pure h⟩)) htake))
    | exact wpAny_bind (wpAny_bind (m := Builtin.Tuple.tupleExact _) (wpAny_newObj_type (wpAny_pure ⟨_, rfl, wpAny_pure h⟩) htake))
end
section
variable {X : Cx}
def tRevT (K : PySem.W.Frag) (te : TE) : TE := fun σ H Q => te σ H fun x H1 => ∃ a xs, x = .ref a ∧ SqT K H1 a xs ∧ ∀ p, H1 p = none → Q (.ref p) (upd H1 p (.tup xs.reverse))
theorem pe_revT {e : Expr} {te : TE} {k : Nat} {p1 p2 p3 pos : Pos} (he : PE X e te) : PE X (.Subscript e (.Slice none none (some (.UnaryOp .USub (.Constant (.int 1) k p1) p2)) p3) pos) (tRevT X.K te) := by
  refine ⟨fun pins s σ H Q I h => ?_⟩
  refine Subscript_ (thn (he.run pins s σ H _ I h) fun v s1 ⟨x, H1, I1, r1, q1⟩ => ?_)
  obtain ⟨a, xs, ex, hx, q⟩ := q1
  subst ex
  cases r1
  have hst : PO X (some (.UnaryOp .USub (.Constant (.int 1) k p1) p2)) (tPart (tUn (rU fun i => .int (-i)) (tC (.int 1)))) := po_some (pe_un un_neg pe_int)
  refine wpAny_Slice (thn (po_none.run pins s1 σ H1 (fun o H2 => o = none ∧ H2 = H1) I1 ⟨rfl, rfl⟩) fun vl s2 ⟨l, H2, I2, pl, el, e2⟩ => ?_)
  subst el e2
  refine thn (po_none.run pins s2 σ H2 (fun o H3 => o = none ∧ H3 = H2) I2 ⟨rfl, rfl⟩) fun vu s3 ⟨u, H3, I3, pu, eu, e3⟩ => ?_
  subst eu e3
  refine thn (hst.run pins s3 σ H3 (fun o H4 => o = some (-1) ∧ H4 = H3) I3 ⟨1, rfl, -1, rfl, rfl, rfl⟩) fun vs s4 ⟨o, H4, I4, ps, eo, e4⟩ => ?_
  subst eo e4
  have I5 : Inv X pins σ H4 { s4 with heap := s4.heap.push { cls := .type "slice", data := .fields #[vl, vu, vs] } } := I4.kept (t' := s4.toks) fun b ob q => Heap.get?_push_of_some _ q
  obtain ⟨its, r, ht, hz⟩ := I5.tuple hx
  have hlen := r.length
  cases pl
  cases pu
  show wpAny (model X.prog X.w) X.A (subscriptTail e (.Slice none none (some (.UnaryOp .USub (.Constant (.int 1) k p1) p2)) p3) (.ref a) (.ref s4.heap.objs.size)) (EP X pins σ Q) X.xe { s4 with heap := s4.heap.push { cls := .type "slice", data := .fields #[.none, .none, vs] } }
  refine tail_any (ops := [.ref a, .ref s4.heap.objs.size]) ht.typeIs (PyProof.Rows.slot_tuple_getitem.lookup) ?_ (by with_unfolding_all rfl)
  refine getItem_tuple_rev ht (Heap.IsSliceOf.new _ _ _ vs) ps ?_ (by rw [List.size_toArray]; omega)
  refine ⟨.ref _, _, I5.laid (t' := s4.toks) (o := .tup xs.reverse) (fun b ob q => Heap.get?_push_of_some _ q) (Nat.le_refl _) ?_, rfl, q _ (I5.hok.fresh (Nat.le_refl _))⟩
  exact ⟨by rw [List.length_reverse]; exact hz, _, r.reverse, IsTup.new _ _⟩
end
theorem g_revT {K : PySem.W.Frag} {te : TE} {σ : L2.St} {H : Hp} {Q : VK} (q : te σ H fun x H1 => ∃ a xs, x = .ref a ∧ SqT K H1 a xs ∧ ∀ p, H1 p = none → Q (.ref p) (upd H1 p (.tup xs.reverse))) : tRevT K te σ H Q := q
end Tr
namespace Tr
open PySem PySem.Spec PyProof.Rows L2
theorem slicePick_rev (its : List Value) : slicePick its.toArray none none (some (-1)) = its.reverse.toArray := by
  have h := rev_pick its.toArray
  rw [List.size_toArray] at h
  have e : its.toArray.toList.reverse = its.reverse := rfl
  rw [e] at h
  rw [← h]
  unfold slicePick
  congr 1
  have hb : sliceBounds none none (some (-1)) its.toArray.size = ((its.length : Int) - 1, -1, -1) := by
    unfold sliceBounds
    simp
  rw [hb]
  show (sliceRange ((its.length : Int) - 1) (-1) (-1)).filterMap (its.toArray[·]?) = _
  have hr : sliceRange ((its.length : Int) - 1) (-1) (-1) = (List.range its.length).map fun (m : Nat) => ((its.length : Int) - 1 + (m : Int) * -1).toNat := by
    unfold sliceRange
    have h1 : ¬ ((-1 : Int) > 0) := by omega
    have hc : (if (its.length : Int) - 1 > -1 then ((its.length : Int) - 1 - -1 - -1 - 1) / (- -1) else 0).toNat = its.length := by
      show (if (its.length : Int) - 1 > -1 then ((its.length : Int) - 1 - -1 - -1 - 1) / 1 else 0).toNat = _
      rw [Int.ediv_one]
      split <;> omega
    simp only [h1, if_false]
    rw [hc]
    exact List.map_congr_left fun m _ => by congr 1; omega
  rw [hr, List.filterMap_map]
  rfl
section
variable {X : Cx}
def tRevL (K : PySem.W.Frag) (te : TE) : TE := fun σ H Q => te σ H fun x H1 => ∃ a xs, x = .ref a ∧ SqL K H1 a xs ∧ ∀ p, H1 p = none → Q (.ref p) (upd H1 p (.lst xs.reverse))
theorem pe_revL {e : Expr} {te : TE} {k : Nat} {p1 p2 p3 pos : Pos} (he : PE X e te) : PE X (.Subscript e (.Slice none none (some (.UnaryOp .USub (.Constant (.int 1) k p1) p2)) p3) pos) (tRevL X.K te) := by
  refine ⟨fun pins s σ H Q I h => ?_⟩
  refine Subscript_ (thn (he.run pins s σ H _ I h) fun v s1 ⟨x, H1, I1, r1, q1⟩ => ?_)
  obtain ⟨a, xs, ex, hx, q⟩ := q1
  subst ex
  cases r1
  have hst : PO X (some (.UnaryOp .USub (.Constant (.int 1) k p1) p2)) (tPart (tUn (rU fun i => .int (-i)) (tC (.int 1)))) := po_some (pe_un un_neg pe_int)
  refine wpAny_Slice (thn (po_none.run pins s1 σ H1 (fun o H2 => o = none ∧ H2 = H1) I1 ⟨rfl, rfl⟩) fun vl s2 ⟨l, H2, I2, pl, el, e2⟩ => ?_)
  subst el e2
  refine thn (po_none.run pins s2 σ H2 (fun o H3 => o = none ∧ H3 = H2) I2 ⟨rfl, rfl⟩) fun vu s3 ⟨u, H3, I3, pu, eu, e3⟩ => ?_
  subst eu e3
  refine thn (hst.run pins s3 σ H3 (fun o H4 => o = some (-1) ∧ H4 = H3) I3 ⟨1, rfl, -1, rfl, rfl, rfl⟩) fun vs s4 ⟨o, H4, I4, ps, eo, e4⟩ => ?_
  subst eo e4
  have I5 : Inv X pins σ H4 { s4 with heap := s4.heap.push { cls := .type "slice", data := .fields #[vl, vu, vs] } } := I4.kept (t' := s4.toks) fun b ob q => Heap.get?_push_of_some _ q
  obtain ⟨its, r, ht, hz⟩ := I5.list hx
  have hlen := r.length
  cases pl
  cases pu
  show wpAny (model X.prog X.w) X.A (subscriptTail e (.Slice none none (some (.UnaryOp .USub (.Constant (.int 1) k p1) p2)) p3) (.ref a) (.ref s4.heap.objs.size)) (EP X pins σ Q) X.xe { s4 with heap := s4.heap.push { cls := .type "slice", data := .fields #[.none, .none, vs] } }
  refine tail_any (ops := [.ref a, .ref s4.heap.objs.size]) ht.isList.typeIs slot_list_getitem.lookup ?_ (by with_unfolding_all rfl)
  refine wpAny_getItem_list_slice ht.isList (Heap.IsSliceOf.new _ _ _ vs) .none .none ps (by simp) ?_ (by rw [List.size_toArray] <;> omega)
  rw [slicePick_rev]
  refine ⟨.ref _, _, I5.laid (t' := s4.toks) (o := .lst xs.reverse) (fun b ob q => Heap.get?_push_of_some _ q) (Nat.le_refl _) ?_, rfl, q _ (I5.hok.fresh (Nat.le_refl _))⟩
  exact ⟨by rw [List.length_reverse]; exact hz, _, 0, r.reverse, Heap.get?_push_size _ rfl⟩
end
theorem g_revL {K : PySem.W.Frag} {te : TE} {σ : L2.St} {H : Hp} {Q : VK} (q : te σ H fun x H1 => ∃ a xs, x = .ref a ∧ SqL K H1 a xs ∧ ∀ p, H1 p = none → Q (.ref p) (upd H1 p (.lst xs.reverse))) : tRevL K te σ H Q := q
end Tr

/-! enumerate(zip(t1, t2)) over two tuples. -/
namespace Ez
open PySem PySem.Spec PyProof.Rows L2 Lw
/-- a zip by what stands in it: the tuple that is out, whether that is known -/
abbrev ZipF (h : Heap) (z TI TO : Addr) (own : Value) (f : Bool) : Prop :=
  h.get? z = some { cls := .type "zip", dict := none, data := .fields #[own, .bool f, .bool false, .ref TI, .ref TO], slots := #[] }
def Own (v : Value) : Prop := v = .none ∨ ∃ T : Addr, v = rawInt T
section
variable {prog : Program} {w : World} {A : Around} {E : Value → Shared → Prop} {s : Shared}
theorem dead {a : Addr} {Q : Option Obj → Shared → Prop} (ho : s.heap.get? a = none) (h : Q none s) : wpAny (model prog w) A (loadIfAlive a) Q E s := by
  have h' : Q (s.heap.get? a) s := by rw [ho]; exact h
  exact fun _ _ _ => h'
theorem alive {a : Addr} {o : Obj} {Q : Option Obj → Shared → Prop} (ho : s.heap.get? a = some o) (h : Q (some o) s) : wpAny (model prog w) A (loadIfAlive a) Q E s := by
  have h' : Q (s.heap.get? a) s := by rw [ho]; exact h
  exact fun _ _ _ => h'
theorem free_any {z TI TO : Addr} {own : Value} {f : Bool} {Q : Bool → Shared → Prop} (hz : ZipF s.heap z TI TO own f) (ho : Own own) (h1 : Q true s)
    (h2 : ∀ h', ZipF h' z TI TO own true → Heap.SameBut z s.heap h' → Q false { s with heap := h' }) : wpAny (model prog w) A (Builtin.SmallTypes.ownedTupleIsFree (.ref z)) Q E s := by
  unfold Builtin.SmallTypes.ownedTupleIsFree
  rcases ho with rfl | ⟨T, rfl⟩
  · exact wpAny_bind (wpAny_field hz rfl (x := .none) rfl (wpAny_pure h1))
  · refine wpAny_bind (wpAny_field hz rfl (x := rawInt T) rfl ?_)
    show wpAny _ _ (loadIfAlive ((T : Int).toNat) >>= _) _ _ _
    rw [Int.toNat_natCast]
    cases hT : s.heap.get? T with
    | none =>
      refine wpAny_bind (dead hT ?_)
      simp only [Option.isNone_none, if_true]
      exact wpAny_pure h1
    | some o =>
      refine wpAny_bind (alive hT ?_)
      simp only [Option.isNone_some, Bool.false_eq_true, if_false]
      refine wpAny_bind (wpAny_field hz rfl (x := .bool f) rfl ?_)
      cases f with
      | true =>
        rw [if_neg (show ¬ ((Value.bool true != Value.bool true) = true) from Bool.false_ne_true)]
        exact wpAny_pure (h2 s.heap hz (Heap.SameBut.refl _ _))
      | false =>
        rw [if_pos (show (Value.bool false != Value.bool true) = true from rfl)]
        exact wpAny_bind (wpAny_setField_rec hz (by simp) fun h₁ hz₁ hs₁ => wpAny_pure (h2 h₁ hz₁ hs₁))

theorem zip_next {z TI TO i1 i2 l1 l2 : Addr} {own : Value} {f : Bool} {k1 k2 : Nat} {xs ys : Array Value} {x y a b : Value} {Q : Value → Shared → Prop} (D : ZipApart z TI TO i1 i2 l1 l2)
    (hz : ZipF s.heap z TI TO own f) (ho : Own own) (hTI : IsPair s.heap TI (.ref i1) (.ref i2)) (hTO : IsPair s.heap TO a b)
    (h1 : s.heap.IsTupleIter i1 l1 k1) (h2 : s.heap.IsTupleIter i2 l2 k2) (hl1 : s.heap.IsTuple l1 xs) (hl2 : s.heap.IsTuple l2 ys) (hx : xs[k1]? = some x) (hy : ys[k2]? = some y)
    (hQ : ∀ h' own' f' a' b', ZipF h' z TI TO own' f' → Own own' → IsPair h' TO a' b' → h'.IsTupleIter i1 l1 (k1 + 1) → h'.IsTupleIter i2 l2 (k2 + 1) → IsPair h' s.heap.objs.size x y → h'.objs.size = s.heap.objs.size + 1 →
      (∀ c o, c ≠ z → c ≠ TO → c ≠ i1 → c ≠ i2 → s.heap.get? c = some o → h'.get? c = some o) → Q (.ref s.heap.objs.size) { s with heap := h' }) :
    wpAny (model prog w) A (Builtin.«zip.__next__» ⟨[.ref z], []⟩) (fun fin s' => ∃ v, fin = .done (.ret v) ∧ Q v s') E s := by
  show wpAny _ _ (field (.ref z) 2 >>= _) _ _ _
  refine wpAny_bind (wpAny_field hz rfl (x := .bool false) rfl ?_)
  show wpAny _ _ (field (.ref z) 3 >>= _) _ _ _
  refine wpAny_bind (wpAny_field hz rfl (x := .ref TI) rfl ?_)
  refine wpAny_bind (wpAny_seqItems hTI rfl ?_)
  show wpAny _ _ (Builtin.SmallTypes.ownedTupleIsFree (.ref z) >>= _) _ _ _
  refine wpAny_bind (free_any hz ho ?_ fun h₁ hz₁ hs₁ => ?_)
  · simp only [if_true]
    refine wpAny_bind (wpAny_rule ?_)
    refine wpAny_bind (wpAny_field hz rfl (x := .ref TO) rfl ?_)
    refine wpAny_bind (wpAny_setField_rec hz (by simp) fun h₁ hz₁ hs₁ => ?_)
    replace hz₁ : ZipF h₁ z TI TO .ellipsis f := hz₁
    refine wpAny_bind ?_
    simp only [List.zipIdx_cons, List.zipIdx_nil, List.forIn_cons, List.forIn_nil]
    refine wpAny_bind (wpAny_bind (wpAny_onRaise ?_))
    show wpAny _ _ (Builtin.SmallTypes.nextOf (.ref i1) >>= _) _ _ _
    refine wpAny_bind (RZ.nextOf_tuple_item (h1.extBut hs₁.extBut D.i1z) (hl1.extBut hs₁.extBut D.l1z) hx fun h₂ h1₂ hs₂ => wpAny_pure ?_)
    have hTO₂ : IsPair h₂ TO a b := hs₂.extBut _ _ D.TOi1 (hs₁.extBut _ _ D.TOz hTO)
    refine wpAny_bind (wpAny_seqItems hTO₂ rfl ?_)
    refine wpAny_bind (wpAny_updateSeq_pair hTO₂ fun h₃ hTO₃ hs₃ => ?_)
    replace hTO₃ : IsPair h₃ TO x b := hTO₃
    refine wpAny_bind (wpAny_letGo (wpAny_pure ?_))
    refine wpAny_bind (wpAny_bind (wpAny_onRaise ?_))
    show wpAny _ _ (Builtin.SmallTypes.nextOf (.ref i2) >>= _) _ _ _
    refine wpAny_bind (RZ.nextOf_tuple_item (((h2.extBut hs₁.extBut D.i2z).extBut hs₂.extBut D.i12.symm).extBut hs₃.extBut D.TOi2.symm)
      (((hl2.extBut hs₁.extBut D.l2z).extBut hs₂.extBut D.l2i1).extBut hs₃.extBut D.l2TO) hy fun h₄ h2₄ hs₄ => wpAny_pure ?_)
    have hTO₄ : IsPair h₄ TO x b := hs₄.extBut _ _ D.TOi2 hTO₃
    refine wpAny_bind (wpAny_seqItems hTO₄ rfl ?_)
    refine wpAny_bind (wpAny_updateSeq_pair hTO₄ fun h₅ hTO₅ hs₅ => ?_)
    replace hTO₅ : IsPair h₅ TO x y := hTO₅
    refine wpAny_bind (wpAny_letGo (wpAny_pure (wpAny_pure ?_)))
    refine wpAny_bind (wpAny_seqItems hTO₅ rfl ?_)
    refine wpAny_bind (wpAny_newTuple ?_)
    have hsz : h₅.objs.size = s.heap.objs.size := by rw [hs₅.1, hs₄.1, hs₃.1, hs₂.1, hs₁.1]
    have hz₅ : ZipF h₅ z TI TO .ellipsis f := hs₅.extBut _ _ D.TOz.symm (hs₄.extBut _ _ D.i2z.symm (hs₃.extBut _ _ D.TOz.symm (hs₂.extBut _ _ D.i1z.symm hz₁)))
    have hk₅ : ∀ c o, c ≠ z → c ≠ TO → c ≠ i1 → c ≠ i2 → s.heap.get? c = some o → h₅.get? c = some o := fun c o c1 c2 c3 c4 e =>
      hs₅.extBut _ _ c2 (hs₄.extBut _ _ c4 (hs₃.extBut _ _ c2 (hs₂.extBut _ _ c3 (hs₁.extBut _ _ c1 e))))
    have h1₅ : h₅.IsTupleIter i1 l1 (k1 + 1) := ((h1₂.extBut hs₃.extBut D.TOi1.symm).extBut hs₄.extBut D.i12).extBut hs₅.extBut D.TOi1.symm
    have h2₅ : h₅.IsTupleIter i2 l2 (k2 + 1) := h2₄.extBut hs₅.extBut D.TOi2.symm
    have hzlt : z < h₅.objs.size := Heap.lt_size hz₅
    show wpAny _ _ (Builtin.SmallTypes.ownedTupleHandOut (.ref z) (.ref h₅.objs.size) >>= _) _ _ _
    refine wpAny_bind ?_
    unfold Builtin.SmallTypes.ownedTupleHandOut
    have hz₆ : ZipF (h₅.push { cls := .type "tuple", data := .seq #[x, y] }) z TI TO .ellipsis f := Heap.get?_push_of_some _ hz₅
    refine wpAny_bind (wpAny_setField_rec hz₆ (by simp) fun h₇ hz₇ hs₇ => ?_)
    replace hz₇ : ZipF h₇ z TI TO (rawInt h₅.objs.size) f := hz₇
    refine wpAny_setField_rec hz₇ (by simp) fun h₈ hz₈ hs₈ => ?_
    replace hz₈ : ZipF h₈ z TI TO (rawInt h₅.objs.size) false := hz₈
    have up : ∀ c o, c ≠ z → h₅.get? c = some o → h₈.get? c = some o := fun c o c1 e => hs₈.extBut _ _ c1 (hs₇.extBut _ _ c1 (Heap.get?_push_of_some _ e))
    have hT₈ : IsPair h₈ h₅.objs.size x y := hs₈.extBut _ _ (Nat.ne_of_gt hzlt) (hs₇.extBut _ _ (Nat.ne_of_gt hzlt) (Heap.get?_push_size _ rfl))
    have hz8 : h₈.objs.size = h₅.objs.size + 1 := by rw [hs₈.1, hs₇.1, Heap.size_push]
    rw [hsz] at hz₈ hT₈ hz8
    refine wpAny_pure ⟨_, rfl, ?_⟩
    show Q (.ref h₅.objs.size) _
    rw [hsz]
    exact hQ h₈ _ _ _ _ hz₈ (.inr ⟨_, rfl⟩) (up _ _ D.TOz hTO₅) (h1₅.at fun o e => up _ o D.i1z e) (h2₅.at fun o e => up _ o D.i2z e) hT₈ hz8 fun c o c1 c2 c3 c4 e => up c o c1 (hk₅ c o c1 c2 c3 c4 e)
  · simp only [Bool.false_eq_true, if_false]
    refine wpAny_bind ?_
    rw [← Array.forIn_toList]
    simp only [List.forIn_cons, List.forIn_nil]
    refine wpAny_bind (wpAny_bind (wpAny_holding ?_))
    show wpAny _ _ (Builtin.SmallTypes.nextOf (.ref i1) >>= _) _ _ _
    refine wpAny_bind (RZ.nextOf_tuple_item (s := { s with heap := h₁ }) (h1.extBut hs₁.extBut D.i1z) (hl1.extBut hs₁.extBut D.l1z) hx fun h₂ h1₂ hs₂ => wpAny_pure ?_)
    refine wpAny_pure ?_
    refine wpAny_bind (wpAny_bind (wpAny_holding ?_))
    show wpAny _ _ (Builtin.SmallTypes.nextOf (.ref i2) >>= _) _ _ _
    refine wpAny_bind (RZ.nextOf_tuple_item (s := { s with heap := h₂ }) ((h2.extBut hs₁.extBut D.i2z).extBut hs₂.extBut D.i12.symm) ((hl2.extBut hs₁.extBut D.l2z).extBut hs₂.extBut D.l2i1) hy fun h₃ h2₃ hs₃ => wpAny_pure ?_)
    refine wpAny_pure (wpAny_pure ?_)
    show wpAny _ _ (newTuple [x, y] >>= _) _ _ _
    refine wpAny_bind (wpAny_newTuple ?_)
    have hsz : h₃.objs.size = s.heap.objs.size := by rw [hs₃.1, hs₂.1, hs₁.1]
    have hz₃ : ZipF h₃ z TI TO own true := hs₃.extBut _ _ D.i2z.symm (hs₂.extBut _ _ D.i1z.symm hz₁)
    have hk : ∀ c o, c ≠ z → c ≠ i1 → c ≠ i2 → s.heap.get? c = some o → h₃.get? c = some o := fun c o c1 c2 c3 e => hs₃.extBut _ _ c3 (hs₂.extBut _ _ c2 (hs₁.extBut _ _ c1 e))
    have h1₃ : h₃.IsTupleIter i1 l1 (k1 + 1) := h1₂.extBut hs₃.extBut D.i12
    refine wpAny_pure ⟨_, rfl, ?_⟩
    show Q (.ref h₃.objs.size) _
    have hp : IsPair (h₃.push { cls := .type "tuple", data := .seq #[x, y] }) h₃.objs.size x y := Heap.get?_push_size _ rfl
    have hz4 : (h₃.push { cls := .type "tuple", data := .seq #[x, y] }).objs.size = h₃.objs.size + 1 := Heap.size_push ..
    rw [hsz] at hp hz4 ⊢
    exact hQ _ _ _ _ _ (Heap.get?_push_of_some _ hz₃) ho (Heap.get?_push_of_some _ (hk _ _ D.TOz D.TOi1 D.TOi2 hTO)) (h1₃.at fun o e => Heap.get?_push_of_some _ e) (h2₃.at fun o e => Heap.get?_push_of_some _ e) hp hz4
      fun c o c1 _ c2 c3 e => Heap.get?_push_of_some _ (hk c o c1 c2 c3 e)

theorem zip_end {z TI TO i1 i2 l1 l2 : Addr} {own : Value} {f : Bool} {k1 k2 : Nat} {xs ys : Array Value} {a b : Value} {Q : Fin → Shared → Prop} (hh : A.handled = none) (D : ZipApart z TI TO i1 i2 l1 l2)
    (hz : ZipF s.heap z TI TO own f) (ho : Own own) (hTI : IsPair s.heap TI (.ref i1) (.ref i2)) (hTO : IsPair s.heap TO a b)
    (h1 : s.heap.IsTupleIter i1 l1 k1) (h2 : s.heap.IsTupleIter i2 l2 k2) (hl1 : s.heap.IsTuple l1 xs) (hl2 : s.heap.IsTuple l2 ys) (hend : xs[k1]? = none ∨ ys[k2]? = none)
    (hE : ∀ h' e, (∀ c o, c ≠ z → c ≠ TO → c ≠ i1 → c ≠ i2 → s.heap.get? c = some o → h'.get? c = some o) → (∃ o, h'.get? e = some o ∧ o.cls = .type "StopIteration") → E (.ref e) { s with heap := h' }) :
    wpAny (model prog w) A (Builtin.«zip.__next__» ⟨[.ref z], []⟩) Q E s := by
  show wpAny _ _ (field (.ref z) 2 >>= _) _ _ _
  refine wpAny_bind (wpAny_field hz rfl (x := .bool false) rfl ?_)
  show wpAny _ _ (field (.ref z) 3 >>= _) _ _ _
  refine wpAny_bind (wpAny_field hz rfl (x := .ref TI) rfl ?_)
  refine wpAny_bind (wpAny_seqItems hTI rfl ?_)
  show wpAny _ _ (Builtin.SmallTypes.ownedTupleIsFree (.ref z) >>= _) _ _ _
  refine wpAny_bind (free_any hz ho ?_ fun h₁ hz₁ hs₁ => ?_)
  · simp only [if_true]
    refine wpAny_bind (wpAny_rule ?_)
    refine wpAny_bind (wpAny_field hz rfl (x := .ref TO) rfl ?_)
    refine wpAny_bind (wpAny_setField_rec hz (by simp) fun h₁ hz₁ hs₁ => ?_)
    replace hz₁ : ZipF h₁ z TI TO .ellipsis f := hz₁
    refine wpAny_bind ?_
    simp only [List.zipIdx_cons, List.zipIdx_nil, List.forIn_cons, List.forIn_nil]
    refine wpAny_bind (wpAny_bind (wpAny_onRaise ?_))
    show wpAny _ _ (Builtin.SmallTypes.nextOf (.ref i1) >>= _) _ _ _
    cases hx : xs[k1]? with
    | none =>
      refine wpAny_bind (RZ.nextOf_tuple_end hh (h1.extBut hs₁.extBut D.i1z) (hl1.extBut hs₁.extBut D.l1z) hx fun h₂ e hs₂ he => ?_)
      obtain ⟨oe, hoe, hce⟩ := he
      have hz₂ : ZipF h₂ z TI TO .ellipsis f := hs₂ _ _ D.i1z.symm hz₁
      have hez : e ≠ z := fun x => by subst x; rw [hz₂] at hoe; cases hoe; simp at hce
      refine wpAny_setField_rec hz₂ (by simp) fun h₃ _ hs₃ => hE h₃ e (fun c o c1 _ c3 _ x => hs₃.extBut _ _ c1 (hs₂ _ _ c3 (hs₁.extBut _ _ c1 x))) ⟨oe, hs₃.extBut _ _ hez hoe, hce⟩
    | some x =>
      have hy : ys[k2]? = none := by rcases hend with h | h; rw [hx] at h; cases h; exact h
      refine wpAny_bind (RZ.nextOf_tuple_item (h1.extBut hs₁.extBut D.i1z) (hl1.extBut hs₁.extBut D.l1z) hx fun h₂ h1₂ hs₂ => wpAny_pure ?_)
      have hTO₂ : IsPair h₂ TO a b := hs₂.extBut _ _ D.TOi1 (hs₁.extBut _ _ D.TOz hTO)
      refine wpAny_bind (wpAny_seqItems hTO₂ rfl ?_)
      refine wpAny_bind (wpAny_updateSeq_pair hTO₂ fun h₃ hTO₃ hs₃ => ?_)
      refine wpAny_bind (wpAny_letGo (wpAny_pure ?_))
      refine wpAny_bind (wpAny_bind (wpAny_onRaise ?_))
      show wpAny _ _ (Builtin.SmallTypes.nextOf (.ref i2) >>= _) _ _ _
      refine wpAny_bind (RZ.nextOf_tuple_end hh (((h2.extBut hs₁.extBut D.i2z).extBut hs₂.extBut D.i12.symm).extBut hs₃.extBut D.TOi2.symm)
        (((hl2.extBut hs₁.extBut D.l2z).extBut hs₂.extBut D.l2i1).extBut hs₃.extBut D.l2TO) hy fun h₄ e hs₄ he => ?_)
      obtain ⟨oe, hoe, hce⟩ := he
      have hz₄ : ZipF h₄ z TI TO .ellipsis f := hs₄ _ _ D.i2z.symm (hs₃.extBut _ _ D.TOz.symm (hs₂.extBut _ _ D.i1z.symm hz₁))
      have hez : e ≠ z := fun x => by subst x; rw [hz₄] at hoe; cases hoe; simp at hce
      refine wpAny_setField_rec hz₄ (by simp) fun h₅ _ hs₅ => hE h₅ e (fun c o c1 c2 c3 c4 x => hs₅.extBut _ _ c1 (hs₄ _ _ c4 (hs₃.extBut _ _ c2 (hs₂.extBut _ _ c3 (hs₁.extBut _ _ c1 x))))) ⟨oe, hs₅.extBut _ _ hez hoe, hce⟩
  · simp only [Bool.false_eq_true, if_false]
    refine wpAny_bind ?_
    rw [← Array.forIn_toList]
    simp only [List.forIn_cons, List.forIn_nil]
    refine wpAny_bind (wpAny_bind (wpAny_holding ?_))
    show wpAny _ _ (Builtin.SmallTypes.nextOf (.ref i1) >>= _) _ _ _
    cases hx : xs[k1]? with
    | none =>
      refine wpAny_bind (RZ.nextOf_tuple_end (s := { s with heap := h₁ }) hh (h1.extBut hs₁.extBut D.i1z) (hl1.extBut hs₁.extBut D.l1z) hx fun h₂ e hs₂ he => ?_)
      exact hE h₂ e (fun c o c1 _ c2 _ x => hs₂ _ _ c2 (hs₁.extBut _ _ c1 x)) he
    | some x =>
      have hy : ys[k2]? = none := by rcases hend with h | h; rw [hx] at h; cases h; exact h
      refine wpAny_bind (RZ.nextOf_tuple_item (s := { s with heap := h₁ }) (h1.extBut hs₁.extBut D.i1z) (hl1.extBut hs₁.extBut D.l1z) hx fun h₂ h1₂ hs₂ => wpAny_pure ?_)
      refine wpAny_pure ?_
      refine wpAny_bind (wpAny_bind (wpAny_holding ?_))
      show wpAny _ _ (Builtin.SmallTypes.nextOf (.ref i2) >>= _) _ _ _
      refine wpAny_bind (RZ.nextOf_tuple_end (s := { s with heap := h₂ }) hh ((h2.extBut hs₁.extBut D.i2z).extBut hs₂.extBut D.i12.symm) ((hl2.extBut hs₁.extBut D.l2z).extBut hs₂.extBut D.l2i1) hy fun h₃ e hs₃ he => ?_)
      exact hE h₃ e (fun c o c1 _ c2 c3 x => hs₃ _ _ c3 (hs₂.extBut _ _ c2 (hs₁.extBut _ _ c1 x))) he

/-- the same as a step of another iterator -/
theorem nextOf_zip {z TI TO i1 i2 l1 l2 : Addr} {own : Value} {f : Bool} {k1 k2 : Nat} {xs ys : Array Value} {x y a b : Value} {Q : Value → Shared → Prop} (D : ZipApart z TI TO i1 i2 l1 l2)
    (hz : ZipF s.heap z TI TO own f) (ho : Own own) (hTI : IsPair s.heap TI (.ref i1) (.ref i2)) (hTO : IsPair s.heap TO a b)
    (h1 : s.heap.IsTupleIter i1 l1 k1) (h2 : s.heap.IsTupleIter i2 l2 k2) (hl1 : s.heap.IsTuple l1 xs) (hl2 : s.heap.IsTuple l2 ys) (hx : xs[k1]? = some x) (hy : ys[k2]? = some y)
    (hQ : ∀ h' own' f' a' b', ZipF h' z TI TO own' f' → Own own' → IsPair h' TO a' b' → h'.IsTupleIter i1 l1 (k1 + 1) → h'.IsTupleIter i2 l2 (k2 + 1) → IsPair h' s.heap.objs.size x y → h'.objs.size = s.heap.objs.size + 1 →
      (∀ c o, c ≠ z → c ≠ TO → c ≠ i1 → c ≠ i2 → s.heap.get? c = some o → h'.get? c = some o) → Q (.ref s.heap.objs.size) { s with heap := h' }) :
    wpAny (model prog w) A (Builtin.SmallTypes.nextOf (.ref z)) Q E s := by
  have hT : s.TypeIs (.ref z) "zip" := ⟨_, hz, rfl⟩
  unfold Builtin.SmallTypes.nextOf
  exact wpAny_bind (wpAny_callSpecial?_slot (name := Str.ofString "__next__") hT F.slot_zip_next
    (wpAny_call_entry F.slot_zip_next hT F.entry_zip_next
      (zip_next D hz ho hTI hTO h1 h2 hl1 hl2 hx hy fun h' own' f' a' b' a1 a2 a3 a4 a5 a6 a7 a8 => wpAny_pure (hQ h' own' f' a' b' a1 a2 a3 a4 a5 a6 a7 a8)) (F.args_zip_next_1 _)))
theorem nextOf_zip_end {z TI TO i1 i2 l1 l2 : Addr} {own : Value} {f : Bool} {k1 k2 : Nat} {xs ys : Array Value} {a b : Value} {Q : Value → Shared → Prop} (hh : A.handled = none) (D : ZipApart z TI TO i1 i2 l1 l2)
    (hz : ZipF s.heap z TI TO own f) (ho : Own own) (hTI : IsPair s.heap TI (.ref i1) (.ref i2)) (hTO : IsPair s.heap TO a b)
    (h1 : s.heap.IsTupleIter i1 l1 k1) (h2 : s.heap.IsTupleIter i2 l2 k2) (hl1 : s.heap.IsTuple l1 xs) (hl2 : s.heap.IsTuple l2 ys) (hend : xs[k1]? = none ∨ ys[k2]? = none)
    (hE : ∀ h' e, (∀ c o, c ≠ z → c ≠ TO → c ≠ i1 → c ≠ i2 → s.heap.get? c = some o → h'.get? c = some o) → (∃ o, h'.get? e = some o ∧ o.cls = .type "StopIteration") → E (.ref e) { s with heap := h' }) :
    wpAny (model prog w) A (Builtin.SmallTypes.nextOf (.ref z)) Q E s := by
  have hT : s.TypeIs (.ref z) "zip" := ⟨_, hz, rfl⟩
  unfold Builtin.SmallTypes.nextOf
  exact wpAny_bind (wpAny_callSpecial?_slot (name := Str.ofString "__next__") hT F.slot_zip_next
    (wpAny_call_entry F.slot_zip_next hT F.entry_zip_next (zip_end hh D hz ho hTI hTO h1 h2 hl1 hl2 hend hE) (F.args_zip_next_1 _)))
/-- enumerate over an iterator whose own step makes new objects -/
theorem enum_next {e it : Addr} {c : Int} {old : Value} {St : Value → Heap → Prop} {Q : Value → Shared → Prop} (he : IsEnum s.heap e it c old)
    (nx : ∀ Q' : Value → Shared → Prop, (∀ p h1, St p h1 → h1.get? e = s.heap.get? e → Q' p { s with heap := h1 }) → wpAny (model prog w) A (Builtin.SmallTypes.nextOf (.ref it)) Q' E s)
    (hQ : ∀ p h1 h', St p h1 → IsEnumOut h' e it (c + 1) p h1.objs.size → h'.get? h1.objs.size = some { cls := .type "tuple", data := .seq #[.int c s.toks, p] } → h'.objs.size = h1.objs.size + 1 →
      (∀ b o, b ≠ e → h1.get? b = some o → h'.get? b = some o) → Q (.ref h1.objs.size) { s with heap := h', toks := s.toks + 1 }) :
    wpAny (model prog w) A (Builtin.«enumerate.__next__» ⟨[.ref e], []⟩) (fun fin s' => ∃ v, fin = .done (.ret v) ∧ Q v s') E s := by
  obtain ⟨hp, g, d, tk, os⟩ := s
  show wpAny _ _ (field (.ref e) 2 >>= _) _ _ _
  refine wpAny_bind (wpAny_field he rfl (x := .ref it) rfl ?_)
  refine wpAny_bind (nx _ fun p h₁ hst hsm => ?_)
  have he₁ : IsEnum h₁ e it c old := hsm.trans he
  show wpAny _ _ (field (.ref e) 3 >>= _) _ _ ⟨h₁, g, d, tk, os⟩
  refine wpAny_bind (wpAny_field he₁ rfl (x := rawInt c) rfl ?_)
  show wpAny _ _ (field (.ref e) 4 >>= _) _ _ ⟨h₁, g, d, tk, os⟩
  refine wpAny_bind (wpAny_field he₁ rfl (x := .none) rfl ?_)
  show wpAny _ _ (mkInt c >>= _) _ _ ⟨h₁, g, d, tk, os⟩
  refine wpAny_bind (wpAny_mkInt ?_)
  show wpAny _ _ (setField (.ref e) 3 (rawInt (c + 1)) >>= _) _ _ ⟨h₁, g, d, tk + 1, os⟩
  refine wpAny_bind (wpAny_setField_rec he₁ (by simp) fun h₂ he₂ hs₂ => ?_)
  replace hs₂ : Heap.SameBut e h₁ h₂ := hs₂
  replace he₂ : IsEnum h₂ e it (c + 1) old := he₂
  show wpAny _ _ (setField (.ref e) 4 .none >>= _) _ _ ⟨h₂, g, d, tk + 1, os⟩
  refine wpAny_bind (wpAny_setField_rec he₂ (by simp) fun h₃ he₃ hs₃ => ?_)
  replace hs₃ : Heap.SameBut e h₂ h₃ := hs₃
  replace he₃ : IsEnum h₃ e it (c + 1) old := he₃
  show wpAny _ _ (newTuple [.int c tk, p] >>= _) _ _ ⟨h₃, g, d, tk + 1, os⟩
  refine wpAny_bind (wpAny_newTuple ?_)
  have he₄ : IsEnum (h₃.push { cls := .type "tuple", data := .seq #[.int c tk, p] }) e it (c + 1) old := Heap.get?_push_of_some _ he₃
  generalize hh₄ : h₃.push { cls := .type "tuple", data := .seq #[.int c tk, p] } = h₄ at he₄
  have hsz : h₃.objs.size = h₁.objs.size := by rw [hs₃.1, hs₂.1]
  have hel : e < h₁.objs.size := Heap.lt_size he₁
  have ht₄ : h₄.get? h₁.objs.size = some { cls := .type "tuple", data := .seq #[.int c tk, p] } := by rw [← hh₄, ← hsz]; exact Heap.get?_push_size _ rfl
  have hz₄ : h₄.objs.size = h₁.objs.size + 1 := by rw [← hh₄, Heap.size_push, hsz]
  have hk₄ : ∀ b o, b ≠ e → h₁.get? b = some o → h₄.get? b = some o := fun b o hbe hb => by
    rw [← hh₄]; exact Heap.get?_push_of_some _ (hs₃.extBut b o hbe (hs₂.extBut b o hbe hb))
  show wpAny _ _ (Builtin.SmallTypes.ownedTupleIsFree (.ref e) >>= _) _ _ ⟨h₄, g, d, tk + 1, os⟩
  rw [hsz]
  clear hh₄ he₃ hs₃ he₂ hs₂ he₁ hsz h₃ h₂
  refine wpAny_bind ?_
  · unfold Builtin.SmallTypes.ownedTupleIsFree
    refine wpAny_bind (wpAny_field he₄ rfl (x := .none) rfl (wpAny_pure ?_))
    simp only [if_true]
    refine wpAny_bind (wpAny_rule ?_)
    refine wpAny_bind (wpAny_field he₄ rfl (x := old) rfl ?_)
    refine wpAny_bind (wpAny_setField_rec he₄ (by simp) fun h₅ he₅ hs₅ => ?_)
    replace hs₅ : Heap.SameBut e h₄ h₅ := hs₅
    replace he₅ : IsEnum h₅ e it (c + 1) p := he₅
    show wpAny _ _ (Builtin.SmallTypes.ownedTupleHandOut (.ref e) (.ref h₁.objs.size) >>= _) _ _ ⟨h₅, g, d, tk + 1, os⟩
    refine wpAny_bind ?_
    · unfold Builtin.SmallTypes.ownedTupleHandOut
      refine wpAny_bind (wpAny_setField_rec he₅ (by simp) fun h₆ he₆ hs₆ => ?_)
      replace hs₆ : Heap.SameBut e h₅ h₆ := hs₆
      replace he₆ : IsEnumOut h₆ e it (c + 1) p h₁.objs.size := he₆
      refine wpAny_setField_rec he₆ (by simp) fun h₇ he₇ hs₇ => ?_
      replace hs₇ : Heap.SameBut e h₆ h₇ := hs₇
      replace he₇ : IsEnumOut h₇ e it (c + 1) p h₁.objs.size := he₇
      refine wpAny_bind (wpAny_letGo (wpAny_pure ⟨_, rfl, hQ p h₁ h₇ hst he₇ ?_ ?_ ?_⟩))
      · exact hs₇.extBut _ _ (Nat.ne_of_gt hel) (hs₆.extBut _ _ (Nat.ne_of_gt hel) (hs₅.extBut _ _ (Nat.ne_of_gt hel) ht₄))
      · rw [hs₇.1, hs₆.1, hs₅.1, hz₄]
      · exact fun b o hbe hb => hs₇.extBut b o hbe (hs₆.extBut b o hbe (hs₅.extBut b o hbe (hk₄ b o hbe hb)))
theorem pyNext_enum {e it : Addr} {c : Int} {old : Value} {St : Value → Heap → Prop} {Q : Option Value → Shared → Prop} (he : IsEnum s.heap e it c old)
    (nx : ∀ (E' : Value → Shared → Prop) (Q' : Value → Shared → Prop), (∀ p h1, St p h1 → h1.get? e = s.heap.get? e → Q' p { s with heap := h1 }) → wpAny (model prog w) A.in1 (Builtin.SmallTypes.nextOf (.ref it)) Q' E' s)
    (hQ : ∀ p h1 h', St p h1 → IsEnumOut h' e it (c + 1) p h1.objs.size → h'.get? h1.objs.size = some { cls := .type "tuple", data := .seq #[.int c s.toks, p] } → h'.objs.size = h1.objs.size + 1 →
      (∀ b o, b ≠ e → h1.get? b = some o → h'.get? b = some o) → Q (some (.ref h1.objs.size)) { s with heap := h', toks := s.toks + 1 }) :
    wpAny (model prog w) A (pyNext (.ref e)) Q E s := by
  have hT : s.TypeIs (.ref e) "enumerate" := ⟨_, he, rfl⟩
  unfold pyNext
  exact wpAny_bind (wpAny_attempt (wpAny_callSpecial?_slot (name := Str.ofString "__next__") hT F.slot_enumerate_next
    (wpAny_call_entry F.slot_enumerate_next hT F.entry_enumerate_next
      (enum_next he (nx _) fun p h1 h' a b c d k => wpAny_pure (hQ p h1 h' a b c d k)) (F.args_enumerate_next_1 _))))

theorem meets_new (z : Addr) (own : Value) (f : Bool) (TI TO : Addr) :
    Meets (Builtin.«enumerate.__new__» ⟨[.type "enumerate", .ref z], []⟩) (fun _ R s => ZipF s.heap z TI TO own f ∧
      R (.ok (.ret (.ref s.heap.objs.size))) { s with heap := s.heap.push { cls := .type "enumerate", data := .fields #[.none, .bool false, .ref z, rawInt 0, .none, .none] } }) :=
  .of_wp fun prog w A R s h => by
    obtain ⟨hp, g, d, tk, os⟩ := s; obtain ⟨h1, h⟩ := h
    have hsub := sub_enumerate
    have q1 : ∀ {A' : Around} {E : Value → Shared → Prop} {Q : Value → Shared → Prop}, Q (.ref z) ⟨hp, g, d, tk, os⟩ → wpAny (model prog w) A' (pyIter (.ref z)) Q E ⟨hp, g, d, tk, os⟩ := fun {A' E Q} q => by
      have hT : (⟨hp, g, d, tk, os⟩ : Shared).TypeIs (.ref z) "zip" := ⟨_, h1, rfl⟩
      refine wpAny_pyIter_slot hT F.slot_zip_iter (wpAny_call_entry F.slot_zip_iter hT F.entry_zip_iter ?_ (F.args_zip_iter_1 _))
      show wpAny _ _ (ret (.ref z)) _ _ _
      exact wpAny_pure ⟨_, rfl, "zip", _, hT, F.slot_zip_next.lookup, q⟩
    wp_walk using q1
    refine wpAny_stack_any fun st => wpAny_pure ?_
    split
    · rename_i c _ _ _ _ _
      cases (c == Value.type "enumerate")
      · wp_walk using q1
        exact ⟨_, rfl, h⟩
      · wp_walk using q1
        exact ⟨_, rfl, h⟩
    · wp_walk using q1
      exact ⟨_, rfl, h⟩
theorem call_enum {z TI TO : Addr} {own : Value} {f : Bool} {Q : Value → Shared → Prop} (hz : ZipF s.heap z TI TO own f)
    (h : ∀ h', IsEnum h' s.heap.objs.size z 0 .none → h'.objs.size = s.heap.objs.size + 1 → (∀ b o, s.heap.get? b = some o → h'.get? b = some o) → Q (.ref s.heap.objs.size) { s with heap := h' }) :
    wpAny (model prog w) A (call (.type "enumerate") [.ref z]) Q E s := by
  refine callType_new F.called_enumerate (by decide) (F.typeCall_enumerate_1 _) (F.newCall_enumerate_1 _) (fun obj => F.args_object_init_2 obj _) F.entry_enumerate_new
    (meets_new z own f TI TO) ⟨hz, ?_⟩
  have he : IsEnum (s.heap.push { cls := .type "enumerate", data := .fields #[.none, .bool false, .ref z, rawInt 0, .none, .none] }) s.heap.objs.size z 0 .none := Heap.get?_push_size _ rfl
  exact ⟨⟨_, he, rfl⟩, h _ he (Heap.size_push ..) fun b o x => Heap.get?_push_of_some _ x⟩
end

/-- two tuples, at each turn their items in a new pair, and that in a new pair with its number -/
def ItEz (K : PySem.W.Frag) (a b : Addr) : It :=
  ⟨fun i H => ∃ (xs ys : List V) (x y : V), SqT K H a xs ∧ SqT K H b ys ∧ xs[i]? = some x ∧ ys[i]? = some y,
    fun i H v H' => ∃ T1 T2 x y, v = .ref T2 ∧ H T1 = none ∧ upd H T1 (.tup [x, y]) T2 = none ∧ H' = upd (upd H T1 (.tup [x, y])) T2 (.tup [.int (i : Nat), .ref T1]) ∧ (∀ xs, SqT K H a xs → xs[i]? = some x) ∧ ∀ ys, SqT K H b ys → ys[i]? = some y,
    fun i H => ∃ xs ys : List V, SqT K H a xs ∧ SqT K H b ys ∧ (xs.length ≤ i ∨ ys.length ≤ i)⟩
structure Sep (e z TI TO i1 i2 a b : Addr) : Prop where
  D : ZipApart z TI TO i1 i2 a b
  ez : e ≠ z
  eTI : e ≠ TI
  eTO : e ≠ TO
  e1 : e ≠ i1
  e2 : e ≠ i2
theorem turn_ez {P : Program} {w : World} {K : PySem.W.Frag} {elts : List Expr} {kk : Nat} {tpos : Pos} {a b e z TI TO i1 i2 : Addr} (S : Sep e z TI TO i1 i2 a b) :
    Turn P w K (.Tuple elts kk tpos) (ItEz K a b) [e, z, TI, TO, i1, i2] e (fun i h => (∃ old, IsEnum h e z ((i : Nat) : Int) old) ∧ (∃ own f, ZipF h z TI TO own f ∧ Own own) ∧ IsPair h TI (.ref i1) (.ref i2) ∧ (∃ x y, IsPair h TO x y) ∧ h.IsTupleIter i1 a i ∧ h.IsTupleIter i2 b i) where
  mem := by simp
  obj := fun i h st c hc => by
    obtain ⟨⟨old, he⟩, ⟨own, f, hz, _⟩, hTI, ⟨x, y, hTO⟩, ⟨o1, e1, _, d1⟩, ⟨o2, e2, _, d2⟩⟩ := st
    have e' : c = e ∨ c = z ∨ c = TI ∨ c = TO ∨ c = i1 ∨ c = i2 := by simpa using hc
    rcases e' with q | q | q | q | q | q
    · rw [q]; exact ⟨_, he, fun v q => nomatch q⟩
    · rw [q]; exact ⟨_, hz, fun v q => nomatch q⟩
    · rw [q]; exact ⟨_, hTI, fun v q => nomatch q⟩
    · rw [q]; exact ⟨_, hTO, fun v q => nomatch q⟩
    · rw [q]; exact ⟨o1, e1, fun v q => by rw [d1] at q; cases q⟩
    · rw [q]; exact ⟨o2, e2, fun v q => by rw [d2] at q; cases q⟩
  keep := fun i h h' st k => by
    obtain ⟨⟨old, he⟩, ⟨own, f, hz, ho⟩, hTI, ⟨x, y, hTO⟩, h1, h2⟩ := st
    exact ⟨⟨old, k e (by simp) _ he⟩, ⟨own, f, k z (by simp) _ hz, ho⟩, k TI (by simp) _ hTI, ⟨x, y, k TO (by simp) _ hTO⟩, h1.at fun o q => k i1 (by simp) o q, h2.at fun o q => k i2 (by simp) o q⟩
  item := by
    intro X hP hw hK hc i pins s σ H E I hf st hg
    subst hP hw hK
    obtain ⟨⟨old, he⟩, ⟨own, f, hz, ho⟩, hTI, ⟨x0, y0, hTO⟩, h1, h2⟩ := st
    obtain ⟨xs, ys, x, y, hqx, hqy, hx, hy⟩ := hg
    obtain ⟨its, rv, p, _⟩ := I.tuple hqx
    obtain ⟨its2, rv2, p2, _⟩ := I.tuple hqy
    obtain ⟨u, hu, ru⟩ := rv.get hx
    obtain ⟨u2, hu2, ru2⟩ := rv2.get hy
    have D := S.D
    refine pyNext_enum (St := fun p h1 => p = .ref s.heap.objs.size ∧ ∃ own' f' a' b', ZipF h1 z TI TO own' f' ∧ Own own' ∧ IsPair h1 TO a' b' ∧ h1.IsTupleIter i1 a (i + 1) ∧ h1.IsTupleIter i2 b (i + 1) ∧ IsPair h1 s.heap.objs.size u u2 ∧ h1.objs.size = s.heap.objs.size + 1 ∧
      ∀ c o, c ≠ z → c ≠ TO → c ≠ i1 → c ≠ i2 → s.heap.get? c = some o → h1.get? c = some o) he
      (fun E' Q' hq => nextOf_zip D hz ho hTI hTO h1 h2 p p2 (x := u) (y := u2) (by simpa using hu) (by simpa using hu2) fun h' own' f' a' b' q1 q2 q3 q4 q5 q6 q7 q8 => hq _ _ ⟨rfl, own', f', a', b', q1, q2, q3, q4, q5, q6, q7, q8⟩ ((q8 e _ S.ez S.eTO S.e1 S.e2 he).trans he.symm)) fun pv g1 g2 st eo hT hsz hk => ?_
    obtain ⟨rfl, own', f', a', b', q1, q2, q3, q4, q5, q6, q7, q8⟩ := st
    refine ⟨_, rfl, wpAny_letOwnedTupleGo_enum (s := { s with heap := g2, toks := s.toks + 1 }) eo fun g3 he' sb => ?_⟩
    have hel : e < s.heap.objs.size := Heap.lt_size he
    have hN : s.heap.objs.size < g1.objs.size := by rw [q7]; exact Nat.lt_succ_self _
    have new1 : ObjOk X.prog X.w (upd H s.heap.objs.size (.tup [x, y])) g1 s.heap.objs.size (.tup [x, y]) :=
      ⟨by show 2 ≤ sizeLine; decide, [u, u2], .cons ru (.cons ru2 .nil), ⟨_, q6, rfl, _, rfl⟩⟩
    have I1 : Inv X pins σ (upd H s.heap.objs.size (.tup [x, y])) { s with heap := g1 } :=
      I.turnedNew (t' := s.toks) (ch := [e, z, TI, TO, i1, i2]) (fun c o hb q => q8 c o (fun q' => hb (by simp [q'])) (fun q' => hb (by simp [q'])) (fun q' => hb (by simp [q'])) (fun q' => hb (by simp [q'])) q) hf (Nat.le_refl _) new1
    have hT3 : g3.get? g1.objs.size = some { cls := .type "tuple", data := .seq #[.int ((i : Nat) : Int) s.toks, .ref s.heap.objs.size] } := (sb.2 _ (Nat.ne_of_gt (Nat.lt_trans hel hN))).trans hT
    have new2 : ObjOk X.prog X.w (upd (upd H s.heap.objs.size (.tup [x, y])) g1.objs.size (.tup [.int (i : Nat), .ref s.heap.objs.size])) g3 g1.objs.size (.tup [.int (i : Nat), .ref s.heap.objs.size]) :=
      ⟨by show 2 ≤ sizeLine; decide, [.int ((i : Nat) : Int) s.toks, .ref s.heap.objs.size], .cons ⟨_, rfl⟩ (.cons rfl .nil), ⟨_, hT3, rfl, _, rfl⟩⟩
    have hf1 : ∀ c ∈ [e], FpOk X pins (upd H s.heap.objs.size (.tup [x, y])) c := fun c hcm => by
      obtain rfl : c = e := by simpa using hcm
      obtain ⟨f0, f1⟩ := hf c (by simp)
      exact ⟨by rw [upd_ne (Nat.ne_of_lt hel)]; exact f0, f1⟩
    have up : ∀ c o, c ≠ e → g1.get? c = some o → g3.get? c = some o := fun c o c1 q => (sb.2 c c1).trans (hk c o c1 q)
    have I2 : Inv X pins σ (upd (upd H s.heap.objs.size (.tup [x, y])) g1.objs.size (.tup [.int (i : Nat), .ref s.heap.objs.size])) { s with heap := g3, toks := s.toks + 1 } :=
      Inv.turnedNew (s := { s with heap := g1 }) (t' := s.toks + 1) (ch := [e]) I1 (fun c o hb q => up c o (fun q' => hb (by simp [q'])) q) hf1 (Nat.le_refl _) new2
    refine ⟨.ref g1.objs.size, _, I2, rfl, ⟨_, _, x, y, rfl, I.hok.fresh (Nat.le_refl _), I1.hok.fresh (Nat.le_refl _), rfl, fun l hl => by rw [I.tuple_inj hl hqx]; exact hx, fun l hl => by rw [I.tuple_inj hl hqy]; exact hy⟩,
      ⟨⟨_, he'⟩, ⟨own', f', up _ _ S.ez.symm q1, q2⟩, ?_, ⟨a', b', up _ _ S.eTO.symm q3⟩, q4.at fun o q => up _ o S.e1.symm q, q5.at fun o q => up _ o S.e2.symm q⟩, fun c hcm => ?_⟩
    · exact up _ _ S.eTI.symm (q8 _ _ D.TIz D.TITO D.TIi1 D.TIi2 hTI)
    · have hlt : c < s.heap.objs.size := by
        have e' : c = e ∨ c = z ∨ c = TI ∨ c = TO ∨ c = i1 ∨ c = i2 := by simpa using hcm
        rcases e' with q | q | q | q | q | q
        · rw [q]; exact hel
        · rw [q]; exact Heap.lt_size hz
        · rw [q]; exact Heap.lt_size hTI
        · rw [q]; exact Heap.lt_size hTO
        · rw [q]; obtain ⟨_, e1, _⟩ := h1; exact Heap.lt_size e1
        · rw [q]; obtain ⟨_, e2, _⟩ := h2; exact Heap.lt_size e2
      rw [upd_ne (Nat.ne_of_lt (Nat.lt_trans hlt hN)), upd_ne (Nat.ne_of_lt hlt)]
      exact (hf c hcm).1
  done := by
    intro X hP hw hK hc i pins s σ H E I hf st hg
    subst hP hw hK
    obtain ⟨⟨old, he⟩, ⟨own, f, hz, ho⟩, hTI, ⟨x0, y0, hTO⟩, h1, h2⟩ := st
    obtain ⟨xs, ys, hqx, hqy, hend⟩ := hg
    obtain ⟨its, rv, p, _⟩ := I.tuple hqx
    obtain ⟨its2, rv2, p2, _⟩ := I.tuple hqy
    have l1 := rv.length
    have l2 := rv2.length
    have hE : its.toArray[i]? = none ∨ its2.toArray[i]? = none := by
      rcases hend with q | q
      · exact .inl (by simp; omega)
      · exact .inr (by simp; omega)
    have hT : s.TypeIs (.ref e) "enumerate" := ⟨_, he, rfl⟩
    unfold pyNext
    refine wpAny_bind (wpAny_attempt (wpAny_callSpecial?_slot (name := Str.ofString "__next__") hT F.slot_enumerate_next
      (wpAny_call_entry F.slot_enumerate_next hT F.entry_enumerate_next ?_ (F.args_enumerate_next_1 _))))
    show wpAny _ _ (field (.ref e) 2 >>= _) _ _ _
    refine wpAny_bind (wpAny_field he rfl (x := .ref z) rfl ?_)
    refine wpAny_bind (nextOf_zip_end (I.ok.hd hc) S.D hz ho hTI hTO h1 h2 p p2 hE fun h' x hk hx' => ?_)
    obtain ⟨o, ho', hc'⟩ := hx'
    refine wpAny_bind (wpAny_isInstance (T := "StopIteration") (b := true) ⟨o, ho', hc'⟩ isSubtype_stop ?_)
    exact wpAny_pure ⟨rfl, I.turnedL (t' := s.toks) (ch := [e, z, TI, TO, i1, i2]) (fun c o hb q =>
      hk c o (fun q' => hb (by simp [q'])) (fun q' => hb (by simp [q'])) (fun q' => hb (by simp [q'])) (fun q' => hb (by simp [q'])) q) hf⟩
  self := fun A i s Q E st h => let ⟨⟨_, he⟩, _⟩ := st; wpAny_pyIter_enum he h
def iEz (K : PySem.W.Frag) (ta : TA) : TI := fun σ H R => ta σ H fun vs H1 => ∃ a b xs ys, vs = [.ref a, .ref b] ∧ SqT K H1 a xs ∧ SqT K H1 b ys ∧ R (ItEz K a b) H1
theorem pi_ez {X : Cx} {e1 e2 : Expr} {ta : TA} {p p2 pos pos2 tpos : Pos} {elts : List Expr} {kk : Nat} (hg : Gl X "enumerate") (hm : X.mg "enumerate" = none) (hgz : Gl X "zip") (hmz : X.mg "zip" = none) (ha : PA X [e1, e2] ta)
    (hs : starEach [e1, e2] X.env = (false, eval e1 X.env) :: starEach [e2] X.env := by rfl) (hpl : (backTo pos2 (starEach [e2] X.env)).any (·.1) = false := by rfl) :
    PI X (.Tuple elts kk tpos) (.Call (.Name "enumerate" p) [.Call (.Name "zip" p2) [e1, e2] [] pos2] [] pos) (iEz X.K ta) := by
  refine ⟨fun pins s σ H R I h => ?_⟩
  refine Call_ (ld_blt I hg hm boot_enumerate (PyProof.Rows.callWith_type1 (e := .Call (.Name "zip" p2) [e1, e2] [] pos2) (rest := []) ?_ rfl rfl))
  show wpAny _ _ (spliced ((false, eval (.Call (.Name "zip" p2) [e1, e2] [] pos2) X.env) :: backTo pos (starEach [] X.env))) _ _ s
  refine Calls.spliced_cons ?_
  refine Call_ (ld_blt I hgz hmz PyProof.Rows.boot_zip (PyProof.Rows.callWith_type1 (thn (ha.run pos2 pins s σ H _ I h) fun us s1 ⟨vs, H1, I1, r1, q1⟩ => ?_) hs hpl))
  obtain ⟨a, b, xs, ys, ex, hqx, hqy, q⟩ := q1
  subst ex
  cases r1 with
  | cons r rr =>
    cases rr with
    | cons r' rr =>
      cases rr
      cases r
      cases r'
      obtain ⟨its, rv, p1, _⟩ := I1.tuple hqx
      obtain ⟨its2, rv2, p2, _⟩ := I1.tuple hqy
      obtain ⟨o1, ho1, _⟩ := id p1
      obtain ⟨o2, ho2, _⟩ := id p2
      have la := Heap.lt_size ho1
      have lb := Heap.lt_size ho2
      refine RZ.call_zipT (show s1.heap.IsTuple a its.toArray from p1) (show s1.heap.IsTuple b its2.toArray from p2) fun h' hz hTI hTO h1 h2 hsz hk => ?_
      refine Calls.spliced_nil ?_
      refine call_enum (s := { s1 with heap := h' }) (own := .none) (f := false) hz fun g he hgs hk2 => wpAny_pyIter_enum he ?_
      have hsz' : ({ s1 with heap := h' } : Shared).heap.objs.size = s1.heap.objs.size + 5 := hsz
      rw [hsz'] at he ⊢
      have I2 : Inv X pins σ H1 { s1 with heap := g } := I1.kept (t' := s1.toks) (fun c o q => hk2 c o (hk c o q))
      have fr : ∀ c, c ∈ [s1.heap.objs.size + 5, s1.heap.objs.size + 4, s1.heap.objs.size + 2, s1.heap.objs.size + 3, s1.heap.objs.size, s1.heap.objs.size + 1] → FpOk X pins H1 c := fun c hcm => by
        have hle : s1.heap.objs.size ≤ c := by
          have e' : c = s1.heap.objs.size + 5 ∨ c = s1.heap.objs.size + 4 ∨ c = s1.heap.objs.size + 2 ∨ c = s1.heap.objs.size + 3 ∨ c = s1.heap.objs.size ∨ c = s1.heap.objs.size + 1 := by simpa using hcm
          rcases e' with z | z | z | z | z | z
          · rw [z]; exact Nat.le_add_right _ _
          · rw [z]; exact Nat.le_add_right _ _
          · rw [z]; exact Nat.le_add_right _ _
          · rw [z]; exact Nat.le_add_right _ _
          · rw [z]; exact Nat.le_refl _
          · rw [z]; exact Nat.le_add_right _ _
        exact I1.fpOk hle (I1.hok.fresh hle)
      have ne : ∀ {m n : Nat}, m ≠ n → s1.heap.objs.size + m ≠ s1.heap.objs.size + n := fun h q => h (Nat.add_left_cancel q)
      exact ⟨s1.heap.objs.size + 5, [s1.heap.objs.size + 5, s1.heap.objs.size + 4, s1.heap.objs.size + 2, s1.heap.objs.size + 3, s1.heap.objs.size, s1.heap.objs.size + 1], _, _, H1, rfl, I2,
        turn_ez ⟨PySem.W.ktu_apart s1.heap.objs.size a b la lb, ne (by decide), ne (by decide), ne (by decide), ne (m := 5) (n := 0) (by decide), ne (by decide)⟩,
        ⟨⟨_, by simpa using he⟩, ⟨_, _, hk2 _ _ hz, .inl rfl⟩, hk2 _ _ hTI, ⟨_, _, hk2 _ _ hTO⟩, h1.at fun o q => hk2 _ o q, h2.at fun o q => hk2 _ o q⟩, fr, q⟩
theorem g_ez {K : PySem.W.Frag} {ta : TA} {σ : L2.St} {H : Hp} {R : It → Hp → Prop} (q : ta σ H fun vs H1 => ∃ a b xs ys, vs = [.ref a, .ref b] ∧ SqT K H1 a xs ∧ SqT K H1 b ys ∧ R (ItEz K a b) H1) : iEz K ta σ H R := q
/-- a loop over enumerate(zip(t1, t2)) -/
theorem for_ez {K : PySem.W.Frag} {a b : Addr} {xs ys : List V} {n : Nat} {g : TG} {tb : TS} {D : Ends} {σ : L2.St} {H : Hp} (hn : n = min xs.length ys.length) (Pv : Nat → L2.St → Hp → Prop) (h0 : Pv 0 σ H) (hq : ∀ i σ H, Pv i σ H → SqT K H a xs ∧ SqT K H b ys)
    (hs : ∀ (i : Nat) (x y : V) (T1 T2 : Addr) (σ : L2.St) (H : Hp), xs[i]? = some x → ys[i]? = some y → Pv i σ H → H T1 = none → upd H T1 (.tup [x, y]) T2 = none → g (.ref T2) σ (upd (upd H T1 (.tup [x, y])) T2 (.tup [.int (i : Nat), .ref T1])) fun σ2 H2 => tb { D with nx := Pv (i + 1), ct := Pv (i + 1), bk := D.nx } σ2 H2) (hd : ∀ σ H, Pv n σ H → D.nx σ H) :
    ∃ W : Nat → Nat → L2.St → Hp → Prop, (∃ m, W 0 m σ H) ∧ ∀ i m σ H, W i m σ H →
      ((ItEz K a b).stop i H ∧ D.nx σ H) ∨ ((ItEz K a b).go i H ∧ ∃ N : L2.St → Hp → Prop, (∀ σ' H', N σ' H' → ∃ m', m' < m ∧ W (i + 1) m' σ' H') ∧ ∀ v H', (ItEz K a b).yld i H v H' → g v σ H' fun σ2 H2 => tb { D with nx := N, ct := N, bk := D.nx } σ2 H2) := by
  refine ⟨fun i m σ H => m = n - i ∧ i ≤ n ∧ Pv i σ H, ⟨n, rfl, Nat.zero_le _, h0⟩, ?_⟩
  rintro i m σ H ⟨rfl, hi, p⟩
  obtain ⟨qx, qy⟩ := hq i σ H p
  by_cases hlt : i < n
  · have hlx : i < xs.length := by omega
    have hly : i < ys.length := by omega
    have hx : xs[i]? = some xs[i] := List.getElem?_eq_getElem hlx
    have hy : ys[i]? = some ys[i] := List.getElem?_eq_getElem hly
    refine .inr ⟨⟨xs, ys, _, _, qx, qy, hx, hy⟩, Pv (i + 1), fun σ' H' p' => ⟨n - (i + 1), by omega, rfl, hlt, p'⟩, fun v H' y => ?_⟩
    obtain ⟨T1, T2, x', y', rfl, hT1, hT2, rfl, f1, f2⟩ := y
    exact hs i x' y' T1 T2 σ H (f1 xs qx) (f2 ys qy) p hT1 hT2
  · obtain rfl : i = n := by omega
    exact .inl ⟨⟨xs, ys, qx, qy, by omega⟩, hd σ H p⟩
end Ez

/-! len(x) of an instance by its class's own __len__. -/
namespace Ln
open PySem PySem.Spec PyProof.Rows L2
variable {X : Cx} {k : Nat} {ps : List Str} {sp : Sp} {x : Str}
def rLenI (K : PySem.W.Frag) (x : Str) (sp : Sp) : List V → Hp → VK → Prop := fun xs H Q => ∃ a dx fs, xs = [.ref a] ∧ H a = some (.ins (He.ga K x) dx fs) ∧ sp [.ref a] H (fun v H' => ∃ n : Int, v = .int n ∧ 0 ≤ n ∧ n < 1000000 ∧ Q (.int n) H') E0
theorem call_lenI (M : Lc.MeC X.prog X.w X.K X.mg X.base x "__len__" ps k sp) (hr : Room (k + 1) X.A) : CallR X (.builtin "len") (rLenI X.K x sp) := by
  intro pins s σ H xs us Q I r h
  obtain ⟨a, dx, fs, rfl, ha, q⟩ := h
  obtain ⟨u, rfl, ru⟩ := vals1 r
  obtain rfl : u = Value.ref a := ru
  obtain ⟨f, fd, hc, hm, hb, F⟩ := M.ex
  obtain ⟨mA, O, _, _, _, _⟩ := ins_get I.hok ha
  obtain ⟨od, J, hl⟩ := O.look
  have sl : PySem.W.Looks (model X.prog X.w) s.heap (specialOf (.ref a) "__len__") (some (.ref f)) := J.type.andThen (PySem.W.looks_findIn I.kIn hm.at_)
  refine Calls.call_function_entry kind_len plain_len entry_len (args_len1 _) ?_
  unfold Builtin.«len»
  refine wpAny_bind (m := oneArg "len" _) (wpAny_pure ?_)
  refine wpAny_bind (m := callSpecial? (.ref a) (Str.ofString "__len__")) ?_
  simp only [callSpecial?]
  refine wpAny_bind (sl.here ?_)
  refine wpAny_holding ?_
  unfold bindSpecial
  refine wpAny_bind (wpAny_bind ((PySem.W.looks_typeIn I.kIn (beq_iff_eq.mp hm.fn)).here ?_))
  rw [if_pos (by decide)]
  refine wpAny_pure ?_
  refine wpAny_bind (wpAny_call (codeAny_mono (F.run X.A.in1 X.stack s H ⟨[Value.ref a], []⟩ [Value.ref a] [V.ref a] _ E0 hr.in1 I.env0.in1 (hb s [Value.ref a] I.kIn (F.len _ _ _ _ q)) (.cons rfl .nil) q) fun r s' hq => ?_))
  cases r with
  | error e => exact pass0 pins σ H s e s' I hq
  | ok fl =>
    cases fl with
    | ret u =>
      obtain ⟨v, H', I3, rv, n, rfl, h0, h1, q3⟩ := I.after hq
      obtain ⟨t, rfl⟩ := rv
      refine wpAny_pure ?_
      refine wpAny_bind (wpAny_holding (wpAny_pure ?_))
      refine wpAny_bind (wpAny_letGo ?_)
      show wpAny _ _ (if n < 0 then _ else _) _ _ _
      rw [if_neg (by omega)]
      show wpAny _ _ (if n ≥ 2 ^ 63 then _ else _) _ _ _
      rw [if_neg (by omega)]
      exact wpAny_bind (wpAny_mkInt (wpAny_pure ⟨_, rfl, .int n, H', I3.tok _, ⟨_, rfl⟩, q3⟩))
    | next => exact False.elim hq
    | brk => exact False.elim hq
    | cont => exact False.elim hq
theorem g_lenI {K : PySem.W.Frag} {H : Hp} {Q : VK} {a dx : Addr} {fs : List (Str × V)} (h : H a = some (.ins (He.ga K x) dx fs)) (q : sp [.ref a] H (fun v H' => ∃ n : Int, v = .int n ∧ 0 ≤ n ∧ n < 1000000 ∧ Q (.int n) H') E0) : rLenI K x sp [.ref a] H Q := ⟨a, dx, fs, rfl, h, q⟩
end Ln

/-! zip(*rows) over lists, any number of them. -/
namespace Zn
open PySem PySem.Spec PyProof.Rows L2 Lw Ez
theorem tc (us : List Value) : checkTypeCall "zip" ⟨us, []⟩ = pure () := by kernel_rfl
theorem nc (u : Value) (us : List Value) : checkBuiltinCall "zip.__new__" ⟨.type "zip" :: u :: us, []⟩ = pure () := by kernel_rfl
theorem ao (a : Value) (us : List Value) : argsOk "object.__init__" ⟨a :: us, []⟩ := by
  unfold argsOk; rw [signature?_of (id := "object.__init__") (n := ['_', '_', 't', 'i', 'n', 'i', '_', '_']) (o := ['t', 'c', 'e', 'j', 'b', 'o']) (by kernel_rfl) F.owner_object]; kernel_rfl
theorem forIn_ind {α β : Type} {M : Model} {A : Around} {E : Value → Shared → Prop} {Q : β → Shared → Prop} {f : α → β → Sem (ForInStep β)} (I : List α → β → Shared → Prop)
    (step : ∀ x r b s, I (x :: r) b s → wpAny M A (f x b) (fun st s' => match st with | .yield b' => I r b' s' | .done b' => Q b' s') E s) (fin : ∀ b s, I [] b s → Q b s) :
    ∀ (l : List α) (b : β) (s : Shared), I l b s → wpAny M A (forIn l b f) Q E s
  | [], b, s, h => by
    rw [List.forIn_nil]
    exact wpAny_pure (fin b s h)
  | x :: r, b, s, h => by
    rw [List.forIn_cons]
    refine wpAny_bind (wpAny_mono (step x r b s h) (fun st s' q => ?_) fun _ _ x => x)
    cases st with
    | done b' => exact wpAny_pure q
    | yield b' => exact forIn_ind I step fin r b' s' q
/-- iterators over lists, one for each, from N on -/
def Its (h : Heap) (N : Nat) (ls : List Addr) (i : Nat) : Prop := ∀ (j : Nat) (l : Addr), ls[j]? = some l → h.IsListIter (N + j) l i
section
variable {prog : Program} {w : World} {A : Around} {E : Value → Shared → Prop} {s : Shared}
theorem iter_all {ls : List Addr} {Q : List Value → Shared → Prop} (hl : ∀ l ∈ ls, ∃ xs, s.heap.IsList l xs)
    (h : ∀ h', Its h' s.heap.objs.size ls 0 → h'.objs.size = s.heap.objs.size + ls.length → (∀ c o, s.heap.get? c = some o → h'.get? c = some o) → Q ((List.range ls.length).map fun j => Value.ref (s.heap.objs.size + j)) { s with heap := h' }) :
    wpAny (model prog w) A (Builtin.SmallTypes.iterAll (ls.map Value.ref)) Q E s := by
  unfold Builtin.SmallTypes.iterAll
  refine wpAny_bind (forIn_ind (β := Array Value) (Q := fun (b : Array Value) s' => wpAny (model prog w) A (pure b.toList) Q E s') (fun rest (b : Array Value) s' => ∃ k h', rest = (ls.drop k).map Value.ref ∧ k ≤ ls.length ∧ b.toList = (List.range k).map (fun j => Value.ref (s.heap.objs.size + j)) ∧ s' = { s with heap := h' } ∧
    Its h' s.heap.objs.size (ls.take k) 0 ∧ h'.objs.size = s.heap.objs.size + k ∧ ∀ c o, s.heap.get? c = some o → h'.get? c = some o) ?_ ?_ _ _ _ ⟨0, s.heap, rfl, Nat.zero_le _, rfl, rfl, fun j l e => by simp at e, rfl, fun _ _ e => e⟩)
  · rintro x r b s' ⟨k, h', hr, hk, hb, rfl, hi, hsz, hkp⟩
    have hlt : k < ls.length := by
      by_cases c : k < ls.length
      · exact c
      · rw [List.drop_eq_nil_of_le (by omega)] at hr
        cases hr
    rw [List.drop_eq_getElem_cons hlt, List.map_cons] at hr
    obtain ⟨rfl, rfl⟩ := List.cons.inj hr
    obtain ⟨xs, hx⟩ := hl _ (List.getElem_mem hlt)
    have hx' : h'.IsList ls[k] xs := by
      obtain ⟨o, ho, q⟩ := hx
      exact ⟨o, hkp _ _ ho, q⟩
    refine wpAny_bind (wpAny_holding (wpAny_pyIter_list (s := { s with heap := h' }) hx' ?_))
    refine wpAny_pure ?_
    refine ⟨k + 1, h'.push { cls := .type "list_iterator", data := .fields #[.ref ls[k], .int 0 0] }, rfl, hlt, ?_, rfl, ?_, ?_, fun c o e => Heap.get?_push_of_some _ (hkp c o e)⟩
    · show (b.push _).toList = _
      rw [Array.toList_push, hb, List.range_succ, List.map_append]
      show _ ++ [Value.ref h'.objs.size] = _
      rw [hsz]
      rfl
    · intro j l e
      by_cases c : j < k
      · rw [List.getElem?_take_of_lt (show j < k + 1 by omega)] at e
        exact (hi j l (by rw [List.getElem?_take_of_lt c]; exact e)).at fun o q => Heap.get?_push_of_some _ q
      · have hj : j = k := by
          have := (List.getElem?_eq_some_iff.mp e).1
          rw [List.length_take] at this
          have := Nat.lt_of_lt_of_le this (Nat.min_le_left _ _)
          omega
        subst hj
        rw [List.getElem?_take_of_lt (Nat.lt_succ_self j), List.getElem?_eq_getElem hlt] at e
        obtain rfl := Option.some.inj e
        rw [← hsz]
        exact ⟨_, Heap.get?_push_size _ rfl, rfl, rfl⟩
    · rw [Heap.size_push, hsz]
      omega
  · rintro b s' ⟨k, h', hr, hk, hb, rfl, hi, hsz, hkp⟩
    have hke : k = ls.length := by
      by_cases c : k < ls.length
      · rw [List.drop_eq_getElem_cons c] at hr
        cases hr
      · omega
    subst hke
    refine wpAny_pure ?_
    rw [hb]
    rw [List.take_length] at hi
    exact h h' hi hsz hkp

/-- a zip over lists, made at N: iterators, their tuple, the tuple that is handed out, the zip -/
structure ZNew (h' : Heap) (N : Nat) (ls : List Addr) : Prop where
  its : Its h' N ls 0
  TI : h'.get? (N + ls.length) = some { cls := .type "tuple", data := .seq ((List.range ls.length).map fun j => Value.ref (N + j)).toArray }
  TO : h'.get? (N + ls.length + 1) = some { cls := .type "tuple", data := .seq (List.replicate ls.length Value.none).toArray }
  z : ZipF h' (N + ls.length + 2) (N + ls.length) (N + ls.length + 1) .none false
theorem meets_zn (ls : List Addr) : Meets (Builtin.«zip.__new__» ⟨.type "zip" :: ls.map Value.ref, []⟩) (fun _ R s => ls.length ≤ sizeLine ∧ (∀ x ∈ ls, ∃ xs, s.heap.IsList x xs) ∧
    ∀ h', ZNew h' s.heap.objs.size ls → (∀ c o, s.heap.get? c = some o → h'.get? c = some o) → h'.objs.size = s.heap.objs.size + ls.length + 3 → R (.ok (.ret (.ref (s.heap.objs.size + ls.length + 2)))) { s with heap := h' }) :=
  .of_wp fun prog w A R s h => by
    obtain ⟨hsz, hl, h⟩ := h
    have hsub := sub_zip
    have q1 : ∀ {A' : Around} {E : Value → Shared → Prop} {Q : List Value → Shared → Prop}, (∀ h', Its h' s.heap.objs.size ls 0 → h'.objs.size = s.heap.objs.size + ls.length → (∀ c o, s.heap.get? c = some o → h'.get? c = some o) → Q ((List.range ls.length).map fun j => Value.ref (s.heap.objs.size + j)) { s with heap := h' }) →
      wpAny (model prog w) A' (Builtin.SmallTypes.iterAll (ls.map Value.ref)) Q E s := fun q => iter_all hl q
    unfold Builtin.«zip.__new__»
    wp_walk using q1
    intro h' hi hs hk
    refine wpAny_bind (wpAny_newTuple ?_ (by rw [List.length_map, List.length_range]; exact hsz))
    refine wpAny_bind (wpAny_newTuple ?_ (by rw [List.length_map, List.length_map, List.length_range]; exact hsz))
    refine wpAny_bind (m := newObj (.type "zip") (.fields #[.none, .bool false, .bool false, .ref _, .ref _])) (wpAny_newObj_type ?_ (by size_fits))
    refine wpAny_pure ⟨_, rfl, ?_⟩
    have e0 : List.map (fun x => Value.none) (List.map (fun j => Value.ref (s.heap.objs.size + j)) (List.range ls.length)) = List.replicate ls.length Value.none := by
      rw [List.map_map]
      exact List.ext_getElem (by simp) (by simp)
    rw [e0]
    show R (.ok (.ret (.ref (((h'.push _).push _).objs.size)))) { s with heap := ((h'.push _).push _).push _ }
    dsimp only [Shared.heap]
    have z1 : (h'.push { cls := .type "tuple", data := .seq ((List.range ls.length).map fun j => Value.ref (s.heap.objs.size + j)).toArray }).objs.size = s.heap.objs.size + ls.length + 1 := by rw [Heap.size_push, hs]
    have z2 : ((h'.push { cls := .type "tuple", data := .seq ((List.range ls.length).map fun j => Value.ref (s.heap.objs.size + j)).toArray }).push { cls := .type "tuple", data := .seq (List.replicate ls.length Value.none).toArray }).objs.size = s.heap.objs.size + ls.length + 2 := by rw [Heap.size_push, z1]
    rw [hs, z1, z2]
    refine h _ ⟨?_, ?_, ?_, ?_⟩ (fun c o e => Heap.get?_push_of_some _ (Heap.get?_push_of_some _ (Heap.get?_push_of_some _ (hk c o e)))) (by rw [Heap.size_push, z2])
    · exact fun j l e => (hi j l e).at fun o q => Heap.get?_push_of_some _ (Heap.get?_push_of_some _ (Heap.get?_push_of_some _ q))
    · have := Heap.get?_push_size h' (o := { cls := .type "tuple", data := .seq ((List.range ls.length).map fun j => Value.ref (s.heap.objs.size + j)).toArray }) rfl
      rw [hs] at this
      exact Heap.get?_push_of_some _ (Heap.get?_push_of_some _ this)
    · have := Heap.get?_push_size (h'.push { cls := .type "tuple", data := .seq ((List.range ls.length).map fun j => Value.ref (s.heap.objs.size + j)).toArray }) (o := { cls := .type "tuple", data := .seq (List.replicate ls.length Value.none).toArray }) rfl
      rw [z1] at this
      exact Heap.get?_push_of_some _ this
    · have := Heap.get?_push_size ((h'.push { cls := .type "tuple", data := .seq ((List.range ls.length).map fun j => Value.ref (s.heap.objs.size + j)).toArray }).push { cls := .type "tuple", data := .seq (List.replicate ls.length Value.none).toArray }) (o := { cls := .type "zip", data := .fields #[.none, .bool false, .bool false, .ref (s.heap.objs.size + ls.length), .ref (s.heap.objs.size + ls.length + 1)] }) rfl
      rw [z2] at this
      exact this
theorem upd_seq {T : Addr} {kp : Array Value} {k : Nat} {x : Value} {Q : Unit → Shared → Prop} (hT : s.heap.get? T = some { cls := .type "tuple", data := .seq kp }) (hk : kp.size ≤ sizeLine)
    (h : ∀ h', h'.get? T = some { cls := .type "tuple", data := .seq (kp.setIfInBounds k x) } → Heap.SameBut T s.heap h' → Q () { s with heap := h' }) : wpAny (model prog w) A (updateSeq T (·.setIfInBounds k x)) Q E s := by
  refine wpAny_updateSeq hT rfl (h _ ?_ (Heap.SameBut.update ..)) (hz := hk) (_hz' := by rw [Array.size_setIfInBounds]; exact Nat.le_succ_of_le hk)
  rw [Heap.get?_update_self _ hT rfl]
  simp [Obj.mapSeq]
/-- a zip at its i-th turn -/
structure ZAt (h : Heap) (N : Nat) (ls : List Addr) (i : Nat) : Prop where
  its : Its h N ls i
  TI : h.get? (N + ls.length) = some { cls := .type "tuple", data := .seq ((List.range ls.length).map fun j => Value.ref (N + j)).toArray }
  TO : ∃ kept : Array Value, kept.size = ls.length ∧ h.get? (N + ls.length + 1) = some { cls := .type "tuple", data := .seq kept }
  z : ∃ own f, ZipF h (N + ls.length + 2) (N + ls.length) (N + ls.length + 1) own f ∧ Own own
theorem zn_next {N i : Nat} {ls : List Addr} {us : List Value} {Q : Value → Shared → Prop} (Z : ZAt s.heap N ls i) (hne : 0 < ls.length) (hul : us.length = ls.length)
    (hl : ∀ (j : Nat) (l : Addr), ls[j]? = some l → l < N ∧ ∃ xs u, s.heap.IsList l xs ∧ xs[i]? = some u ∧ us[j]? = some u) (hsz : ls.length ≤ sizeLine)
    (hQ : ∀ h', ZAt h' N ls (i + 1) → h'.get? s.heap.objs.size = some { cls := .type "tuple", data := .seq us.toArray } → h'.objs.size = s.heap.objs.size + 1 →
      (∀ (c : Nat) o, (c < N ∨ N + ls.length + 3 ≤ c) → s.heap.get? c = some o → h'.get? c = some o) → Q (.ref s.heap.objs.size) { s with heap := h' }) :
    wpAny (model prog w) A (Builtin.«zip.__next__» ⟨[.ref (N + ls.length + 2)], []⟩) (fun fin s' => ∃ v, fin = .done (.ret v) ∧ Q v s') E s := by
  obtain ⟨own, f, hz, ho⟩ := Z.z
  obtain ⟨kept, hkn, hTO⟩ := Z.TO
  show wpAny _ _ (field (.ref (N + ls.length + 2)) 2 >>= _) _ _ _
  refine wpAny_bind (wpAny_field hz rfl (x := .bool false) rfl ?_)
  show wpAny _ _ (field (.ref (N + ls.length + 2)) 3 >>= _) _ _ _
  refine wpAny_bind (wpAny_field hz rfl (x := .ref (N + ls.length)) rfl ?_)
  refine wpAny_bind (wpAny_seqItems Z.TI rfl ?_)
  have hem : ((List.range ls.length).map fun j => Value.ref (N + j)).toArray.isEmpty = false := by
    rw [Array.isEmpty_eq_false_iff]
    intro e
    have h0 : ((List.range ls.length).map fun j => Value.ref (N + j)).toArray.size = 0 := by rw [e]; rfl
    rw [List.size_toArray, List.length_map, List.length_range] at h0
    omega
  dsimp only
  rw [hem]
  show wpAny _ _ (Builtin.SmallTypes.ownedTupleIsFree (.ref (N + ls.length + 2)) >>= _) _ _ _
  refine wpAny_bind (free_any hz ho ?_ fun h₁ hz₁ hs₁ => ?_)
  · simp only [if_true]
    refine wpAny_bind (wpAny_rule ?_)
    refine wpAny_bind (wpAny_field hz rfl (x := .ref (N + ls.length + 1)) rfl ?_)
    refine wpAny_bind (wpAny_setField_rec hz (by simp) fun h₁ hz₁ hs₁ => ?_)
    replace hz₁ : ZipF h₁ (N + ls.length + 2) (N + ls.length) (N + ls.length + 1) .ellipsis f := hz₁
    refine wpAny_bind (forIn_ind (β := Option PySem.Fin × Unit) (fun rest b s' => ∃ (k : Nat) (h' : Heap) (kp : Array Value), rest = (((List.range ls.length).map fun j => Value.ref (N + j)).drop k).zipIdx k ∧ k ≤ ls.length ∧ b = (none, ()) ∧ s' = { s with heap := h' } ∧ h'.objs.size = s.heap.objs.size ∧
      (∀ (j : Nat) (l : Addr), ls[j]? = some l → h'.IsListIter (N + j) l (if j < k then i + 1 else i)) ∧ kp.size = ls.length ∧ h'.get? (N + ls.length + 1) = some { cls := .type "tuple", data := .seq kp } ∧ (∀ j, j < k → kp[j]? = us[j]?) ∧
      h'.get? (N + ls.length + 2) = h₁.get? (N + ls.length + 2) ∧ (∀ (c : Nat) o, c < N ∨ N + ls.length + 3 ≤ c ∨ c = N + ls.length → s.heap.get? c = some o → h'.get? c = some o)) ?_ ?_ _ _ _ ?_)
    · rintro ⟨it, k⟩ r b s' ⟨k0, h', kp, hr, hk, rfl, rfl, hsz', hit, hkp, hTO', hus', hz', hkeep⟩
      have hlt : k0 < ls.length := by
        by_cases c : k0 < ls.length
        · exact c
        · rw [List.drop_eq_nil_of_le (by rw [List.length_map, List.length_range]; omega)] at hr
          cases hr
      rw [List.drop_eq_getElem_cons (by rw [List.length_map, List.length_range]; exact hlt), List.zipIdx_cons, List.getElem_map, List.getElem_range] at hr
      obtain ⟨h1, rfl⟩ := List.cons.inj hr
      obtain ⟨rfl, rfl⟩ := Prod.mk.inj h1
      clear hr h1
      have hlk : ls[k]? = some ls[k] := List.getElem?_eq_getElem hlt
      obtain ⟨hlN, xs, u, ⟨oo, hoo, hxs⟩, hxi, hui⟩ := hl k _ hlk
      have hL' : h'.IsList ls[k] xs := ⟨oo, hkeep _ _ (.inl hlN) hoo, hxs⟩
      have hik := hit k _ hlk
      rw [if_neg (Nat.lt_irrefl k)] at hik
      refine wpAny_bind (wpAny_onRaise ?_)
      show wpAny _ _ (Builtin.SmallTypes.nextOf (.ref (N + k)) >>= _) _ _ _
      refine wpAny_bind (wpAny_nextOf_list_item (s := { s with heap := h' }) hik hL' hxi fun h₂ i2 sb => wpAny_pure ?_)
      replace sb : Heap.SameBut (N + k) h' h₂ := sb
      have ne1 : N + ls.length + 1 ≠ N + k := by omega
      have ne2 : N + ls.length + 2 ≠ N + k := by omega
      have hT2 := (sb.2 _ ne1).trans hTO'
      refine wpAny_bind (wpAny_seqItems (s := { s with heap := h₂ }) hT2 rfl ?_)
      refine wpAny_bind (upd_seq (s := { s with heap := h₂ }) hT2 (by omega) fun h₃ hT3 sb3 => ?_)
      replace sb3 : Heap.SameBut (N + ls.length + 1) h₂ h₃ := sb3
      refine wpAny_bind (wpAny_letGo (wpAny_pure ?_))
      refine ⟨k + 1, h₃, kp.setIfInBounds k u, rfl, hlt, rfl, rfl, by rw [sb3.1, sb.1, hsz'], fun j l e => ?_, by rw [Array.size_setIfInBounds]; exact hkp, hT3, fun j hj => ?_, ?_, fun c o hc e => ?_⟩
      · have hj := (List.getElem?_eq_some_iff.mp e).1
        have n1 : N + j ≠ N + ls.length + 1 := by omega
        by_cases c : j = k
        · subst c
          rw [hlk] at e
          obtain rfl := Option.some.inj e
          rw [if_pos (Nat.lt_succ_self j)]
          exact i2.extBut sb3.extBut n1
        · have h0 := hit j l e
          have n2 : N + j ≠ N + k := by omega
          rw [show (if j < k + 1 then i + 1 else i) = (if j < k then i + 1 else i) by split <;> split <;> omega]
          exact (h0.extBut sb.extBut n2).extBut sb3.extBut n1
      · by_cases c : j = k
        · subst c
          rw [Array.getElem?_setIfInBounds_self_of_lt (by omega), hui]
        · rw [Array.getElem?_setIfInBounds_ne (Ne.symm c)]
          exact hus' j (by omega)
      · rw [sb3.2 _ (show (N + ls.length + 2 : Nat) ≠ N + ls.length + 1 by omega), sb.2 _ ne2, hz']
      · exact sb3.extBut _ _ (show (c : Nat) ≠ N + ls.length + 1 by omega) (sb.extBut _ _ (show (c : Nat) ≠ N + k by omega) (hkeep c o hc e))
    · rintro b s' ⟨k, h', kp, hr, hk, rfl, rfl, hsz', hit, hkp, hTO', hus', hz', hkeep⟩
      have hke : k = ls.length := by
        by_cases c : k < ls.length
        · rw [List.drop_eq_getElem_cons (by rw [List.length_map, List.length_range]; exact c), List.zipIdx_cons] at hr
          cases hr
        · omega
      subst hke
      have hku : kp = us.toArray := by
        apply Array.ext_getElem?
        intro j
        by_cases c : j < ls.length
        · rw [hus' j c]; simp
        · rw [Array.getElem?_eq_none (by omega), List.getElem?_toArray, List.getElem?_eq_none (by omega)]
      subst hku
      refine wpAny_bind (wpAny_seqItems (s := { s with heap := h' }) hTO' rfl ?_)
      refine wpAny_bind (wpAny_newTuple ?_ (by show us.length ≤ _; rw [hul]; exact hsz))
      have hz6 : ZipF (h'.push { cls := .type "tuple", data := .seq us.toArray }) (N + ls.length + 2) (N + ls.length) (N + ls.length + 1) .ellipsis f := Heap.get?_push_of_some _ (hz'.trans hz₁)
      have hzlt : N + ls.length + 2 < h'.objs.size := Heap.lt_size (hz'.trans hz₁)
      show wpAny _ _ (Builtin.SmallTypes.ownedTupleHandOut (.ref (N + ls.length + 2)) (.ref h'.objs.size) >>= _) _ _ _
      refine wpAny_bind ?_
      unfold Builtin.SmallTypes.ownedTupleHandOut
      refine wpAny_bind (wpAny_setField_rec hz6 (by simp) fun h₇ hz₇ hs₇ => ?_)
      replace hz₇ : ZipF h₇ (N + ls.length + 2) (N + ls.length) (N + ls.length + 1) (rawInt h'.objs.size) f := hz₇
      refine wpAny_setField_rec hz₇ (by simp) fun h₈ hz₈ hs₈ => ?_
      replace hz₈ : ZipF h₈ (N + ls.length + 2) (N + ls.length) (N + ls.length + 1) (rawInt h'.objs.size) false := hz₈
      have up : ∀ (c : Nat) o, c ≠ N + ls.length + 2 → h'.get? c = some o → h₈.get? c = some o := fun c o c1 e => hs₈.extBut _ _ c1 (hs₇.extBut _ _ c1 (Heap.get?_push_of_some _ e))
      have hT8 : h₈.get? h'.objs.size = some { cls := .type "tuple", data := .seq us.toArray } := hs₈.extBut _ _ (Nat.ne_of_gt hzlt) (hs₇.extBut _ _ (Nat.ne_of_gt hzlt) (Heap.get?_push_size _ rfl))
      have hz8 : h₈.objs.size = h'.objs.size + 1 := by rw [hs₈.1, hs₇.1, Heap.size_push]
      rw [hsz'] at hz₈ hT8 hz8
      refine wpAny_pure ⟨_, rfl, ?_⟩
      show Q (.ref h'.objs.size) _
      rw [hsz']
      refine hQ h₈ ⟨fun j l e => ?_, ?_, ⟨us.toArray, hkp, up _ _ (show (N + ls.length + 1 : Nat) ≠ N + ls.length + 2 by omega) hTO'⟩, ⟨_, _, hz₈, .inr ⟨_, rfl⟩⟩⟩ hT8 hz8 fun c o hc e => up c o (show (c : Nat) ≠ N + ls.length + 2 by omega) (hkeep c o (by omega) e)
      · have hj := (List.getElem?_eq_some_iff.mp e).1
        have h0 := hit j l e
        rw [if_pos hj] at h0
        exact h0.at fun o q => up _ o (show (N + j : Nat) ≠ N + ls.length + 2 by omega) q
      · exact up _ _ (show (N + ls.length : Nat) ≠ N + ls.length + 2 by omega) (hkeep _ _ (.inr (.inr rfl)) Z.TI)
    · refine ⟨0, h₁, kept, rfl, Nat.zero_le _, rfl, rfl, hs₁.1, fun j l e => ?_, hkn, (hs₁.2 _ (show (N + ls.length + 1 : Nat) ≠ N + ls.length + 2 by omega)).trans hTO, fun j hj => absurd hj (Nat.not_lt_zero j), rfl, fun c o hc e => hs₁.extBut _ _ (show (c : Nat) ≠ N + ls.length + 2 by omega) e⟩
      have hj := (List.getElem?_eq_some_iff.mp e).1
      exact (Z.its j l e).extBut hs₁.extBut (show (N + j : Nat) ≠ N + ls.length + 2 by omega)
  · simp only [Bool.false_eq_true, if_false]
    replace hs₁ : Heap.SameBut (N + ls.length + 2) s.heap h₁ := hs₁
    rw [← Array.forIn_toList]
    refine wpAny_bind (forIn_ind (β := Option PySem.Fin × Array Value) (fun rest b s' => ∃ (k : Nat) (h' : Heap), rest = ((List.range ls.length).map fun j => Value.ref (N + j)).drop k ∧ k ≤ ls.length ∧ b = (none, (us.take k).toArray) ∧ s' = { s with heap := h' } ∧ h'.objs.size = s.heap.objs.size ∧
      (∀ (j : Nat) (l : Addr), ls[j]? = some l → h'.IsListIter (N + j) l (if j < k then i + 1 else i)) ∧
      (∀ (c : Nat) o, c < N ∨ N + ls.length ≤ c → h₁.get? c = some o → h'.get? c = some o)) ?_ ?_ _ _ _ ?_)
    · rintro it r b s' ⟨k, h', hr, hk, rfl, rfl, hsz', hit, hkeep⟩
      have hlt : k < ls.length := by
        by_cases c : k < ls.length
        · exact c
        · rw [List.drop_eq_nil_of_le (by rw [List.length_map, List.length_range]; omega)] at hr
          cases hr
      rw [List.drop_eq_getElem_cons (by rw [List.length_map, List.length_range]; exact hlt), List.getElem_map, List.getElem_range] at hr
      obtain ⟨rfl, rfl⟩ := List.cons.inj hr
      clear hr
      have hlk : ls[k]? = some ls[k] := List.getElem?_eq_getElem hlt
      obtain ⟨hlN, xs, u, ⟨oo, hoo, hxs⟩, hxi, hui⟩ := hl k _ hlk
      have hL' : h'.IsList ls[k] xs := ⟨oo, hkeep _ _ (.inl hlN) (hs₁.extBut _ _ (Nat.ne_of_lt (Nat.lt_of_lt_of_le hlN (show N ≤ N + ls.length + 2 by omega))) hoo), hxs⟩
      have hik := hit k _ hlk
      rw [if_neg (Nat.lt_irrefl k)] at hik
      refine wpAny_bind (wpAny_holding ?_)
      show wpAny _ _ (Builtin.SmallTypes.nextOf (.ref (N + k)) >>= _) _ _ _
      refine wpAny_bind (wpAny_nextOf_list_item (s := { s with heap := h' }) hik hL' hxi fun h₂ i2 sb => wpAny_pure ?_)
      replace sb : Heap.SameBut (N + k) h' h₂ := sb
      refine wpAny_pure ?_
      refine ⟨k + 1, h₂, rfl, hlt, ?_, rfl, by rw [sb.1, hsz'], fun j l e => ?_, fun c o hc e => ?_⟩
      · rw [List.take_add_one, hui]
        simp
      · by_cases c : j = k
        · subst c
          rw [hlk] at e
          obtain rfl := Option.some.inj e
          rw [if_pos (Nat.lt_succ_self j)]
          exact i2
        · have h0 := hit j l e
          have n2 : N + j ≠ N + k := by omega
          rw [show (if j < k + 1 then i + 1 else i) = (if j < k then i + 1 else i) by split <;> split <;> omega]
          exact h0.extBut sb.extBut n2
      · have nc : (c : Nat) ≠ N + k := by omega
        exact sb.extBut _ _ nc (hkeep c o hc e)
    · rintro b s' ⟨k, h', hr, hk, rfl, rfl, hsz', hit, hkeep⟩
      have hke : k = ls.length := by
        by_cases c : k < ls.length
        · rw [List.drop_eq_getElem_cons (by rw [List.length_map, List.length_range]; exact c)] at hr
          cases hr
        · omega
      subst hke
      rw [← hul, List.take_length]
      refine wpAny_bind (wpAny_newTuple ?_ (by show us.length ≤ _; rw [hul]; exact hsz))
      refine wpAny_pure ⟨_, rfl, ?_⟩
      show Q (.ref h'.objs.size) { s with heap := h'.push { cls := .type "tuple", data := .seq us.toArray } }
      have hT8 := Heap.get?_push_size h' (o := { cls := .type "tuple", data := .seq us.toArray }) rfl
      have hz8 : (h'.push { cls := .type "tuple", data := .seq us.toArray }).objs.size = h'.objs.size + 1 := Heap.size_push ..
      rw [hsz'] at hT8 hz8 ⊢
      refine hQ _ ⟨fun j l e => ?_, ?_, ⟨kept, hkn, ?_⟩, ⟨own, true, ?_, ho⟩⟩ hT8 hz8 fun c o hc e => ?_
      · have hj := (List.getElem?_eq_some_iff.mp e).1
        have h0 := hit j l e
        rw [if_pos hj] at h0
        exact h0.at fun o q => Heap.get?_push_of_some _ q
      · exact Heap.get?_push_of_some _ (hkeep _ _ (by omega) (hs₁.extBut _ _ (show (N + ls.length : Nat) ≠ N + ls.length + 2 by omega) Z.TI))
      · exact Heap.get?_push_of_some _ (hkeep _ _ (by omega) (hs₁.extBut _ _ (show (N + ls.length + 1 : Nat) ≠ N + ls.length + 2 by omega) hTO))
      · exact Heap.get?_push_of_some _ (hkeep _ _ (by omega) hz₁)
      · by_cases c2 : c = N + ls.length + 2
        · omega
        · exact Heap.get?_push_of_some _ (hkeep _ _ (by omega) (hs₁.extBut _ _ c2 e))
    · refine ⟨0, h₁, rfl, Nat.zero_le _, rfl, rfl, hs₁.1, fun j l e => ?_, fun c o hc e => e⟩
      have hj := (List.getElem?_eq_some_iff.mp e).1
      exact (Z.its j l e).extBut hs₁.extBut (show (N + j : Nat) ≠ N + ls.length + 2 by omega)

/-- the first of the lists ends -/
theorem zn_end {N i : Nat} {ls : List Addr} {l : Addr} {xs : Array Value} {Q : PySem.Fin → Shared → Prop} (hh : A.handled = none) (Z : ZAt s.heap N ls i) (h0 : ls[0]? = some l) (hlN : l < N) (hL : s.heap.IsList l xs) (hx : xs[i]? = none)
    (hE : ∀ h' e, (∀ (c : Nat) o, (c < N ∨ N + ls.length + 3 ≤ c) → s.heap.get? c = some o → h'.get? c = some o) → (∃ o, h'.get? e = some o ∧ o.cls = .type "StopIteration") → E (.ref e) { s with heap := h' }) :
    wpAny (model prog w) A (Builtin.«zip.__next__» ⟨[.ref (N + ls.length + 2)], []⟩) Q E s := by
  obtain ⟨own, f, hz, ho⟩ := Z.z
  obtain ⟨kept, hkn, hTO⟩ := Z.TO
  have hlen : 0 < ls.length := (List.getElem?_eq_some_iff.mp h0).1
  show wpAny _ _ (field (.ref (N + ls.length + 2)) 2 >>= _) _ _ _
  refine wpAny_bind (wpAny_field hz rfl (x := .bool false) rfl ?_)
  show wpAny _ _ (field (.ref (N + ls.length + 2)) 3 >>= _) _ _ _
  refine wpAny_bind (wpAny_field hz rfl (x := .ref (N + ls.length)) rfl ?_)
  refine wpAny_bind (wpAny_seqItems Z.TI rfl ?_)
  obtain ⟨n, hn⟩ : ∃ n, ls.length = n + 1 := ⟨ls.length - 1, by omega⟩
  have e0 : (List.range ls.length).map (fun j => Value.ref (N + j)) = Value.ref (N + 0) :: ((List.range n).map Nat.succ).map (fun j => Value.ref (N + j)) := by
    rw [hn, List.range_succ_eq_map]
    rfl
  have i0 := Z.its 0 l h0
  rw [e0]
  show wpAny _ _ (Builtin.SmallTypes.ownedTupleIsFree (.ref (N + ls.length + 2)) >>= _) _ _ _
  refine wpAny_bind (free_any hz ho ?_ fun h₁ hz₁ hs₁ => ?_)
  · simp only [if_true]
    refine wpAny_bind (wpAny_rule ?_)
    refine wpAny_bind (wpAny_field hz rfl (x := .ref (N + ls.length + 1)) rfl ?_)
    refine wpAny_bind (wpAny_setField_rec hz (by simp) fun h₁ hz₁ hs₁ => ?_)
    replace hz₁ : ZipF h₁ (N + ls.length + 2) (N + ls.length) (N + ls.length + 1) .ellipsis f := hz₁
    refine wpAny_bind ?_
    simp only [List.zipIdx_cons, List.forIn_cons]
    refine wpAny_bind (wpAny_bind (wpAny_onRaise ?_))
    show wpAny _ _ (Builtin.SmallTypes.nextOf (.ref (N + 0)) >>= _) _ _ _
    have n0 : (N + 0 : Nat) ≠ N + ls.length + 2 := by omega
    have nl : l ≠ N + ls.length + 2 := Nat.ne_of_lt (Nat.lt_of_lt_of_le hlN (show N ≤ N + ls.length + 2 by omega))
    refine wpAny_bind (wpAny_nextOf_list_end (s := { s with heap := h₁ }) hh (i0.extBut hs₁.extBut n0) (hL.extBut hs₁.extBut nl) hx fun h₂ e hs₂ he => ?_)
    obtain ⟨oe, hoe, hce⟩ := he
    have hz₂ : ZipF h₂ (N + ls.length + 2) (N + ls.length) (N + ls.length + 1) .ellipsis f := hs₂ _ _ n0.symm hz₁
    have hez : e ≠ N + ls.length + 2 := fun x => by rw [x, hz₂] at hoe; cases hoe; simp at hce
    refine wpAny_setField_rec hz₂ (by simp) fun h₃ _ hs₃ => hE h₃ e (fun c o hc x => ?_) ⟨oe, hs₃.extBut _ _ hez hoe, hce⟩
    have n1 : (c : Nat) ≠ N + ls.length + 2 := by omega
    have n2 : (c : Nat) ≠ N + 0 := by omega
    exact hs₃.extBut _ _ n1 (hs₂ _ _ n2 (hs₁.extBut _ _ n1 x))
  · simp only [Bool.false_eq_true, if_false]
    replace hs₁ : Heap.SameBut (N + ls.length + 2) s.heap h₁ := hs₁
    refine wpAny_bind ?_
    rw [← Array.forIn_toList]
    simp only [List.forIn_cons]
    refine wpAny_bind (wpAny_bind (wpAny_holding ?_))
    show wpAny _ _ (Builtin.SmallTypes.nextOf (.ref (N + 0)) >>= _) _ _ _
    have n0 : (N + 0 : Nat) ≠ N + ls.length + 2 := by omega
    have nl : l ≠ N + ls.length + 2 := Nat.ne_of_lt (Nat.lt_of_lt_of_le hlN (show N ≤ N + ls.length + 2 by omega))
    refine wpAny_bind (wpAny_nextOf_list_end (s := { s with heap := h₁ }) hh (i0.extBut hs₁.extBut n0) (hL.extBut hs₁.extBut nl) hx fun h₂ e hs₂ he => ?_)
    refine hE h₂ e (fun c o hc x => ?_) he
    have n1 : (c : Nat) ≠ N + ls.length + 2 := by omega
    have n2 : (c : Nat) ≠ N + 0 := by omega
    exact hs₂ _ _ n2 (hs₁.extBut _ _ n1 x)
end

/-- many lists of one length, at each turn a new tuple of their items -/
def Itn (K : PySem.W.Frag) (as : List Addr) (m : Nat) : It :=
  ⟨fun i H => i < m ∧ ∀ a ∈ as, ∃ xs, SqL K H a xs ∧ xs.length = m,
    fun i H v H' => ∃ T us, v = .ref T ∧ H T = none ∧ H' = upd H T (.tup us) ∧ us.length = as.length ∧ ∀ (j : Nat) a, as[j]? = some a → ∀ xs, SqL K H a xs → ∃ u, xs[i]? = some u ∧ us[j]? = some u,
    fun i H => m ≤ i ∧ ∀ a ∈ as, ∃ xs, SqL K H a xs ∧ xs.length = m⟩
theorem cols {X : Cx} {pins : List (Addr × Obj)} {s : Shared} {σ : L2.St} {H : Hp} (I : Inv X pins σ H s) {i : Nat} : ∀ as : List Addr, (∀ a ∈ as, ∃ xs, SqL X.K H a xs ∧ i < xs.length) →
    ∃ (us : List Value) (vs : List V), Vals vs us ∧ us.length = as.length ∧ ∀ (j : Nat) a, as[j]? = some a → ∃ (arr : Array Value) (xs : List V) (u : Value) (x : V), s.heap.IsList a arr ∧ arr[i]? = some u ∧ us[j]? = some u ∧ SqL X.K H a xs ∧ xs[i]? = some x ∧ vs[j]? = some x
  | [], _ => ⟨[], [], .nil, rfl, fun j a e => by simp at e⟩
  | a :: as, h => by
    obtain ⟨us, vs, r, l, q⟩ := cols I as fun b hb => h b (List.mem_cons_of_mem _ hb)
    obtain ⟨xs, hx, hlt⟩ := h a List.mem_cons_self
    obtain ⟨its, rv, p, _⟩ := I.list hx
    have hxi : xs[i]? = some xs[i] := List.getElem?_eq_getElem hlt
    obtain ⟨u, hu, ru⟩ := rv.get hxi
    refine ⟨u :: us, xs[i] :: vs, .cons ru r, by rw [List.length_cons, List.length_cons, l], fun j b e => ?_⟩
    cases j with
    | zero =>
      simp at e
      subst e
      exact ⟨its.toArray, xs, u, xs[i], p.isList, by simpa using hu, rfl, hx, hxi, rfl⟩
    | succ j => exact q j b (by simpa using e)
theorem mem_fp {N n b : Nat} : b ∈ (List.range (n + 3)).map (N + ·) ↔ N ≤ b ∧ b < N + n + 3 := by
  rw [List.mem_map]
  constructor
  · rintro ⟨j, hj, rfl⟩
    have := List.mem_range.mp hj
    omega
  · rintro ⟨h1, h2⟩
    exact ⟨b - N, List.mem_range.mpr (by omega), by omega⟩
theorem not_fp {N n b : Nat} (h : b ∉ (List.range (n + 3)).map (N + ·)) : b < N ∨ N + n + 3 ≤ b := by
  by_cases c : N ≤ b ∧ b < N + n + 3
  · exact absurd (mem_fp.mpr c) h
  · omega
theorem of_fp {N n b : Nat} (h : b ∈ (List.range (n + 3)).map (N + ·)) : (∃ j, j < n ∧ b = N + j) ∨ b = N + n ∨ b = N + n + 1 ∨ b = N + n + 2 := by
  obtain ⟨h1, h2⟩ := mem_fp.mp h
  by_cases c : b < N + n
  · exact .inl ⟨b - N, by omega, by omega⟩
  · omega
theorem turn_zn {P : Program} {w : World} {K : PySem.W.Frag} {x : Str} {tpos : Pos} {N m : Nat} {as : List Addr} (hne : 0 < as.length) (hsz : as.length ≤ 1000) (hlt : ∀ a ∈ as, a < N) :
    Turn P w K (.Name x tpos) (Itn K as m) ((List.range (as.length + 3)).map (N + ·)) (N + as.length + 2) (fun i h => ZAt h N as i) where
  mem := mem_fp.mpr ⟨by omega, by omega⟩
  obj := fun i h Z b hb => by
    obtain ⟨own, f, hz, _⟩ := Z.z
    obtain ⟨kept, _, hTO⟩ := Z.TO
    rcases of_fp hb with ⟨j, hj, c⟩ | c | c | c
    · obtain ⟨o, ho, hc, hd⟩ := Z.its j _ (List.getElem?_eq_getElem hj)
      rw [c]
      exact ⟨o, ho, fun v q => by rw [hd] at q; cases q⟩
    · rw [c]; exact ⟨_, Z.TI, fun v q => nomatch q⟩
    · rw [c]; exact ⟨_, hTO, fun v q => nomatch q⟩
    · rw [c]; exact ⟨_, hz, fun v q => nomatch q⟩
  keep := fun i h h' Z k => by
    obtain ⟨own, f, hz, ho⟩ := Z.z
    obtain ⟨kept, hkn, hTO⟩ := Z.TO
    refine ⟨fun j l e => ?_, k _ (mem_fp.mpr ⟨by omega, by omega⟩) _ Z.TI, ⟨kept, hkn, k _ (mem_fp.mpr ⟨by omega, by omega⟩) _ hTO⟩, ⟨own, f, k _ (mem_fp.mpr ⟨by omega, by omega⟩) _ hz, ho⟩⟩
    have hj := (List.getElem?_eq_some_iff.mp e).1
    exact (Z.its j l e).at fun o q => k _ (mem_fp.mpr ⟨by omega, by omega⟩) _ q
  item := by
    intro X hP hw hK hc i pins s σ H E I hf Z hg
    subst hP hw hK
    obtain ⟨him, hrows⟩ := hg
    obtain ⟨us, vs, rv, hul, hcol⟩ := cols I (i := i) as fun a ha => by obtain ⟨xs, h1, h2⟩ := hrows a ha; exact ⟨xs, h1, by omega⟩
    have hvl : vs.length = as.length := by rw [rv.length, hul]
    have big : as.length ≤ sizeLine := by rw [sizeLine_eq]; omega
    obtain ⟨own, f, hz, _⟩ := Z.z
    have hT : s.TypeIs (.ref (N + as.length + 2)) "zip" := ⟨_, hz, rfl⟩
    unfold pyNext
    refine wpAny_bind (wpAny_attempt (wpAny_callSpecial?_slot (name := Str.ofString "__next__") hT F.slot_zip_next
      (wpAny_call_entry F.slot_zip_next hT F.entry_zip_next
        (zn_next Z hne hul (fun j l e => ?_) big fun h' Z' hT8 hz8 hk => wpAny_pure ?_) (F.args_zip_next_1 _))))
    · obtain ⟨arr, xs, u, x, h1, h2, h3, _⟩ := hcol j l e
      exact ⟨hlt l (List.mem_of_getElem? e), arr, u, h1, h2, h3⟩
    refine ⟨_, rfl, ?_⟩
    refine wpAny_pure ?_
    have new : ObjOk X.prog X.w (upd H s.heap.objs.size (.tup vs)) h' s.heap.objs.size (.tup vs) :=
      ⟨by rw [hvl]; exact big, us, rv, ⟨_, hT8, rfl, _, rfl⟩⟩
    have I1 : Inv X pins σ (upd H s.heap.objs.size (.tup vs)) { s with heap := h' } :=
      I.turnedNew (t' := s.toks) (ch := (List.range (as.length + 3)).map (N + ·)) (fun b o hb q => hk b o (not_fp hb) q) hf (Nat.le_refl _) new
    refine ⟨.ref s.heap.objs.size, _, I1, rfl, ⟨_, vs, rfl, I.hok.fresh (Nat.le_refl _), rfl, hvl, fun j a e xs hx => ?_⟩, Z', fun b hb => ?_⟩
    · obtain ⟨arr, xs', u, x, _, _, _, h4, h5, h6⟩ := hcol j a e
      rw [I.list_inj hx h4]
      exact ⟨x, h5, h6⟩
    · have hb2 : b < s.heap.objs.size := Nat.lt_of_le_of_lt (Nat.le_of_lt_succ (mem_fp.mp hb).2) (Heap.lt_size hz)
      rw [upd_ne (Nat.ne_of_lt hb2)]
      exact (hf b hb).1
  done := by
    intro X hP hw hK hc i pins s σ H E I hf Z hg
    subst hP hw hK
    obtain ⟨him, hrows⟩ := hg
    have h0 : as[0]? = some as[0] := List.getElem?_eq_getElem hne
    obtain ⟨xs, hx, hxl⟩ := hrows as[0] (List.getElem_mem hne)
    obtain ⟨its, rv, p, _⟩ := I.list hx
    have hil := rv.length
    obtain ⟨own, f, hz, _⟩ := Z.z
    have hT : s.TypeIs (.ref (N + as.length + 2)) "zip" := ⟨_, hz, rfl⟩
    unfold pyNext
    refine wpAny_bind (wpAny_attempt (wpAny_callSpecial?_slot (name := Str.ofString "__next__") hT F.slot_zip_next
      (wpAny_call_entry F.slot_zip_next hT F.entry_zip_next (zn_end (I.ok.hd hc) Z h0 (hlt _ (List.getElem_mem hne)) p.isList (by simp; omega) fun h' e hk he => ?_) (F.args_zip_next_1 _))))
    obtain ⟨o, ho, hc'⟩ := he
    refine wpAny_bind (wpAny_isInstance (T := "StopIteration") (b := true) ⟨o, ho, hc'⟩ isSubtype_stop ?_)
    exact wpAny_pure ⟨rfl, I.turnedL (t' := s.toks) (ch := (List.range (as.length + 3)).map (N + ·)) (fun b o hb q => hk b o (not_fp hb) q) hf⟩
  self := fun A i s Q E Z h => by
    obtain ⟨own, f, hz, _⟩ := Z.z
    have hT : s.TypeIs (.ref (N + as.length + 2)) "zip" := ⟨_, hz, rfl⟩
    refine wpAny_pyIter_slot hT F.slot_zip_iter (wpAny_call_entry F.slot_zip_iter hT F.entry_zip_iter ?_ (F.args_zip_iter_1 _))
    show wpAny _ _ (ret (.ref (N + as.length + 2))) _ _ _
    exact wpAny_pure ⟨_, rfl, "zip", _, hT, F.slot_zip_next.lookup, h⟩

theorem refs_of : ∀ {as : List Addr} {us : List Value}, Vals (as.map V.ref) us → us = as.map Value.ref
  | [], _, .nil => rfl
  | a :: as, _, .cons r rr => by
    cases r
    rw [refs_of rr]
    rfl
def iZn (K : PySem.W.Frag) (te : TE) : TI := fun σ H R => te σ H fun x H1 => ∃ a as m, x = .ref a ∧ SqL K H1 a (as.map V.ref) ∧ 0 < as.length ∧ as.length ≤ 1000 ∧ (∀ b ∈ as, ∃ xs, SqL K H1 b xs ∧ xs.length = m) ∧ R (Itn K as m) H1
theorem pi_zn {X : Cx} {e : Expr} {te : TE} {x : Str} {p sp pos tpos : Pos} (hg : Gl X "zip") (hm : X.mg "zip" = none) (he : PE X e te) (hs : starEach [.Starred e sp] X.env = [(true, eval e X.env)] := by rfl) :
    PI X (.Name x tpos) (.Call (.Name "zip" p) [.Starred e sp] [] pos) (iZn X.K te) := by
  refine ⟨fun pins s σ H R I h => ?_⟩
  refine Call_ (ld_blt I hg hm PyProof.Rows.boot_zip ?_)
  rw [hs]
  refine PySem.W.ks_call (P := fun _ => True) rfl (fun h _ => ⟨.machine, .inr (.inl rfl), PySem.W.Looks.now⟩) (PySem.W.ks_lone (thn (he.run pins s σ H _ I h) fun v s1 ⟨y, H1, I1, ry, a, as, m, ex, hq, hne, hsz, hrows, q⟩ => ?_))
  subst ex
  obtain rfl : v = Value.ref a := ry
  refine StX.star_any I1 (.inr hq) fun us s2 I2 rv => ⟨trivial, ?_⟩
  obtain rfl := refs_of rv
  have big : as.length ≤ sizeLine := by rw [sizeLine_eq]; omega
  have hlists : ∀ b ∈ as, ∃ arr, s2.heap.IsList b arr := fun b hb => by
    obtain ⟨xs, hx, _⟩ := hrows b hb
    obtain ⟨its, _, p, _⟩ := I2.list hx
    exact ⟨_, p.isList⟩
  have hlt : ∀ b ∈ as, b < s2.heap.objs.size := fun b hb => by
    obtain ⟨arr, o, ho, _⟩ := hlists b hb
    exact Heap.lt_size ho
  obtain ⟨b0, bs, hcons⟩ : ∃ b0 bs, as = b0 :: bs := by
    cases as with
    | nil => exact absurd hne (Nat.lt_irrefl 0)
    | cons b0 bs => exact ⟨b0, bs, rfl⟩
  show wpAny _ _ (call (.type "zip") (as.map Value.ref)) _ _ _
  refine callType_new F.called_zip (by decide) (tc _) (by rw [hcons]; exact nc _ _) (fun obj => ao obj _) F.entry_zip_new (meets_zn as) ⟨big, hlists, fun h' Z hk hz => ?_⟩
  have hT : ({ s2 with heap := h' } : Shared).TypeIs (.ref (s2.heap.objs.size + as.length + 2)) "zip" := ⟨_, Z.z, rfl⟩
  refine ⟨hT, ?_⟩
  have Z0 : ZAt h' s2.heap.objs.size as 0 := ⟨Z.its, Z.TI, ⟨_, by simp, Z.TO⟩, ⟨_, _, Z.z, .inl rfl⟩⟩
  have T := turn_zn (P := X.prog) (w := X.w) (K := X.K) (x := x) (tpos := tpos) (m := m) hne hsz hlt
  refine T.self X.A 0 _ _ _ Z0 ?_
  have I3 : Inv X pins σ H1 { s2 with heap := h' } := I2.kept (t' := s2.toks) hk
  exact ⟨_, _, _, _, H1, rfl, I3, T, Z0, fun b hb => I2.fpOk (mem_fp.mp hb).1 (I2.hok.fresh (mem_fp.mp hb).1), q⟩
theorem g_zn {K : PySem.W.Frag} {te : TE} {σ : L2.St} {H : Hp} {R : It → Hp → Prop} (q : te σ H fun x H1 => ∃ a as m, x = .ref a ∧ SqL K H1 a (as.map V.ref) ∧ 0 < as.length ∧ as.length ≤ 1000 ∧ (∀ b ∈ as, ∃ xs, SqL K H1 b xs ∧ xs.length = m) ∧ R (Itn K as m) H1) : iZn K te σ H R := q
section
variable {K : PySem.W.Frag} {as : List Addr} {m : Nat} {Body : V → Hp → (Hp → Prop) → Prop} {End : Hp → Prop} {H0 : Hp}
theorem it_zn (I : Nat → Hp → Prop) (start : I 0 H0) (rows : Nat → List V) (at_ : ∀ k G, I k G → ∀ (j : Nat) a, as[j]? = some a → SqL K G a (rows j) ∧ (rows j).length = m)
    (turn : ∀ k us T G, k < m → us.length = as.length → (∀ j, j < as.length → us[j]? = (rows j)[k]?) → I k G → G T = none → Body (.ref T) (upd G T (.tup us)) (I (k + 1))) (fin : ∀ G, I m G → End G) :
    ∃ W : Nat → Nat → Hp → Prop, (∃ c, W 0 c H0) ∧ ∀ i c H, W i c H → ((Itn K as m).stop i H ∧ End H) ∨ ((Itn K as m).go i H ∧ ∃ Nx : Hp → Prop, (∀ H', Nx H' → ∃ c', c' < c ∧ W (i + 1) c' H') ∧ ∀ x H', (Itn K as m).yld i H x H' → Body x H' Nx) := by
  refine ⟨fun k c G => c + k = m ∧ I k G, ⟨m, rfl, start⟩, fun k c G hw => ?_⟩
  obtain ⟨hc, hI⟩ := hw
  have ha := at_ k G hI
  have hrows : ∀ a ∈ as, ∃ xs, SqL K G a xs ∧ xs.length = m := fun a hm => by
    obtain ⟨j, hj⟩ := List.getElem?_of_mem hm
    exact ⟨_, ha j a hj⟩
  cases c with
  | zero =>
    obtain rfl : k = m := by omega
    exact .inl ⟨⟨Nat.le_refl _, hrows⟩, fin G hI⟩
  | succ c =>
    refine .inr ⟨⟨by omega, hrows⟩, I (k + 1), fun G' h' => ⟨c, Nat.lt_succ_self c, by omega, h'⟩, fun v G' hv => ?_⟩
    obtain ⟨T, us, rfl, hT, rfl, hl, hcol⟩ := hv
    refine turn k us T G (by omega) hl (fun j hj => ?_) hI hT
    obtain ⟨u, h1, h2⟩ := hcol j _ (List.getElem?_eq_getElem hj) _ (ha j _ (List.getElem?_eq_getElem hj)).1
    rw [h1, h2]
end
end Zn

/-! enumerate(list, k). -/
namespace El
open PySem PySem.Spec PyProof.Rows L2 Lw
/-- the list at a at each turn, each item in a new pair with its number from k0 on -/
def IteL (K : PySem.W.Frag) (k0 : Int) (a : Addr) : It :=
  ⟨fun i H => ∃ (xs : List V) (x : V), SqL K H a xs ∧ xs[i]? = some x, fun i H v H' => ∃ T x, v = .ref T ∧ H T = none ∧ H' = upd H T (.tup [.int (k0 + (i : Nat)), x]) ∧ ∀ xs, SqL K H a xs → xs[i]? = some x, fun i H => ∃ xs : List V, SqL K H a xs ∧ xs.length ≤ i⟩
theorem turn_enumL {P : Program} {w : World} {K : PySem.W.Frag} {elts : List Expr} {kk : Nat} {tpos : Pos} {k0 : Int} (a e it : Addr) (hea : e ≠ a) (hia : a ≠ it) :
    Turn P w K (.Tuple elts kk tpos) (IteL K k0 a) [e, it] e (fun i h => (∃ old, IsEnum h e it (k0 + ((i : Nat) : Int)) old) ∧ h.IsListIter it a i ∧ e ≠ it) where
  mem := by simp
  obj := fun i h st b hb => by
    obtain ⟨⟨old, he⟩, ⟨o, ho, hc, hd⟩, _⟩ := st
    have e' : b = e ∨ b = it := by simpa using hb
    rcases e' with z | z
    · rw [z]; exact ⟨_, he, fun v q => nomatch q⟩
    · rw [z]; exact ⟨o, ho, fun v q => by rw [hd] at q; cases q⟩
  keep := fun i h h' st k => let ⟨⟨old, he⟩, hi, hne⟩ := st; ⟨⟨old, k e (by simp) _ he⟩, hi.at fun o q => k it (by simp) o q, hne⟩
  item := by
    intro X hP hw hK hc i pins s σ H E I hf st hg
    subst hP hw hK
    obtain ⟨⟨old, he⟩, hit, hne⟩ := st
    obtain ⟨xs, x, hq, hx⟩ := hg
    obtain ⟨its, rv, p, hz⟩ := I.list hq
    obtain ⟨u, hu, ru⟩ := rv.get hx
    have hel : e < s.heap.objs.size := Heap.lt_size he
    have hil : it < s.heap.objs.size := by obtain ⟨_, q, _⟩ := hit; exact Heap.lt_size q
    have hhd := I.ok.hd hc
    have D := Draws.list (prog := X.prog) (w := X.w) (A := X.A.in1) hhd it a hia its.toArray
    have hlt : i < its.toArray.size := by
      have := (List.getElem?_eq_some_iff.mp hu).1
      simpa using this
    refine wpAny_pyNext_enum_itemC D he ⟨hit, p.isList⟩ hlt hne (by simp [hne, hea]) fun x2 h' tk px ho st' hT hsz hk => ?_
    have ex2 : x2 = u := by
      have z : its.toArray[i]? = some x2 := px
      have z2 : its.toArray[i]? = some u := by simpa using hu
      rw [z] at z2
      exact Option.some.inj z2
    subst ex2
    refine ⟨_, rfl, wpAny_letOwnedTupleGo_enum (s := { s with heap := h', toks := tk + 1 }) ho fun h'' he' sb => ?_⟩
    have hT2 : h''.get? s.heap.objs.size = some { cls := .type "tuple", data := .seq #[.int (k0 + (i : Int)) tk, x2] } := (sb.2 _ (Nat.ne_of_gt hel)).trans hT
    have new : ObjOk X.prog X.w (upd H s.heap.objs.size (.tup [.int (k0 + (i : Nat)), x])) h'' s.heap.objs.size (.tup [.int (k0 + (i : Nat)), x]) :=
      ⟨by show 2 ≤ sizeLine; decide, [.int (k0 + (i : Int)) tk, x2], .cons ⟨_, rfl⟩ (.cons ru .nil), ⟨_, hT2, rfl, _, rfl⟩⟩
    have I1 : Inv X pins σ (upd H s.heap.objs.size (.tup [.int (k0 + (i : Nat)), x])) { s with heap := h'', toks := tk + 1 } :=
      I.turnedNew (ch := [e, it]) (fun b ob hb q => (sb.2 b (fun z => hb (by simp [z]))).trans (hk b ob (fun z => hb (by simp [z])) (fun z => hb (by simp [z])) q)) hf (Nat.le_refl _) new
    refine ⟨.ref s.heap.objs.size, _, I1, rfl, ⟨_, x, rfl, I.hok.fresh (Nat.le_refl _), rfl, fun ys hy => by rw [I.list_inj hy hq]; exact hx⟩, ⟨⟨x2, ?_⟩, st'.1.at fun o q => (sb.2 it (Ne.symm hne)).trans q, hne⟩, fun b hb => ?_⟩
    · have e1 : k0 + ((i + 1 : Nat) : Int) = k0 + (i : Int) + 1 := by omega
      rw [e1]; exact he'
    · have hb' : b < s.heap.objs.size := by
        have e' : b = e ∨ b = it := by simpa using hb
        rcases e' with z | z
        · rw [z]; exact hel
        · rw [z]; exact hil
      rw [upd_ne (Nat.ne_of_lt hb')]
      exact (hf b hb).1
  done := by
    intro X hP hw hK hc i pins s σ H E I hf st hg
    subst hP hw hK
    obtain ⟨⟨old, he⟩, hit, hne⟩ := st
    obtain ⟨xs, hq, hx⟩ := hg
    obtain ⟨its, rv, p, hz⟩ := I.list hq
    obtain ⟨f0, f1, f2, f3, f4, f5⟩ := hf it (by simp)
    have hl := rv.length
    have hT : s.TypeIs (.ref e) "enumerate" := ⟨_, he, rfl⟩
    unfold pyNext
    refine wpAny_bind (wpAny_attempt (wpAny_callSpecial?_slot (name := Str.ofString "__next__") hT F.slot_enumerate_next
      (wpAny_call_entry F.slot_enumerate_next hT F.entry_enumerate_next ?_ (F.args_enumerate_next_1 _))))
    show wpAny _ _ (field (.ref e) 2 >>= _) _ _ _
    refine wpAny_bind (wpAny_field he rfl (x := .ref it) rfl ?_)
    refine wpAny_bind (wpAny_nextOf_list_end (I.ok.hd hc) hit p.isList (by simp; omega) fun h' x he' hx' => ?_)
    obtain ⟨o, ho, hc'⟩ := hx'
    refine wpAny_bind (wpAny_isInstance (T := "StopIteration") (b := true) ⟨o, ho, hc'⟩ isSubtype_stop ?_)
    exact wpAny_pure ⟨rfl, I.turned (t' := s.toks) (fun b o hb q => he' b o hb q) f0 f1 f3 f4 f5⟩
  self := fun A i s Q E st h => let ⟨⟨_, he⟩, _⟩ := st; wpAny_pyIter_enum he h
def iEnumL (K : PySem.W.Frag) (ta : TA) : TI := fun σ H R => ta σ H fun vs H1 => ∃ a k0 xs, vs = [.ref a, .int k0] ∧ SqL K H1 a xs ∧ -(2 ^ 60) ≤ k0 ∧ k0 ≤ 2 ^ 60 ∧ R (IteL K k0 a) H1
theorem pi_enumL {X : Cx} {e e2 : Expr} {ta : TA} {p pos tpos : Pos} {elts : List Expr} {kk : Nat} (hg : Gl X "enumerate") (hm : X.mg "enumerate" = none) (ha : PA X [e, e2] ta)
    (hs : starEach [e, e2] X.env = (false, eval e X.env) :: starEach [e2] X.env := by rfl) (hpl : (backTo pos (starEach [e2] X.env)).any (·.1) = false := by rfl) :
    PI X (.Tuple elts kk tpos) (.Call (.Name "enumerate" p) [e, e2] [] pos) (iEnumL X.K ta) := by
  refine ⟨fun pins s σ H R I h => ?_⟩
  refine Call_ (ld_blt I hg hm boot_enumerate (PyProof.Rows.callWith_type1 (thn (ha.run pos pins s σ H _ I h) fun us s1 ⟨vs, H1, I1, r1, q1⟩ => ?_) hs hpl))
  obtain ⟨a, k0, xs, ex, hq, hk0, hk1, q⟩ := q1
  subst ex
  cases r1 with
  | cons r rr =>
    cases rr with
    | cons r2 rr =>
      cases rr
      cases r
      obtain ⟨t, rfl⟩ := r2
      obtain ⟨its, rv, p', hz⟩ := I1.list hq
      have hal : a < s1.heap.objs.size := p'.lt
      refine enum_begins (begins_list a its.toArray) p'.isList (by omega) (by omega) fun h' he hit hsz hk => wpAny_pyIter_enum he ?_
      have I2 : Inv X pins σ H1 { s1 with heap := h' } := I1.kept (t' := s1.toks) hk
      refine ⟨s1.heap.objs.size + 1, [s1.heap.objs.size + 1, s1.heap.objs.size], _, _, H1, rfl, I2, turn_enumL (k0 := k0) a (s1.heap.objs.size + 1) s1.heap.objs.size (Nat.ne_of_gt (Nat.lt_succ_of_lt hal)) (Nat.ne_of_lt hal), ⟨⟨.none, by simpa using he⟩, ⟨_, hit, rfl, rfl⟩, Nat.succ_ne_self _⟩, fun b hb => ?_, q⟩
      have e' : b = s1.heap.objs.size + 1 ∨ b = s1.heap.objs.size := by simpa using hb
      have hle : s1.heap.objs.size ≤ b := by
        rcases e' with z | z
        · rw [z]; exact Nat.le_add_right _ _
        · rw [z]; exact Nat.le_refl _
      exact I1.fpOk hle (I1.hok.fresh hle)
theorem g_enumL {K : PySem.W.Frag} {ta : TA} {σ : L2.St} {H : Hp} {R : It → Hp → Prop} (q : ta σ H fun vs H1 => ∃ a k0 xs, vs = [.ref a, .int k0] ∧ SqL K H1 a xs ∧ -(2 ^ 60) ≤ k0 ∧ k0 ≤ 2 ^ 60 ∧ R (IteL K k0 a) H1) : iEnumL K ta σ H R := q
section
variable {K : PySem.W.Frag} {a : Addr} {xs : List V} {Body : V → Hp → (Hp → Prop) → Prop} {End : Hp → Prop} {H0 : Hp}
theorem it_enumL {k0 : Int} (I : Nat → Hp → Prop) (start : I 0 H0) (at_ : ∀ k G, I k G → SqL K G a xs)
    (turn : ∀ k x T G, xs[k]? = some x → I k G → G T = none → Body (.ref T) (upd G T (.tup [.int (k0 + (k : Nat)), x])) (I (k + 1))) (fin : ∀ G, I xs.length G → End G) :
    ∃ W : Nat → Nat → Hp → Prop, (∃ m, W 0 m H0) ∧ ∀ i m H, W i m H → ((IteL K k0 a).stop i H ∧ End H) ∨ ((IteL K k0 a).go i H ∧ ∃ Nx : Hp → Prop, (∀ H', Nx H' → ∃ m', m' < m ∧ W (i + 1) m' H') ∧ ∀ x H', (IteL K k0 a).yld i H x H' → Body x H' Nx) := by
  refine ⟨fun k c G => c + k = xs.length ∧ I k G, ⟨xs.length, rfl, start⟩, fun k c G hw => ?_⟩
  obtain ⟨hc, hI⟩ := hw
  have ha := at_ k G hI
  cases c with
  | zero =>
    obtain rfl : k = xs.length := by omega
    exact .inl ⟨⟨xs, ha, Nat.le_refl _⟩, fin G hI⟩
  | succ c =>
    have hx : k < xs.length := by omega
    refine .inr ⟨⟨xs, xs[k], ha, List.getElem?_eq_getElem hx⟩, I (k + 1), fun G' h' => ⟨c, Nat.lt_succ_self c, by omega, h'⟩, fun v G' hv => ?_⟩
    obtain ⟨T, x', rfl, hT, rfl, f1⟩ := hv
    exact turn k x' T G (f1 xs ha) hI hT
end
theorem for_enumK {K : PySem.W.Frag} {a : Addr} {xs : List V} {k0 : Int} {g : TG} {tb : TS} {D : Ends} {σ : L2.St} {H : Hp} (Pv : Nat → L2.St → Hp → Prop) (h0 : Pv 0 σ H) (hq : ∀ i σ H, Pv i σ H → SqL K H a xs)
    (hs : ∀ (i : Nat) (x : V) (T : Addr) (σ : L2.St) (H : Hp), xs[i]? = some x → Pv i σ H → H T = none → g (.ref T) σ (upd H T (.tup [.int (k0 + (i : Nat)), x])) fun σ2 H2 => tb { D with nx := Pv (i + 1), ct := Pv (i + 1), bk := D.nx } σ2 H2) (hd : ∀ σ H, Pv xs.length σ H → D.nx σ H) :
    ∃ W : Nat → Nat → L2.St → Hp → Prop, (∃ m, W 0 m σ H) ∧ ∀ i m σ H, W i m σ H →
      ((IteL K k0 a).stop i H ∧ D.nx σ H) ∨ ((IteL K k0 a).go i H ∧ ∃ N : L2.St → Hp → Prop, (∀ σ' H', N σ' H' → ∃ m', m' < m ∧ W (i + 1) m' σ' H') ∧ ∀ v H', (IteL K k0 a).yld i H v H' → g v σ H' fun σ2 H2 => tb { D with nx := N, ct := N, bk := D.nx } σ2 H2) := by
  refine ⟨fun i m σ H => m + i = xs.length ∧ Pv i σ H, ⟨xs.length, rfl, h0⟩, fun i m σ H hw => ?_⟩
  obtain ⟨hm, p⟩ := hw
  have qx := hq i σ H p
  cases m with
  | zero =>
    obtain rfl : i = xs.length := by omega
    exact .inl ⟨⟨xs, qx, Nat.le_refl _⟩, hd σ H p⟩
  | succ m =>
    have hlt : i < xs.length := by omega
    refine .inr ⟨⟨xs, xs[i], qx, List.getElem?_eq_getElem hlt⟩, Pv (i + 1), fun σ' H' p' => ⟨m, Nat.lt_succ_self m, by omega, p'⟩, fun v H' y => ?_⟩
    obtain ⟨T, x', rfl, hT, rfl, f1⟩ := y
    exact hs i x' T σ H (f1 xs qx) p hT
end El

open Fm
namespace Th
theorem int_lt_or_ge (a b : Int) : a < b ∨ b ≤ a := by omega
/-- the ranks of a box: knots, of as great ones the first in order the greatest -/
def rankF (g s X0 Z0 D M x z : Int) : Int := M * knotL g s x z + (M - 1 - ((x - X0) * D + (z - Z0)))
def rowF (g s X0 Z0 : Int) (W D i : Nat) : List Int := (List.range D).map fun j : Nat => rankF g s X0 Z0 D (W * D) (X0 + i) (Z0 + j)
def matF (g s X0 Z0 : Int) (W D : Nat) : List (List Int) := (List.range W).map (rowF g s X0 Z0 W D)
def maxL (ns : List Int) : Int := ns.max?.getD 0
theorem max_eq {ns : List Int} {m : Int} (h1 : m ∈ ns) (h2 : ∀ y ∈ ns, y ≤ m) : maxL ns = m := by
  unfold maxL
  rw [List.max?_eq_some_iff.mpr ⟨h1, h2⟩]
  rfl
theorem maxL_spec {ns : List Int} (h : ns ≠ []) : maxL ns ∈ ns ∧ ∀ y ∈ ns, y ≤ maxL ns := by
  unfold maxL
  cases e : ns.max? with
  | none => exact absurd (List.max?_eq_none_iff.mp e) h
  | some m => exact List.max?_eq_some_iff.mp e
def rowMax (far D : Nat) (row : List Int) : List Int := (List.range (D - 2 * far)).map fun j => maxL ((row.drop j).take (2 * far + 1))
def winF (M : List (List Int)) (far D : Nat) : List (List Int) := M.map (rowMax far D)
def nearRow (M : List (List Int)) (far D i : Nat) : List Int := (List.range (D - 2 * far)).map fun j => maxL ((((winF M far D).drop i).take (2 * far + 1)).map fun row => row.getD j 0)
def nearF (M : List (List Int)) (far D : Nat) : List (List Int) := (List.range (M.length - 2 * far)).map (nearRow M far D)
/-- one point is before another: its knot is greater, or as great and it is first in order -/
def Bt (g s x' z' x z : Int) : Prop := knotL g s x z < knotL g s x' z' ∨ (knotL g s x z = knotL g s x' z' ∧ (x' < x ∨ (x' = x ∧ z' < z)))
instance (g s x' z' x z : Int) : Decidable (Bt g s x' z' x z) := inferInstanceAs (Decidable (_ ∨ _))
theorem lexM {M k k' r r' : Int} (h1 : 0 ≤ r) (h2 : r < M) (h3 : 0 ≤ r') (h4 : r' < M) : M * k + r < M * k' + r' ↔ k < k' ∨ (k = k' ∧ r < r') := by
  rcases Int.lt_trichotomy k k' with h | h | h
  · have : M * (k + 1) ≤ M * k' := Int.mul_le_mul_of_nonneg_left (by omega) (by omega)
    rw [Int.mul_add, Int.mul_one] at this
    exact ⟨fun _ => .inl h, fun _ => by omega⟩
  · subst h
    exact ⟨fun h => .inr ⟨rfl, by omega⟩, fun h => by rcases h with h | ⟨_, h⟩ <;> omega⟩
  · have : M * (k' + 1) ≤ M * k := Int.mul_le_mul_of_nonneg_left (by omega) (by omega)
    rw [Int.mul_add, Int.mul_one] at this
    exact ⟨fun h => by omega, fun h => by omega⟩
theorem place_in {W D : Nat} {a b : Int} (a0 : 0 ≤ a) (a1 : a < W) (b0 : 0 ≤ b) (b1 : b < D) : 0 ≤ a * D + b ∧ a * D + b < (W : Int) * D := by
  have h1 : 0 ≤ a * (D : Int) := Int.mul_nonneg a0 (by omega)
  have h2 : (a + 1) * (D : Int) ≤ W * D := Int.mul_le_mul_of_nonneg_right (by omega) (by omega)
  rw [Int.add_mul, Int.one_mul] at h2
  omega
theorem rank_lt {g s X0 Z0 : Int} {W D : Nat} {x z x' z' : Int} (x0 : X0 ≤ x) (x1 : x < X0 + W) (z0 : Z0 ≤ z) (z1 : z < Z0 + D) (y0 : X0 ≤ x') (y1 : x' < X0 + W) (w0 : Z0 ≤ z') (w1 : z' < Z0 + D) :
    rankF g s X0 Z0 D (W * D) x z < rankF g s X0 Z0 D (W * D) x' z' ↔ Bt g s x' z' x z := by
  have p := place_in (W := W) (D := D) (a := x - X0) (b := z - Z0) (by omega) (by omega) (by omega) (by omega)
  have p' := place_in (W := W) (D := D) (a := x' - X0) (b := z' - Z0) (by omega) (by omega) (by omega) (by omega)
  unfold rankF Bt
  rw [lexM (by omega) (by omega) (by omega) (by omega)]
  have hp : ((W : Int) * D - 1 - ((x - X0) * D + (z - Z0)) < (W : Int) * D - 1 - ((x' - X0) * D + (z' - Z0))) ↔ (x' < x ∨ (x' = x ∧ z' < z)) := by
    have := lexM (M := (D : Int)) (k := x' - X0) (k' := x - X0) (r := z' - Z0) (r' := z - Z0) (by omega) (by omega) (by omega) (by omega)
    rw [Int.mul_comm (D : Int), Int.mul_comm (D : Int)] at this
    constructor
    · intro h
      rcases this.mp (by omega) with h | ⟨h, h'⟩
      · exact .inl (by omega)
      · exact .inr ⟨by omega, by omega⟩
    · intro h
      have := this.mpr (by rcases h with h | ⟨h, h'⟩; exact .inl (by omega); exact .inr ⟨by omega, by omega⟩)
      omega
  rw [hp]
theorem rank_least {g s X0 Z0 : Int} {W D : Nat} {x z least : Int} (x0 : X0 ≤ x) (x1 : x < X0 + W) (z0 : Z0 ≤ z) (z1 : z < Z0 + D) : least * ((W : Int) * D) ≤ rankF g s X0 Z0 D (W * D) x z ↔ least ≤ knotL g s x z := by
  have p := place_in (W := W) (D := D) (a := x - X0) (b := z - Z0) (by omega) (by omega) (by omega) (by omega)
  unfold rankF
  have := lexM (M := (W : Int) * D) (k := knotL g s x z) (k' := least) (r := (W : Int) * D - 1 - ((x - X0) * D + (z - Z0))) (r' := 0) (by omega) (by omega) (by omega) (by omega)
  rw [Int.mul_comm least]
  constructor
  · intro h
    rcases int_lt_or_ge (knotL g s x z) least with h2 | h2
    · have := this.mpr (.inl h2); omega
    · exact h2
  · intro h
    rcases int_lt_or_ge (((W : Int) * D) * knotL g s x z + ((W : Int) * D - 1 - ((x - X0) * D + (z - Z0)))) (((W : Int) * D) * least + 0) with h2 | h2
    · rcases this.mp h2 with h3 | ⟨_, h3⟩ <;> omega
    · omega
def bears (g s : Int) (far : Nat) (least x z : Int) : Bool := decide (least ≤ knotL g s x z) && (List.range (2 * far + 1)).all fun i => (List.range (2 * far + 1)).all fun j => !decide (Bt g s (x - far + i) (z - far + j) x z)
theorem bears_iff {g s : Int} {far : Nat} {least x z : Int} : bears g s far least x z = true ↔ least ≤ knotL g s x z ∧ ∀ x' z', x - far ≤ x' → x' ≤ x + far → z - far ≤ z' → z' ≤ z + far → ¬ Bt g s x' z' x z := by
  unfold bears
  rw [Bool.and_eq_true, decide_eq_true_eq, List.all_eq_true]
  refine and_congr Iff.rfl ⟨fun h x' z' h1 h2 h3 h4 => ?_, fun h i hi => ?_⟩
  · have := h (x' - (x - far)).toNat (List.mem_range.mpr (by omega))
    rw [List.all_eq_true] at this
    have := this (z' - (z - far)).toNat (List.mem_range.mpr (by omega))
    rw [show x - (far : Int) + ((x' - (x - far)).toNat : Nat) = x' by omega, show z - (far : Int) + ((z' - (z - far)).toNat : Nat) = z' by omega] at this
    simpa using this
  · rw [List.all_eq_true]
    intro j hj
    have hi := List.mem_range.mp hi
    have hj := List.mem_range.mp hj
    simpa using h (x - far + i) (z - far + j) (by omega) (by omega) (by omega) (by omega)
theorem mat_at {g s X0 Z0 : Int} {W D i : Nat} (h : i < W) : (matF g s X0 Z0 W D)[i]? = some (rowF g s X0 Z0 W D i) := by
  unfold matF
  rw [List.getElem?_map, List.getElem?_range h]
  rfl
theorem row_at {g s X0 Z0 : Int} {W D i j : Nat} (h : j < D) : (rowF g s X0 Z0 W D i)[j]? = some (rankF g s X0 Z0 D (W * D) (X0 + i) (Z0 + j)) := by
  unfold rowF
  rw [List.getElem?_map, List.getElem?_range h]
  rfl
/-- the greatest of a window is one of it, and none of it is greater -/
theorem near_at {g s X0 Z0 : Int} {W D far i j : Nat} (hi : i < W - 2 * far) (hj : j < D - 2 * far) : ∃ m, (nearRow (matF g s X0 Z0 W D) far D i)[j]? = some m ∧
    (∃ a b, a < 2 * far + 1 ∧ b < 2 * far + 1 ∧ m = rankF g s X0 Z0 D (W * D) (X0 + (i + a : Nat)) (Z0 + (j + b : Nat))) ∧ ∀ a b, a < 2 * far + 1 → b < 2 * far + 1 → rankF g s X0 Z0 D (W * D) (X0 + (i + a : Nat)) (Z0 + (j + b : Nat)) ≤ m := by
  have hrm : ∀ a, a < 2 * far + 1 → ∃ r, (((winF (matF g s X0 Z0 W D) far D).drop i).take (2 * far + 1))[a]? = some r ∧ (∃ b, b < 2 * far + 1 ∧ r.getD j 0 = rankF g s X0 Z0 D (W * D) (X0 + (i + a : Nat)) (Z0 + (j + b : Nat))) ∧
      ∀ b, b < 2 * far + 1 → rankF g s X0 Z0 D (W * D) (X0 + (i + a : Nat)) (Z0 + (j + b : Nat)) ≤ r.getD j 0 := by
    intro a ha
    refine ⟨rowMax far D (rowF g s X0 Z0 W D (i + a)), ?_, ?_⟩
    · rw [List.getElem?_take_of_lt ha, List.getElem?_drop]
      unfold winF
      rw [List.getElem?_map, mat_at (by omega)]
      rfl
    · have ev : (rowMax far D (rowF g s X0 Z0 W D (i + a))).getD j 0 = maxL (((rowF g s X0 Z0 W D (i + a)).drop j).take (2 * far + 1)) := by
        rw [List.getD_eq_getElem?_getD]
        unfold rowMax
        rw [List.getElem?_map, List.getElem?_range hj]
        rfl
      have hl : ∀ b, b < 2 * far + 1 → (((rowF g s X0 Z0 W D (i + a)).drop j).take (2 * far + 1))[b]? = some (rankF g s X0 Z0 D (W * D) (X0 + (i + a : Nat)) (Z0 + (j + b : Nat))) := by
        intro b hb
        rw [List.getElem?_take_of_lt hb, List.getElem?_drop]
        exact row_at (by omega)
      have hne : ((rowF g s X0 Z0 W D (i + a)).drop j).take (2 * far + 1) ≠ [] := by
        intro z
        have := hl 0 (by omega)
        rw [z] at this
        cases this
      obtain ⟨h1, h2⟩ := maxL_spec hne
      rw [ev]
      refine ⟨?_, fun b hb => h2 _ (List.mem_of_getElem? (hl b hb))⟩
      obtain ⟨b, hb⟩ := List.getElem?_of_mem h1
      have hb2 : b < 2 * far + 1 := by
        have := (List.getElem?_eq_some_iff.mp hb).1
        rw [List.length_take] at this
        omega
      refine ⟨b, hb2, ?_⟩
      rw [hl b hb2] at hb
      exact (Option.some.inj hb).symm
  have hne : ((((winF (matF g s X0 Z0 W D) far D).drop i).take (2 * far + 1)).map fun row => row.getD j 0) ≠ [] := by
    intro z
    obtain ⟨r, h, _⟩ := hrm 0 (by omega)
    rw [List.map_eq_nil_iff.mp z] at h
    cases h
  obtain ⟨h1, h2⟩ := maxL_spec hne
  refine ⟨maxL ((((winF (matF g s X0 Z0 W D) far D).drop i).take (2 * far + 1)).map fun row => row.getD j 0), ?_, ?_, ?_⟩
  · unfold nearRow
    rw [List.getElem?_map, List.getElem?_range hj]
    rfl
  · obtain ⟨row, hrow, e⟩ := List.mem_map.mp h1
    obtain ⟨a, ha⟩ := List.getElem?_of_mem hrow
    have ha2 : a < 2 * far + 1 := by
      have := (List.getElem?_eq_some_iff.mp ha).1
      rw [List.length_take] at this
      omega
    obtain ⟨r, h3, ⟨b, hb, h4⟩, _⟩ := hrm a ha2
    rw [ha] at h3
    cases h3
    exact ⟨a, b, ha2, hb, by rw [← e]; exact h4⟩
  · intro a b ha hb
    obtain ⟨r, h3, _, h5⟩ := hrm a ha
    exact Int.le_trans (h5 b hb) (h2 _ (List.mem_map.mpr ⟨r, List.mem_of_getElem? h3, rfl⟩))
/-- a point bears a thing: what the program asks of it -/
theorem bears_near {g s X0 Z0 least : Int} {W D far i j : Nat} {m : Int} (hi : i < W - 2 * far) (hj : j < D - 2 * far) (hm : (nearRow (matF g s X0 Z0 W D) far D i)[j]? = some m) :
    (rankF g s X0 Z0 D (W * D) (X0 + (i + far : Nat)) (Z0 + (j + far : Nat)) = m ∧ least * ((W : Int) * D) ≤ m) ↔ bears g s far least (X0 + (i + far : Nat)) (Z0 + (j + far : Nat)) = true := by
  obtain ⟨m', e, ⟨a, b, ha, hb, h1⟩, h2⟩ := near_at (g := g) (s := s) (X0 := X0) (Z0 := Z0) hi hj
  rw [hm] at e
  cases e
  rw [bears_iff]
  have hl := rank_least (g := g) (s := s) (X0 := X0) (Z0 := Z0) (W := W) (D := D) (x := X0 + (i + far : Nat)) (z := Z0 + (j + far : Nat)) (least := least) (by omega) (by omega) (by omega) (by omega)
  constructor
  · rintro ⟨e, h⟩
    rw [← e] at h
    refine ⟨hl.mp h, fun x' z' c1 c2 c3 c4 hB => ?_⟩
    have := (rank_lt (g := g) (s := s) (X0 := X0) (Z0 := Z0) (W := W) (D := D) (x := X0 + (i + far : Nat)) (z := Z0 + (j + far : Nat)) (x' := x') (z' := z') (by omega) (by omega) (by omega) (by omega) (by omega) (by omega) (by omega) (by omega)).mpr hB
    have h3 := h2 (x' - (X0 + i)).toNat (z' - (Z0 + j)).toNat (by omega) (by omega)
    rw [show X0 + ((i + (x' - (X0 + i)).toNat : Nat) : Int) = x' by omega, show Z0 + ((j + (z' - (Z0 + j)).toNat : Nat) : Int) = z' by omega] at h3
    omega
  · rintro ⟨h, hn⟩
    have e : rankF g s X0 Z0 D (W * D) (X0 + (i + far : Nat)) (Z0 + (j + far : Nat)) = m := by
      have h3 := h2 far far (by omega) (by omega)
      rcases int_lt_or_ge (rankF g s X0 Z0 D (W * D) (X0 + (i + far : Nat)) (Z0 + (j + far : Nat))) m with c | c
      · rw [h1] at c
        exact absurd ((rank_lt (by omega) (by omega) (by omega) (by omega) (by omega) (by omega) (by omega) (by omega)).mp c) (hn _ _ (by omega) (by omega) (by omega) (by omega))
      · omega
    exact ⟨e, e ▸ hl.mpr h⟩
/-- the things of a box, in order -/
def rowT (g s : Int) (far : Nat) (least x z0 : Int) (d : Nat) : List (Int × Int) := ((List.range d).filter fun j : Nat => bears g s far least x (z0 + j)).map fun j : Nat => (x, z0 + j)
def things (g s : Int) (far : Nat) (least x0 z0 : Int) (w d : Nat) : List (Int × Int) := (List.range w).flatMap fun i : Nat => rowT g s far least (x0 + i) z0 d
theorem rowT_succ {g s : Int} {far : Nat} {least x z0 : Int} {d : Nat} : rowT g s far least x z0 (d + 1) = rowT g s far least x z0 d ++ if bears g s far least x (z0 + d) = true then [(x, z0 + (d : Int))] else [] := by
  unfold rowT
  rw [List.range_succ, List.filter_append, List.map_append]
  congr 1
  by_cases h : bears g s far least x (z0 + d) = true
  · rw [if_pos h]; simp [h]
  · rw [if_neg h]; simp [h]
theorem things_succ {g s : Int} {far : Nat} {least x0 z0 : Int} {w d : Nat} : things g s far least x0 z0 (w + 1) d = things g s far least x0 z0 w d ++ rowT g s far least (x0 + w) z0 d := by
  unfold things
  rw [List.range_succ, List.flatMap_append]
  simp
theorem mem_things {g s : Int} {far : Nat} {least x0 z0 : Int} {w d : Nat} {x z : Int} : (x, z) ∈ things g s far least x0 z0 w d ↔ (x0 ≤ x ∧ x < x0 + w ∧ z0 ≤ z ∧ z < z0 + d) ∧ bears g s far least x z = true := by
  unfold things
  rw [List.mem_flatMap]
  constructor
  · rintro ⟨i, hi, h⟩
    unfold rowT at h
    obtain ⟨j, hj, e⟩ := List.mem_map.mp h
    obtain ⟨hj, hb⟩ := List.mem_filter.mp hj
    have hi := List.mem_range.mp hi
    have hj := List.mem_range.mp hj
    obtain ⟨rfl, rfl⟩ := Prod.mk.inj e
    exact ⟨⟨by omega, by omega, by omega, by omega⟩, hb⟩
  · rintro ⟨⟨a, b, c, d'⟩, hb⟩
    refine ⟨(x - x0).toNat, List.mem_range.mpr (by omega), ?_⟩
    unfold rowT
    refine List.mem_map.mpr ⟨(z - z0).toNat, List.mem_filter.mpr ⟨List.mem_range.mpr (by omega), ?_⟩, ?_⟩
    · rw [show x0 + ((x - x0).toNat : Int) = x by omega, show z0 + ((z - z0).toNat : Int) = z by omega]
      exact hb
    · rw [show x0 + ((x - x0).toNat : Int) = x by omega, show z0 + ((z - z0).toNat : Int) = z by omega]
theorem rowT_len {g s : Int} {far : Nat} {least x z0 : Int} {d : Nat} : (rowT g s far least x z0 d).length ≤ d := by
  unfold rowT
  rw [List.length_map]
  exact Nat.le_trans (List.length_filter_le _ _) (Nat.le_of_eq List.length_range)
theorem things_len {g s : Int} {far : Nat} {least x0 z0 : Int} {w d : Nat} : (things g s far least x0 z0 w d).length ≤ w * d := by
  induction w with
  | zero => simp [things]
  | succ w ih =>
    rw [things_succ, List.length_append, Nat.succ_mul]
    exact Nat.add_le_add ih rowT_len
end Th

open Fm
/-! Tiles of a box, and the things of all tiles. Own work. -/
namespace Tl
open Th
def tcnt (lo hi S : Int) : Nat := ((hi - lo) / S + 1).toNat
abbrev Bq := Int × Int × Int × Int
def tile (x0 z0 x1 z1 S : Int) (i j : Nat) : Bq := (x0 + i * S, z0 + j * S, min (x0 + i * S + S - 1) x1, min (z0 + j * S + S - 1) z1)
def rowB (x0 z0 x1 z1 S : Int) (i : Nat) : List Bq := (List.range (tcnt z0 z1 S)).map fun j : Nat => tile x0 z0 x1 z1 S i j
def tiles (x0 z0 x1 z1 S : Int) : List Bq := (List.range (tcnt x0 x1 S)).flatMap fun i : Nat => rowB x0 z0 x1 z1 S i
def thingsB (g s : Int) (far : Nat) (least : Int) (t : Bq) : List (Int × Int) := things g s far least t.1 t.2.1 (t.2.2.1 - t.1 + 1).toNat (t.2.2.2 - t.2.1 + 1).toNat
def ltp (a b : Int × Int) : Prop := a.1 < b.1 ∨ (a.1 = b.1 ∧ a.2 < b.2)
theorem ltp_ne {a b : Int × Int} (h : ltp a b) : a ≠ b := fun e => by subst e; unfold ltp at h; omega
theorem rowT_sorted {g s : Int} {far : Nat} {least x z0 : Int} {d : Nat} : (rowT g s far least x z0 d).Pairwise ltp := by
  unfold rowT
  rw [List.pairwise_map]
  refine List.Pairwise.imp (fun {a b} h => ?_) (List.Pairwise.filter _ List.pairwise_lt_range)
  exact .inr ⟨rfl, by show z0 + (a : Int) < z0 + (b : Int); omega⟩
theorem mem_rowT {g s : Int} {far : Nat} {least x z0 : Int} {d : Nat} {p : Int × Int} (h : p ∈ rowT g s far least x z0 d) : p.1 = x := by
  unfold rowT at h
  obtain ⟨j, _, rfl⟩ := List.mem_map.mp h
  rfl
theorem things_sorted {g s : Int} {far : Nat} {least x0 z0 : Int} {w d : Nat} : (things g s far least x0 z0 w d).Pairwise ltp := by
  unfold things
  rw [List.pairwise_flatMap]
  refine ⟨fun i _ => rowT_sorted, List.Pairwise.imp (fun {a b} h p hp q hq => ?_) List.pairwise_lt_range⟩
  have e1 := mem_rowT hp
  have e2 := mem_rowT hq
  exact .inl (by rw [e1, e2]; omega)
theorem ssorted_eq : ∀ {l m : List (Int × Int)}, l.Pairwise ltp → m.Pairwise ltp → (∀ q, q ∈ l ↔ q ∈ m) → l = m
  | [], [], _, _, _ => rfl
  | [], b :: m, _, _, h => absurd ((h b).mpr List.mem_cons_self) (by simp)
  | a :: l, [], _, _, h => absurd ((h a).mp List.mem_cons_self) (by simp)
  | a :: l, b :: m, h1, h2, h => by
    rw [List.pairwise_cons] at h1 h2
    have e : a = b := by
      rcases List.mem_cons.mp ((h a).mp List.mem_cons_self) with e | ha
      · exact e
      · rcases List.mem_cons.mp ((h b).mpr List.mem_cons_self) with e | hb
        · exact e.symm
        · have c1 := h1.1 b hb
          have c2 := h2.1 a ha
          unfold ltp at c1 c2
          omega
    subst e
    rw [ssorted_eq h1.2 h2.2 fun q => ?_]
    constructor
    · intro hq
      rcases List.mem_cons.mp ((h q).mp (List.mem_cons_of_mem _ hq)) with e | hm
      · exact absurd e.symm (ltp_ne (h1.1 q hq))
      · exact hm
    · intro hq
      rcases List.mem_cons.mp ((h q).mpr (List.mem_cons_of_mem _ hq)) with e | hm
      · exact absurd e.symm (ltp_ne (h2.1 q hq))
      · exact hm
theorem tcnt_lt {lo hi S x : Int} (hS : 1 ≤ S) (h0 : lo ≤ x) (h1 : x ≤ hi) : ((x - lo) / S).toNat < tcnt lo hi S ∧ lo + ((x - lo) / S).toNat * S ≤ x ∧ x ≤ lo + ((x - lo) / S).toNat * S + S - 1 := by
  have a1 : 0 ≤ (x - lo) / S := Int.ediv_nonneg (by omega) (by omega)
  have a2 : (x - lo) / S ≤ (hi - lo) / S := Int.ediv_le_ediv (by omega) (by omega)
  have a3 := Int.mul_ediv_add_emod (x - lo) S
  have a4 := Int.emod_nonneg (x - lo) (show S ≠ 0 by omega)
  have a5 := Int.emod_lt_of_pos (x - lo) (show 0 < S by omega)
  unfold tcnt
  rw [show (((x - lo) / S).toNat : Int) = (x - lo) / S by omega, Int.mul_comm]
  omega
theorem in_tile {lo S x : Int} {i : Nat} (hS : 1 ≤ S) (h0 : lo + i * S ≤ x) (h1 : x ≤ lo + i * S + S - 1) : (x - lo) / S = i := by
  have e : x - lo = (x - lo - i * S) + i * S := by omega
  rw [e, Int.add_mul_ediv_right _ _ (by omega), Int.ediv_eq_zero_of_lt (by omega) (by omega), Int.zero_add]
theorem tcnt_in {lo hi S : Int} {i : Nat} (hS : 1 ≤ S) (h : lo ≤ hi) (hi2 : i < tcnt lo hi S) : lo + i * S ≤ hi ∧ lo ≤ lo + i * S := by
  unfold tcnt at hi2
  have a1 : 0 ≤ (hi - lo) / S := Int.ediv_nonneg (by omega) (by omega)
  have a3 := Int.mul_ediv_add_emod (hi - lo) S
  have a4 := Int.emod_nonneg (hi - lo) (show S ≠ 0 by omega)
  have a6 : (i : Int) * S ≤ (hi - lo) / S * S := Int.mul_le_mul_of_nonneg_right (by omega) (by omega)
  have a7 : 0 ≤ (i : Int) * S := Int.mul_nonneg (by omega) (by omega)
  rw [Int.mul_comm] at a3
  omega
theorem mem_thingsB {g s : Int} {far : Nat} {least : Int} {t : Bq} {x z : Int} : (x, z) ∈ thingsB g s far least t ↔ (t.1 ≤ x ∧ x ≤ t.2.2.1 ∧ t.2.1 ≤ z ∧ z ≤ t.2.2.2) ∧ bears g s far least x z = true := by
  unfold thingsB
  rw [mem_things]
  refine and_congr ⟨fun h => ?_, fun h => ?_⟩ Iff.rfl
  · omega
  · omega
theorem rows_len {x0 z0 x1 z1 S : Int} : ∀ i : Nat, ((List.range i).flatMap fun i : Nat => rowB x0 z0 x1 z1 S i).length = i * tcnt z0 z1 S
  | 0 => by simp
  | i + 1 => by
    rw [List.range_succ, List.flatMap_append, List.flatMap_cons, List.flatMap_nil, List.append_nil, List.length_append, rows_len i, Nat.succ_mul]
    unfold rowB
    rw [List.length_map, List.length_range]
theorem tcnt_le {lo hi S : Int} (hS : 1 ≤ S) (h : lo ≤ hi) : (tcnt lo hi S : Int) ≤ hi - lo + 1 := by
  have a1 : 0 ≤ (hi - lo) / S := Int.ediv_nonneg (by omega) (by omega)
  have a2 : (hi - lo) / S ≤ hi - lo := Int.ediv_le_self _ (by omega)
  unfold tcnt
  omega
/-- a tile lies in its box -/
theorem tile_in {x0 z0 x1 z1 S : Int} {t : Bq} (hS : 1 ≤ S) (hx : x0 ≤ x1) (hz : z0 ≤ z1) (h : t ∈ tiles x0 z0 x1 z1 S) : x0 ≤ t.1 ∧ t.1 ≤ t.2.2.1 ∧ t.2.2.1 ≤ x1 ∧ z0 ≤ t.2.1 ∧ t.2.1 ≤ t.2.2.2 ∧ t.2.2.2 ≤ z1 := by
  unfold tiles at h
  obtain ⟨i, hi, h⟩ := List.mem_flatMap.mp h
  unfold rowB at h
  obtain ⟨j, hj, rfl⟩ := List.mem_map.mp h
  have a := tcnt_in hS hx (List.mem_range.mp hi)
  have b := tcnt_in hS hz (List.mem_range.mp hj)
  unfold tile
  dsimp only
  omega
/-- the things of all tiles: none twice, and those of the box -/
theorem tiles_mem {g s : Int} {far : Nat} {least x0 z0 x1 z1 S : Int} (hS : 1 ≤ S) (hx : x0 ≤ x1) (hz : z0 ≤ z1) (q : Int × Int) : q ∈ (tiles x0 z0 x1 z1 S).flatMap (thingsB g s far least) ↔ q ∈ thingsB g s far least (x0, z0, x1, z1) := by
  obtain ⟨x, z⟩ := q
  rw [List.mem_flatMap, mem_thingsB]
  constructor
  · rintro ⟨t, ht, hq⟩
    have a := tile_in hS hx hz ht
    rw [mem_thingsB] at hq
    exact ⟨by show x0 ≤ x ∧ x ≤ x1 ∧ z0 ≤ z ∧ z ≤ z1; omega, hq.2⟩
  · rintro ⟨⟨a, b, c, d⟩, hb⟩
    change x0 ≤ x at a
    change x ≤ x1 at b
    change z0 ≤ z at c
    change z ≤ z1 at d
    have u := tcnt_lt hS a b
    have v := tcnt_lt hS c d
    refine ⟨tile x0 z0 x1 z1 S ((x - x0) / S).toNat ((z - z0) / S).toNat, ?_, ?_⟩
    · unfold tiles
      refine List.mem_flatMap.mpr ⟨_, List.mem_range.mpr u.1, ?_⟩
      unfold rowB
      exact List.mem_map.mpr ⟨_, List.mem_range.mpr v.1, rfl⟩
    · rw [mem_thingsB]
      refine ⟨?_, hb⟩
      unfold tile
      show x0 + _ * S ≤ x ∧ x ≤ min _ x1 ∧ z0 + _ * S ≤ z ∧ z ≤ min _ z1
      omega
theorem tiles_nodup {g s : Int} {far : Nat} {least x0 z0 x1 z1 S : Int} (hS : 1 ≤ S) : ((tiles x0 z0 x1 z1 S).flatMap (thingsB g s far least)).Pairwise (· ≠ ·) := by
  rw [List.pairwise_flatMap]
  refine ⟨fun t _ => List.Pairwise.imp ltp_ne things_sorted, ?_⟩
  have key : ∀ (t u : Bq) (i j i' j' : Nat), t = tile x0 z0 x1 z1 S i j → u = tile x0 z0 x1 z1 S i' j' → (i, j) ≠ (i', j') → ∀ p ∈ thingsB g s far least t, ∀ q ∈ thingsB g s far least u, p ≠ q := by
    rintro t u i j i' j' rfl rfl hne ⟨x, z⟩ hp q hq rfl
    rw [mem_thingsB] at hp hq
    unfold tile at hp hq
    obtain ⟨⟨p1, p2, p3, p4⟩, _⟩ := hp
    obtain ⟨⟨q1, q2, q3, q4⟩, _⟩ := hq
    dsimp only at p1 p2 p3 p4 q1 q2 q3 q4
    have a := in_tile (lo := x0) (x := x) hS p1 (by omega)
    have a' := in_tile (lo := x0) (x := x) hS q1 (by omega)
    have b := in_tile (lo := z0) (x := z) hS p3 (by omega)
    have b' := in_tile (lo := z0) (x := z) hS q3 (by omega)
    refine hne ?_
    rw [show i = i' by omega, show j = j' by omega]
  unfold tiles
  rw [List.pairwise_flatMap]
  refine ⟨fun i _ => ?_, ?_⟩
  · unfold rowB
    rw [List.pairwise_map]
    refine List.Pairwise.imp (fun {a b} h => ?_) List.pairwise_lt_range
    exact key _ _ i a i b rfl rfl (fun e => by injection e; omega)
  · refine List.Pairwise.imp (fun {a b} h t ht u hu => ?_) List.pairwise_lt_range
    unfold rowB at ht hu
    obtain ⟨j, _, rfl⟩ := List.mem_map.mp ht
    obtain ⟨j', _, rfl⟩ := List.mem_map.mp hu
    exact key _ _ a j b j' rfl rfl (fun e => by injection e; omega)
/-- put in order they are the things of the box -/
theorem tiles_sorted {g s : Int} {far : Nat} {least x0 z0 x1 z1 S : Int} {ys : List (Int × Int)} (hS : 1 ≤ S) (hx : x0 ≤ x1) (hz : z0 ≤ z1) (hp : ys.Perm ((tiles x0 z0 x1 z1 S).flatMap (thingsB g s far least))) (hs : ys.Pairwise fun a b => ¬ ltp b a) :
    ys = thingsB g s far least (x0, z0, x1, z1) := by
  refine ssorted_eq ?_ things_sorted fun q => (hp.mem_iff).trans (tiles_mem hS hx hz q)
  have nd : ys.Pairwise (· ≠ ·) := (hp.pairwise_iff (fun h => Ne.symm h)).mpr (tiles_nodup hS)
  refine List.Pairwise.imp (fun {a b} h => ?_) (hs.and nd)
  obtain ⟨h1, h2⟩ := h
  obtain ⟨a1, a2⟩ := a
  obtain ⟨b1, b2⟩ := b
  unfold ltp at h1 ⊢
  dsimp only at h1 ⊢
  have : ¬ (a1 = b1 ∧ a2 = b2) := fun e => h2 (by rw [e.1, e.2])
  omega
theorem things_one {g s : Int} {far : Nat} {least x z : Int} : things g s far least x z 1 1 = if bears g s far least x z = true then [(x, z)] else [] := by
  unfold things rowT
  by_cases h : bears g s far least x z = true
  · simp [h]
  · simp [h]
theorem one_iff {g s : Int} {far : Nat} {least x z : Int} : decide (things g s far least x z 1 1 = [(x, z)]) = bears g s far least x z := by
  rw [things_one]
  cases bears g s far least x z <;> simp
/-- the greatest within reach of a point -/
def Gr (g s : Int) (far : Nat) (x z x' z' : Int) : Prop := (x - far ≤ x' ∧ x' ≤ x + far ∧ z - far ≤ z' ∧ z' ≤ z + far) ∧ ∀ u v, x - far ≤ u → u ≤ x + far → z - far ≤ v → v ≤ z + far → ¬ Bt g s u v x' z'
theorem bt_total {g s x z x' z' : Int} (h1 : ¬ Bt g s x z x' z') (h2 : ¬ Bt g s x' z' x z) : x' = x ∧ z' = z := by
  unfold Bt at h1 h2
  generalize knotL g s x z = a at h1 h2
  generalize knotL g s x' z' = b at h1 h2
  omega
theorem gr_bears {g s : Int} {far : Nat} {x z x' z' : Int} (h : Gr g s far x z x' z') : decide ((x', z') = (x, z)) = bears g s far 0 x z := by
  have hk := (knot_in g s x z).1
  rw [Bool.eq_iff_iff, decide_eq_true_eq, bears_iff]
  constructor
  · intro e
    injection e with e1 e2
    rw [← e1, ← e2]
    refine ⟨(knot_in g s x' z').1, fun u v a b c d => h.2 u v ?_ ?_ ?_ ?_⟩ <;> omega
  · rintro ⟨_, hb⟩
    obtain ⟨⟨a, b, c, d⟩, hn⟩ := h
    have := bt_total (hn x z (by omega) (by omega) (by omega) (by omega)) (hb x' z' a b c d)
    rw [this.1, this.2]
theorem gr_self {g s : Int} {far : Nat} {x z : Int} (h : Gr g s far x z x z) : bears g s far 0 x z = true := by
  rw [← gr_bears h]
  simp
theorem bears_far {g s : Int} {far : Nat} {least x z : Int} (h : bears g s (far + 1) least x z = true) : bears g s far least x z = true := by
  rw [bears_iff] at h ⊢
  exact ⟨h.1, fun u v a b c d => h.2 u v (by omega) (by omega) (by omega) (by omega)⟩
theorem bears_least {g s : Int} {far : Nat} {few x z : Int} : bears g s far few x z = (decide (few ≤ knotL g s x z) && bears g s far 0 x z) := by
  have hk := (knot_in g s x z).1
  unfold bears
  rw [decide_eq_true hk, Bool.true_and]
theorem rowT_filter {g s : Int} {far : Nat} {few x z0 : Int} {d : Nat} : rowT g s far few x z0 d = (rowT g s far 0 x z0 d).filter fun p => decide (few ≤ knotL g s p.1 p.2) := by
  unfold rowT
  rw [List.filter_map, List.filter_filter]
  congr 1
  refine List.filter_congr fun j _ => ?_
  rw [bears_least]
  rfl
theorem things_filter {g s : Int} {far : Nat} {few x0 z0 : Int} {d : Nat} : ∀ w : Nat, things g s far few x0 z0 w d = (things g s far 0 x0 z0 w d).filter fun p => decide (few ≤ knotL g s p.1 p.2)
  | 0 => by simp [things]
  | w + 1 => by
    rw [things_succ, things_succ, List.filter_append, things_filter w, rowT_filter]
theorem take_len {ts : List Bq} {f : Bq → List (Int × Int)} {n : Nat} (h : ∀ t ∈ ts, (f t).length ≤ n) : ∀ k, ((ts.take k).flatMap f).length ≤ k * n
  | 0 => by simp
  | k + 1 => by
    rw [List.take_add_one, List.flatMap_append, List.length_append, Nat.succ_mul]
    refine Nat.add_le_add (take_len h k) ?_
    cases e : ts[k]? with
    | none => simp
    | some t => simpa using h t (List.mem_of_getElem? e)
/-- the points of a box, in order -/
def boxP (x0 z0 : Int) (w d : Nat) : List (Int × Int) := (List.range w).flatMap fun i : Nat => (List.range d).map fun j : Nat => (x0 + (i : Int), z0 + (j : Int))
theorem boxP_succ {x0 z0 : Int} {w d : Nat} : boxP x0 z0 (w + 1) d = boxP x0 z0 w d ++ (List.range d).map fun j : Nat => (x0 + (w : Int), z0 + (j : Int)) := by
  unfold boxP
  rw [List.range_succ, List.flatMap_append]
  simp
theorem boxP_len {x0 z0 : Int} {d : Nat} : ∀ w : Nat, (boxP x0 z0 w d).length = w * d
  | 0 => by simp [boxP]
  | w + 1 => by
    rw [boxP_succ, List.length_append, boxP_len w, List.length_map, List.length_range, Nat.succ_mul]
theorem mem_boxP {x0 z0 x z : Int} {w d : Nat} (h : (x, z) ∈ boxP x0 z0 w d) : x0 ≤ x ∧ x < x0 + w ∧ z0 ≤ z ∧ z < z0 + d := by
  unfold boxP at h
  obtain ⟨i, hi, h⟩ := List.mem_flatMap.mp h
  obtain ⟨j, hj, e⟩ := List.mem_map.mp h
  have hi := List.mem_range.mp hi
  have hj := List.mem_range.mp hj
  obtain ⟨rfl, rfl⟩ := Prod.mk.inj e
  omega
theorem things_box {g s : Int} {far : Nat} {least x0 z0 : Int} {d : Nat} : ∀ w : Nat, things g s far least x0 z0 w d = (boxP x0 z0 w d).filter fun q => bears g s far least q.1 q.2
  | 0 => by simp [things, boxP]
  | w + 1 => by
    rw [things_succ, boxP_succ, List.filter_append, things_box w]
    congr 1
    unfold rowT
    rw [List.filter_map]
    rfl
/-- no two things are within reach -/
theorem things_apart {g s : Int} {far : Nat} {least x0 z0 : Int} {w d : Nat} {p q : Int × Int} (hp : p ∈ things g s far least x0 z0 w d) (hq : q ∈ things g s far least x0 z0 w d) (h1 : p.1 - far ≤ q.1) (h2 : q.1 ≤ p.1 + far) (h3 : p.2 - far ≤ q.2) (h4 : q.2 ≤ p.2 + far) : p = q := by
  obtain ⟨x, z⟩ := p
  obtain ⟨u, v⟩ := q
  dsimp only at h1 h2 h3 h4
  have a := (bears_iff.mp (mem_things.mp hp).2).2
  have b := (bears_iff.mp (mem_things.mp hq).2).2
  have e := bt_total (a u v h1 h2 h3 h4) (b x z (by omega) (by omega) (by omega) (by omega))
  rw [e.1, e.2]
/-- the things of two boxes beside one another -/
theorem things_add {g s : Int} {far : Nat} {least x0 z0 : Int} {d : Nat} : ∀ (w v : Nat), things g s far least x0 z0 (w + v) d = things g s far least x0 z0 w d ++ things g s far least (x0 + w) z0 v d
  | w, 0 => by simp [things]
  | w, v + 1 => by
    rw [← Nat.add_assoc, things_succ, things_add w v, things_succ, List.append_assoc, show x0 + ((w + v : Nat) : Int) = x0 + (w : Int) + (v : Int) by omega]
theorem tiles_len {x0 z0 x1 z1 S : Int} : (tiles x0 z0 x1 z1 S).length = tcnt x0 x1 S * tcnt z0 z1 S := rows_len _
end Tl

/-! min of a list of triples of ints: one of them, and none is before it. -/
namespace Mn
open PySem PySem.Spec PyProof.Rows L2 PySem.W
def lt3 (u t : Int × Int × Int) : Prop := u.1 < t.1 ∨ (u.1 = t.1 ∧ (u.2.1 < t.2.1 ∨ (u.2.1 = t.2.1 ∧ u.2.2 < t.2.2)))
def toT (t : Int × Int × Int) : T3 Int Int Int := ⟨t.1, t.2.1, t.2.2⟩
def toP (t : T3 Int Int Int) : Int × Int × Int := (t.a, t.b, t.c)
theorem lt_iff (u t : T3 Int Int Int) : DatumOrd.lt u t = true ↔ lt3 (toP u) (toP t) := by
  obtain ⟨a, b, c⟩ := u
  obtain ⟨a', b', c'⟩ := t
  show (if a = a' then (if b = b' then decide (c < c') else decide (b < b')) else decide (a < a')) = true ↔ (a < a' ∨ (a = a' ∧ (b < b' ∨ (b = b' ∧ c < c'))))
  by_cases h1 : a = a'
  · rw [if_pos h1]
    by_cases h2 : b = b'
    · rw [if_pos h2, decide_eq_true_eq]
      omega
    · rw [if_neg h2, decide_eq_true_eq]
      omega
  · rw [if_neg h1, decide_eq_true_eq]
    omega
theorem lt_no (u t : T3 Int Int Int) : ¬ DatumOrd.lt u t = true ↔ ¬ lt3 (toP u) (toP t) := not_congr (lt_iff u t)
theorem le_trans3 {a b c : Int × Int × Int} (h1 : ¬ lt3 a b) (h2 : ¬ lt3 b c) : ¬ lt3 a c := by
  unfold lt3 at *
  omega
theorem asym3 {a b : Int × Int × Int} (h1 : lt3 a b) : ¬ lt3 b a := by
  unfold lt3 at *
  omega
theorem irr3 {a : Int × Int × Int} : ¬ lt3 a a := by
  unfold lt3
  omega
theorem min_spec : ∀ (xs : List (T3 Int Int Int)) (x : T3 Int Int Int), minOf x xs ∈ x :: xs ∧ ∀ y ∈ x :: xs, ¬ lt3 (toP y) (toP (minOf x xs))
  | [], x => ⟨List.mem_cons_self, fun y hy => by rw [List.mem_singleton.mp hy]; exact irr3⟩
  | y :: ys, x => by
    have e : minOf x (y :: ys) = minOf (if DatumOrd.lt y x = true then y else x) ys := rfl
    rw [e]
    by_cases h : DatumOrd.lt y x = true
    · rw [if_pos h]
      obtain ⟨h1, h2⟩ := min_spec ys y
      refine ⟨List.mem_cons_of_mem _ h1, fun u hu => ?_⟩
      rcases List.mem_cons.mp hu with rfl | hu
      · exact le_trans3 (asym3 ((lt_iff _ _).mp h)) (h2 _ List.mem_cons_self)
      · exact h2 u hu
    · rw [if_neg h]
      obtain ⟨h1, h2⟩ := min_spec ys x
      refine ⟨?_, fun u hu => ?_⟩
      · rcases List.mem_cons.mp h1 with h3 | h3
        · rw [h3]; exact List.mem_cons_self
        · exact List.mem_cons_of_mem _ (List.mem_cons_of_mem _ h3)
      · rcases List.mem_cons.mp hu with rfl | hu
        · exact h2 _ List.mem_cons_self
        · rcases List.mem_cons.mp hu with rfl | hu
          · exact le_trans3 ((lt_no _ _).mp h) (h2 _ List.mem_cons_self)
          · exact h2 u (List.mem_cons_of_mem _ hu)
theorem at_pair {P : Addr → Int × Int × Int → Prop} : ∀ {ls : List Addr} {ts : List (Int × Int × Int)} {k : Nat} {l : Addr}, Paired P ls ts → ls[k]? = some l → ∃ t, ts[k]? = some t ∧ P l t
  | _, _, 0, l, .cons h _, e => by
    simp at e
    subst e
    exact ⟨_, rfl, h⟩
  | _, _, k + 1, l, .cons _ r, e => at_pair (k := k) r (by simpa using e)
  | _, _, k, l, .nil, e => by simp at e
abbrev Trip (H : Hp) (l : Addr) (t : Int × Int × Int) : Prop := H l = some (.tup [.int t.1, .int t.2.1, .int t.2.2])
theorem holds_of {X : Cx} {pins : List (Addr × Obj)} {σ : L2.St} {H : Hp} {s : Shared} (I : Inv X pins σ H s) {l : Addr} {t : Int × Int × Int} (h : Trip H l t) : Holds s.heap (.ref l) (toT t) := by
  obtain ⟨_, its, r, o, ho, hc, n, hd⟩ := I.hok _ _ h
  obtain ⟨u1, us, rfl, r1, r⟩ : ∃ u1 us, its = u1 :: us ∧ RelV (.int t.1) u1 ∧ Vals [.int t.2.1, .int t.2.2] us := by cases r with | cons a b => exact ⟨_, _, rfl, a, b⟩
  obtain ⟨u2, u3, rfl, r2, r3⟩ := vals2 r
  obtain ⟨t1, rfl⟩ := r1
  obtain ⟨t2, rfl⟩ := r2
  obtain ⟨t3, rfl⟩ := r3
  exact holds_t3 ⟨o, ho, hc, n, hd⟩ (holds_int _ _) (holds_int _ _) (holds_int _ _)
theorem holdAll_of {X : Cx} {pins : List (Addr × Obj)} {σ : L2.St} {H : Hp} {s : Shared} (I : Inv X pins σ H s) : ∀ {ls : List Addr} {ts : List (Int × Int × Int)}, Paired (Trip H) ls ts → HoldAll s.heap (ls.map Value.ref) (ts.map toT)
  | _, _, .nil => HoldAll.nil
  | _, _, .cons h r => HoldAll.cons (holds_of I h) (holdAll_of I r)
theorem uniq3 {h : Heap} {v : Value} {p q : T3 Int Int Int} (A : Holds h v p) (B : Holds h v q) : p = q := by
  obtain ⟨l, a, b, c, rfl, ⟨o, ho, _, n, hd⟩, ha, hb, hc⟩ := t3_of_holds A
  obtain ⟨l2, a2, b2, c2, e, ⟨o2, ho2, _, n2, hd2⟩, ha2, hb2, hc2⟩ := t3_of_holds B
  cases e
  rw [ho] at ho2
  cases ho2
  rw [hd] at hd2
  injection hd2 with e1 _
  have e2 := congrArg Array.toList e1
  simp only [List.cons.injEq, and_true] at e2
  obtain ⟨rfl, rfl, rfl⟩ := e2
  obtain ⟨t1, x1⟩ := int_of_holds ha
  obtain ⟨t1', y1⟩ := int_of_holds ha2
  obtain ⟨t2, x2⟩ := int_of_holds hb
  obtain ⟨t2', y2⟩ := int_of_holds hb2
  obtain ⟨t3, x3⟩ := int_of_holds hc
  obtain ⟨t3', y3⟩ := int_of_holds hc2
  obtain ⟨pa, pb, pc⟩ := p
  obtain ⟨qa, qb, qc⟩ := q
  rw [x1] at y1; rw [x2] at y2; rw [x3] at y3
  injection y1 with y1 _; injection y2 with y2 _; injection y3 with y3 _
  dsimp only at y1 y2 y3
  rw [y1, y2, y3]
def rMin3 (K : PySem.W.Frag) : List V → Hp → VK → Prop := fun vs H Q => ∃ (a : Addr) (ls : List Addr) (ts : List (Int × Int × Int)), vs = [V.ref a] ∧ SqL K H a (ls.map V.ref) ∧ Paired (Trip H) ls ts ∧ 0 < ts.length ∧
  ∀ l t, l ∈ ls → Trip H l t → t ∈ ts → (∀ u ∈ ts, ¬ lt3 u t) → Q (.ref l) H
section
variable {X : Cx}
theorem cr_min3 (hc : X.calm = true) (hu : X.A.units + 20 < cLine) : CallR X (.builtin "min") (rMin3 X.K) := by
  intro pins s σ H vs us Q I r h
  obtain ⟨a, ls, ts, rfl, hs, hp, hne, q⟩ := h
  obtain ⟨its, rv, hl, _⟩ := I.list hs
  rw [Vals.ref1 r]
  rw [Zn.refs_of rv] at hl
  have hall := holdAll_of I hp
  obtain ⟨t0, tr, rfl⟩ : ∃ t0 tr, ts = t0 :: tr := by
    cases ts with
    | nil => exact absurd hne (by decide)
    | cons a b => exact ⟨a, b, rfl⟩
  have hd : Datum.depth (T3 Int Int Int) ≤ 5 := by decide
  refine min_list_datum (x := toT t0) (xs := tr.map toT) (I.ok.hd hc) hl.isList hall (by omega) fun i v h' tk hv Hv hk => ?_
  have I2 : Inv X pins σ H { s with heap := h', toks := tk } := I.kept hk
  have hv' : (ls.map Value.ref)[i]? = some v := by simpa using hv
  rw [List.getElem?_map] at hv'
  obtain ⟨l, hl2, rfl⟩ := Option.map_eq_some_iff.mp hv'
  obtain ⟨t, ht, hT⟩ := at_pair hp hl2
  have e := uniq3 Hv (holds_of I2 hT)
  obtain ⟨m1, m2⟩ := min_spec (tr.map toT) (toT t0)
  rw [e] at m2
  refine ⟨.ref l, H, I2, rfl, q l t (List.mem_of_getElem? hl2) hT (List.mem_of_getElem? ht) fun u hu => ?_⟩
  exact m2 (toT u) (List.mem_map.mpr ⟨u, hu, rfl⟩)
end
end Mn
theorem Mn.room20 {k : Nat} {A : PySem.Around} (r : L2.Room k A) : A.units + 20 < PySem.cLine := by have := r.un; omega
namespace Mn
open PySem PySem.Spec PyProof.Rows L2 PySem.W
/-- a pair before another: by its first number, then by its second -/
def ltP2 (p q : Int × Int) : Bool := if p.1 = q.1 then decide (p.2 < q.2) else decide (p.1 < q.1)
theorem holds_p {X : Cx} {pins : List (Addr × Obj)} {σ : L2.St} {H : Hp} {s : Shared} (I : Inv X pins σ H s) {l : Addr} {t : Int × Int} (h : H l = some (.tup [.int t.1, .int t.2])) : Holds s.heap (.ref l) t := by
  obtain ⟨_, its, r, o, ho, hc, n, hd⟩ := I.hok _ _ h
  obtain ⟨u1, u2, rfl, r1, r2⟩ := vals2 r
  obtain ⟨t1, rfl⟩ := r1
  obtain ⟨t2, rfl⟩ := r2
  exact holds_pair ⟨o, ho, hc, n, hd⟩ (holds_int _ _) (holds_int _ _)
def rLtP : R2 := fun x y H Q => ∃ (a b : Addr) (p q : Int × Int), x = .ref a ∧ y = .ref b ∧ H a = some (.tup [.int p.1, .int p.2]) ∧ H b = some (.tup [.int q.1, .int q.2]) ∧ Q (.bl (ltP2 p q)) H
theorem op_ltP {X : Cx} (hu : X.A.units + 20 < cLine) : OpR X (compareOp .Lt) rLtP := by
  intro pins s σ H x y v u Q I rx ry h
  obtain ⟨a, b, p, q, rfl, rfl, ha, hb, hq⟩ := h
  cases rx
  cases ry
  have hd : Datum.depth (Int × Int) ≤ 5 := by decide
  refine lt_datum (x := p) (y := q) (holds_p I ha) (holds_p I hb) (by omega) ⟨.bl _, H, I, ?_, hq⟩
  show RelV (.bl (ltP2 p q)) (.bool (DatumOrd.lt p q))
  have e : DatumOrd.lt p q = ltP2 p q := rfl
  rw [e]
  exact rfl
end Mn

/-! Fields: what a name's environment has to do with the expansion; names called otherwise; names exchanged for their fields. -/
namespace Fm
open PySem
/-- an expansion hangs on the fields of the names alone that stand free in it -/
theorem expand_same : ∀ (F : Fd) (xs : List Str) (r r' : Env), Bnd F xs → (∀ x ∈ xs, look r x = look r' x) → expand F r = expand F r'
  | .whole _, _, _, _, _, _ => rfl
  | .px, _, _, _, _, _ => rfl
  | .pz, _, _, _, _, _ => rfl
  | .noise _ _, _, _, _, _, _ => rfl
  | .two _ a b, xs, r, r', h, e => by simp only [expand]; rw [expand_same a xs r r' h.1 e, expand_same b xs r r' h.2 e]
  | .over a _, xs, r, r', h, e => by simp only [expand]; rw [expand_same a xs r r' h e]
  | .bel a b c d, xs, r, r', h, e => by simp only [expand]; rw [expand_same a xs r r' h.1 e, expand_same b xs r r' h.2.1 e, expand_same c xs r r' h.2.2.1 e, expand_same d xs r r' h.2.2.2 e]
  | .shift _ _ a, xs, r, r', h, e => by simp only [expand]; rw [expand_same a xs r r' h e]
  | .lt x a b, xs, r, r', h, e => by
    simp only [expand]
    rw [expand_same a xs r r' h.1 e]
    exact expand_same b (x :: xs) _ _ h.2 fun y hy => by
      unfold look
      split
      · rfl
      · rename_i n
        exact e y (by rcases List.mem_cons.mp hy with h | h; exact absurd h n; exact h)
  | .nm x, xs, r, r', h, e => e x h
/-- a closed field's expansion needs no names -/
theorem expand_closed {F : Fd} (h : Bnd F []) (r r' : Env) : expand F r = expand F r' := expand_same F [] r r' h fun _ hx => nomatch hx
/-- fields without names, as fields -/
def emb : Ex → Fd
  | .whole n => .whole n
  | .px => .px
  | .pz => .pz
  | .noise s l => .noise s l
  | .two w a b => .two w (emb a) (emb b)
  | .over a n => .over (emb a) n
  | .bel a b c d => .bel (emb a) (emb b) (emb c) (emb d)
  | .shift dx dz a => .shift dx dz (emb a)
theorem expand_emb : ∀ (e : Ex) (r : Env), expand (emb e) r = e
  | .whole _, _ => rfl
  | .px, _ => rfl
  | .pz, _ => rfl
  | .noise _ _, _ => rfl
  | .two _ a b, r => by simp only [emb, expand, expand_emb a, expand_emb b]
  | .over a _, r => by simp only [emb, expand, expand_emb a]
  | .bel a b c d, r => by simp only [emb, expand, expand_emb a, expand_emb b, expand_emb c, expand_emb d]
  | .shift _ _ a, r => by simp only [emb, expand, expand_emb a]
theorem bnd_emb : ∀ (e : Ex) (xs : List Str), Bnd (emb e) xs
  | .whole _, _ => True.intro
  | .px, _ => True.intro
  | .pz, _ => True.intro
  | .noise _ _, _ => True.intro
  | .two _ a b, xs => ⟨bnd_emb a xs, bnd_emb b xs⟩
  | .over a _, xs => bnd_emb a xs
  | .bel a b c d, xs => ⟨bnd_emb a xs, bnd_emb b xs, bnd_emb c xs, bnd_emb d xs⟩
  | .shift _ _ a, xs => bnd_emb a xs
theorem okF_emb : ∀ (e : Ex), OkE e → OkF (emb e)
  | .whole _, h => h
  | .px, _ => True.intro
  | .pz, _ => True.intro
  | .noise _ _, h => h
  | .two _ a b, h => ⟨okF_emb a h.1, okF_emb b h.2⟩
  | .over a _, h => ⟨okF_emb a h.1, h.2⟩
  | .bel a b c d, h => ⟨okF_emb a h.1, okF_emb b h.2.1, okF_emb c h.2.2.1, okF_emb d h.2.2.2⟩
  | .shift _ _ a, h => ⟨h.1, h.2.1, okF_emb a h.2.2⟩
/-- the new name of a name -/
def nu : List (Str × Str) → Str → Str
  | [], x => x
  | (y, z) :: r, x => if x = y then z else nu r x
/-- a field whose lets' names are called otherwise, nm k being the new name of a let k lets deep -/
def call (fresh : Nat → Str) : Fd → List (Str × Str) → Nat → Fd
  | .two w a b, ν, k => .two w (call fresh a ν k) (call fresh b ν k)
  | .over a n, ν, k => .over (call fresh a ν k) n
  | .bel a b c d, ν, k => .bel (call fresh a ν k) (call fresh b ν k) (call fresh c ν k) (call fresh d ν k)
  | .shift dx dz a, ν, k => .shift dx dz (call fresh a ν k)
  | .lt x a b, ν, k => .lt (fresh k) (call fresh a ν k) (call fresh b ((x, fresh k) :: ν) (k + 1))
  | .nm x, ν, _ => .nm (nu ν x)
  | F, _, _ => F
/-- how many lets stand within one another -/
def lets : Fd → Nat
  | .two _ a b => max (lets a) (lets b)
  | .over a _ => lets a
  | .bel a b c d => max (max (lets a) (lets b)) (max (lets c) (lets d))
  | .shift _ _ a => lets a
  | .lt _ a b => max (lets a) (lets b + 1)
  | _ => 0
/-- called otherwise, a field's expansion is the same; new names differ -/
theorem expand_call (fresh : Nat → Str) (M : Nat) (inj : ∀ i j, i < M → j < M → fresh i = fresh j → i = j) : ∀ (F : Fd) (xs : List Str) (r r' : Env) (ν : List (Str × Str)) (k : Nat), k + lets F ≤ M → Bnd F xs →
    (∀ x ∈ xs, look r' (nu ν x) = look r x) → (∀ x ∈ xs, ∃ j, j < k ∧ nu ν x = fresh j) → expand (call fresh F ν k) r' = expand F r := by
  intro F
  induction F with
  | whole n => intros; rfl
  | px => intros; rfl
  | pz => intros; rfl
  | noise s l => intros; rfl
  | two w a b iha ihb =>
    intro xs r r' ν k hk h e f
    simp only [lets] at hk
    simp only [call, expand]
    rw [iha xs r r' ν k (by omega) h.1 e f, ihb xs r r' ν k (by omega) h.2 e f]
  | over a n iha =>
    intro xs r r' ν k hk h e f
    simp only [lets] at hk
    simp only [call, expand]
    rw [iha xs r r' ν k hk h e f]
  | bel a b c d iha ihb ihc ihd =>
    intro xs r r' ν k hk h e f
    simp only [lets] at hk
    simp only [call, expand]
    rw [iha xs r r' ν k (by omega) h.1 e f, ihb xs r r' ν k (by omega) h.2.1 e f, ihc xs r r' ν k (by omega) h.2.2.1 e f, ihd xs r r' ν k (by omega) h.2.2.2 e f]
  | shift dx dz a iha =>
    intro xs r r' ν k hk h e f
    simp only [lets] at hk
    simp only [call, expand]
    rw [iha xs r r' ν k hk h e f]
  | lt x a b iha ihb =>
    intro xs r r' ν k hk h e f
    simp only [lets] at hk
    simp only [call, expand]
    rw [iha xs r r' ν k (by omega) h.1 e f]
    refine ihb (x :: xs) _ _ _ (k + 1) (by omega) h.2 (fun y hy => ?_) (fun y hy => ?_)
    · by_cases c : y = x
      · simp only [nu, c, if_true, look]
      · have hy' : y ∈ xs := by rcases List.mem_cons.mp hy with h | h; exact absurd h c; exact h
        obtain ⟨j, hj, ej⟩ := f y hy'
        have n : ¬ nu ν y = fresh k := fun e2 => by
          have := inj j k (by omega) (by omega) (ej.symm.trans e2)
          omega
        simp only [nu, if_neg c, look, if_neg n]
        exact e y hy'
    · by_cases c : y = x
      · exact ⟨k, by omega, by simp only [nu, c, if_true]⟩
      · have hy' : y ∈ xs := by rcases List.mem_cons.mp hy with h | h; exact absurd h c; exact h
        obtain ⟨j, hj, ej⟩ := f y hy'
        exact ⟨j, by omega, by simp only [nu, if_neg c]; exact ej⟩
  | nm x => intro xs r r' ν k hk h e f; exact e x h
end Fm
namespace Fm
open PySem
/-- without products -/
def noT : Ex → Prop
  | .two w a b => w ≠ .times ∧ noT a ∧ noT b
  | .over a _ => noT a
  | .bel a b c d => noT a ∧ noT b ∧ noT c ∧ noT d
  | .shift _ _ a => noT a
  | _ => True
def dpE : Ex → Nat
  | .two _ a b => 1 + max (dpE a) (dpE b)
  | .over a _ => dpE a
  | .bel a b c d => max (max (dpE a) (dpE b)) (max (dpE c) (dpE d))
  | .shift _ _ a => dpE a
  | _ => 0
theorem vb_noT : ∀ (e : Ex) (k : Nat), 34 ≤ k → noT e → vb e k ≤ k + sh e + dpE e
  | .whole _, k, h, _ => by simp only [vb, sh, dpE]; omega
  | .px, k, h, _ => by simp only [vb, sh, dpE]; omega
  | .pz, k, h, _ => by simp only [vb, sh, dpE]; omega
  | .noise _ _, k, h, _ => by simp only [vb, sh, dpE]; omega
  | .two w a b, k, h, n => by
    have h1 := vb_noT a k h n.2.1
    have h2 := vb_noT b k h n.2.2
    cases w <;> first | exact absurd rfl n.1 | (simp only [vb, sh, dpE]; omega)
  | .over a _, k, h, n => by
    have h1 := vb_noT a k h n
    simp only [vb, sh, dpE]; omega
  | .bel a b c d, k, h, n => by
    have h1 := vb_noT a k h n.1
    have h2 := vb_noT b k h n.2.1
    have h3 := vb_noT c k h n.2.2.1
    have h4 := vb_noT d k h n.2.2.2
    simp only [vb, sh, dpE]; omega
  | .shift _ _ a, k, h, n => by
    have h1 := vb_noT a (k + 1) (by omega) n
    simp only [vb, sh, dpE]; omega
end Fm

/-! Fields put together: their ranges near the land, their sizes; steps of a field twice. -/
namespace Pf
open PySem L2 Lw Fm Fr Sm Rm
/-- a box at most r beyond the land -/
structure Nb (r x0 z0 x1 z1 : Int) : Prop where
  hx : x0 ≤ x1
  hz : z0 ≤ z1
  a : -1000000 - r ≤ x0
  b : x1 ≤ 1000000 + r
  c : -1000000 - r ≤ z0
  d : z1 ≤ 1000000 + r
theorem Nb.le {r s x0 z0 x1 z1 : Int} (h : Nb r x0 z0 x1 z1) (l : r ≤ s) : Nb s x0 z0 x1 z1 := by
  obtain ⟨h1, h2, h3, h4, h5, h6⟩ := h
  exact ⟨h1, h2, by omega, by omega, by omega, by omega⟩
/-- what is known of a field without names: r its room beyond the land, K for the bits of places -/
structure Ne (e : Ex) (r : Int) (K c v : Nat) (B : Int) : Prop where
  ok : OkE e
  cn : cn e ≤ c
  vb : ∀ k, 34 ≤ k → k ≤ K → vb e k ≤ v
  all : ∀ x0 z0 x1 z1, Nb r x0 z0 x1 z1 → ∀ p ∈ allE wideN e x0 z0 x1 z1, -(1000000000000000000000000000000 : Int) ≤ p.1 ∧ p.2 ≤ (1000000000000000000000000000000 : Int)
  lo : ∀ x0 z0 x1 z1, Nb r x0 z0 x1 z1 → -B ≤ (rangeG wideN e x0 z0 x1 z1).1
  hi : ∀ x0 z0 x1 z1, Nb r x0 z0 x1 z1 → (rangeG wideN e x0 z0 x1 z1).2 ≤ B
theorem Ne.or {e : Ex} {r : Int} {K c v : Nat} {B : Int} (h : Ne e r K c v B) {x0 z0 x1 z1 : Int} (n : Nb r x0 z0 x1 z1) : (rangeG wideN e x0 z0 x1 z1).1 ≤ (rangeG wideN e x0 z0 x1 z1).2 := range_ok wide_mono e x0 z0 x1 z1 h.ok n.hx n.hz
theorem ne_whole {n r B : Int} {K : Nat} (h : -999999999 ≤ n ∧ n ≤ 999999999) (h1 : -B ≤ n) (h2 : n ≤ B) : Ne (.whole n) r K 1 34 B :=
  ⟨h, Nat.le_refl 1, fun _ _ _ => Nat.le_refl 34, fun x0 z0 x1 z1 nb p hp => by rw [List.mem_singleton.mp hp]; show -(1000000000000000000000000000000 : Int) ≤ n ∧ n ≤ (1000000000000000000000000000000 : Int); omega, fun _ _ _ _ _ => h1, fun _ _ _ _ _ => h2⟩
theorem ne_px {r : Int} {K : Nat} (h : r ≤ 10000) : Ne .px r K 1 K 1010000 :=
  ⟨True.intro, Nat.le_refl 1, fun _ _ h => h, fun x0 z0 x1 z1 nb p hp => by rw [List.mem_singleton.mp hp]; have := nb.a; have := nb.b; show -(1000000000000000000000000000000 : Int) ≤ x0 ∧ x1 ≤ (1000000000000000000000000000000 : Int); omega, fun x0 z0 x1 z1 nb => by have := nb.a; show -1010000 ≤ x0; omega, fun x0 z0 x1 z1 nb => by have := nb.b; show x1 ≤ 1010000; omega⟩
theorem ne_pz {r : Int} {K : Nat} (h : r ≤ 10000) : Ne .pz r K 1 K 1010000 :=
  ⟨True.intro, Nat.le_refl 1, fun _ _ h => h, fun x0 z0 x1 z1 nb p hp => by rw [List.mem_singleton.mp hp]; have := nb.c; have := nb.d; show -(1000000000000000000000000000000 : Int) ≤ z0 ∧ z1 ≤ (1000000000000000000000000000000 : Int); omega, fun x0 z0 x1 z1 nb => by have := nb.c; show -1010000 ≤ z0; omega, fun x0 z0 x1 z1 nb => by have := nb.d; show z1 ≤ 1010000; omega⟩
theorem ne_noise {s l r : Int} {K : Nat} (h : (0 ≤ s ∧ s ≤ 1000000000) ∧ 0 ≤ l ∧ l ≤ 8) : Ne (.noise s l) r K 1 17 65535 :=
  ⟨h, Nat.le_refl 1, fun _ _ _ => Nat.le_refl 17, fun x0 z0 x1 z1 nb p hp => by rw [List.mem_singleton.mp hp]; show -(1000000000000000000000000000000 : Int) ≤ (0 : Int) ∧ (65535 : Int) ≤ (1000000000000000000000000000000 : Int); decide, fun _ _ _ _ _ => (by decide : -65535 ≤ (0 : Int)), fun _ _ _ _ _ => Int.le_refl 65535⟩
theorem ne_mono {e : Ex} {r r' : Int} {K K' c c' v v' : Nat} {B B' : Int} (h : Ne e r K c v B) (h1 : r' ≤ r) (h2 : K' ≤ K) (h3 : c ≤ c') (h4 : v ≤ v') (h5 : B ≤ B') : Ne e r' K' c' v' B' :=
  ⟨h.ok, Nat.le_trans h.cn h3, fun k a b => Nat.le_trans (h.vb k a (by omega)) h4, fun x0 z0 x1 z1 nb => h.all _ _ _ _ (nb.le h1), fun x0 z0 x1 z1 nb => by have := h.lo _ _ _ _ (nb.le h1); omega, fun x0 z0 x1 z1 nb => by have := h.hi _ _ _ _ (nb.le h1); omega⟩
theorem ne_two {w : W2} {a b : Ex} {r : Int} {K c1 c2 v1 v2 : Nat} {B1 B2 : Int} (hw : w ≠ .times) (ha : Ne a r K c1 v1 B1) (hb : Ne b r K c2 v2 B2) (h : B1 + B2 ≤ (1000000000000000000000000000000 : Int)) (p1 : 0 ≤ B1) (p2 : 0 ≤ B2) : Ne (.two w a b) r K (1 + (c1 + c2)) (max v1 v2 + 1) (B1 + B2) := by
  have top : ∀ x0 z0 x1 z1, Nb r x0 z0 x1 z1 → -(B1 + B2) ≤ (w.rng (rangeG wideN a x0 z0 x1 z1) (rangeG wideN b x0 z0 x1 z1)).1 ∧ (w.rng (rangeG wideN a x0 z0 x1 z1) (rangeG wideN b x0 z0 x1 z1)).2 ≤ B1 + B2 := fun x0 z0 x1 z1 nb => by
    have e1 := ha.lo _ _ _ _ nb
    have e2 := ha.hi _ _ _ _ nb
    have e3 := hb.lo _ _ _ _ nb
    have e4 := hb.hi _ _ _ _ nb
    have e5 := ha.or nb
    have e6 := hb.or nb
    cases w with
    | times => exact absurd rfl hw
    | _ => simp only [W2.rng]; omega
  refine ⟨⟨ha.ok, hb.ok⟩, by have := ha.cn; have := hb.cn; simp only [Fm.cn]; omega, fun k k0 k1 => by
    have e1 := ha.vb k k0 k1
    have e2 := hb.vb k k0 k1
    cases w with
    | times => exact absurd rfl hw
    | _ => simp only [Fm.vb]; omega, fun x0 z0 x1 z1 nb p hp => ?_, fun x0 z0 x1 z1 nb => (top _ _ _ _ nb).1, fun x0 z0 x1 z1 nb => (top _ _ _ _ nb).2⟩
  rcases List.mem_cons.mp hp with rfl | hp
  · have t := top _ _ _ _ nb
    simp only [rangeG]
    omega
  · rcases List.mem_append.mp hp with hp | hp
    · exact ha.all _ _ _ _ nb p hp
    · exact hb.all _ _ _ _ nb p hp
theorem ne_times {a b : Ex} {r : Int} {K c1 c2 v1 v2 : Nat} {B1 B2 : Int} (ha : Ne a r K c1 v1 B1) (hb : Ne b r K c2 v2 B2) (h : B1 * B2 ≤ (1000000000000000000000000000000 : Int)) (p1 : 0 ≤ B1) (p2 : 0 ≤ B2) : Ne (.two .times a b) r K (1 + (c1 + c2)) (v1 + v2) (B1 * B2) := by
  have mb : ∀ {i j : Int}, -B1 ≤ i → i ≤ B1 → -B2 ≤ j → j ≤ B2 → -(B1 * B2) ≤ i * j ∧ i * j ≤ B1 * B2 := fun {i j} h1 h2 h3 h4 => by
    have h := Nat.mul_le_mul (show i.natAbs ≤ B1.natAbs by omega) (show j.natAbs ≤ B2.natAbs by omega)
    rw [← Int.natAbs_mul, ← Int.natAbs_mul] at h
    have h0 := Int.mul_nonneg p1 p2
    omega
  have top : ∀ x0 z0 x1 z1, Nb r x0 z0 x1 z1 → -(B1 * B2) ≤ (W2.times.rng (rangeG wideN a x0 z0 x1 z1) (rangeG wideN b x0 z0 x1 z1)).1 ∧ (W2.times.rng (rangeG wideN a x0 z0 x1 z1) (rangeG wideN b x0 z0 x1 z1)).2 ≤ B1 * B2 := fun x0 z0 x1 z1 nb => by
    have e1 := ha.lo _ _ _ _ nb
    have e2 := ha.hi _ _ _ _ nb
    have e3 := hb.lo _ _ _ _ nb
    have e4 := hb.hi _ _ _ _ nb
    have e5 := ha.or nb
    have e6 := hb.or nb
    have m1 := mb (i := (rangeG wideN a x0 z0 x1 z1).1) (j := (rangeG wideN b x0 z0 x1 z1).1) (by omega) (by omega) (by omega) (by omega)
    have m2 := mb (i := (rangeG wideN a x0 z0 x1 z1).1) (j := (rangeG wideN b x0 z0 x1 z1).2) (by omega) (by omega) (by omega) (by omega)
    have m3 := mb (i := (rangeG wideN a x0 z0 x1 z1).2) (j := (rangeG wideN b x0 z0 x1 z1).1) (by omega) (by omega) (by omega) (by omega)
    have m4 := mb (i := (rangeG wideN a x0 z0 x1 z1).2) (j := (rangeG wideN b x0 z0 x1 z1).2) (by omega) (by omega) (by omega) (by omega)
    simp only [W2.rng, mn4, mx4]
    omega
  refine ⟨⟨ha.ok, hb.ok⟩, by have := ha.cn; have := hb.cn; simp only [Fm.cn]; omega, fun k k0 k1 => by
    have e1 := ha.vb k k0 k1
    have e2 := hb.vb k k0 k1
    simp only [Fm.vb]
    omega, fun x0 z0 x1 z1 nb p hp => ?_, fun x0 z0 x1 z1 nb => (top _ _ _ _ nb).1, fun x0 z0 x1 z1 nb => (top _ _ _ _ nb).2⟩
  rcases List.mem_cons.mp hp with rfl | hp
  · have t := top _ _ _ _ nb
    simp only [rangeG]
    omega
  · rcases List.mem_append.mp hp with hp | hp
    · exact ha.all _ _ _ _ nb p hp
    · exact hb.all _ _ _ _ nb p hp
theorem ne_over {a : Ex} {n r : Int} {K c v : Nat} {B : Int} (ha : Ne a r K c v B) (n0 : 1 ≤ n) (n1 : n ≤ 1000000000) (h : B ≤ (1000000000000000000000000000000 : Int)) (p : 0 ≤ B) : Ne (.over a n) r K (1 + c) v B := by
  have q0 : ∀ i : Int, -B ≤ i → -B ≤ i / n := fun i hi => by
    by_cases h0 : 0 ≤ i
    · have := Int.ediv_nonneg h0 (show 0 ≤ n by omega)
      omega
    · have h2 : i ≤ i / n := by
        refine (Int.le_ediv_iff_mul_le (by omega)).mpr ?_
        have := Int.mul_le_mul_of_nonpos_left (a := i) (by omega) n0
        omega
      omega
  have q1 : ∀ i : Int, i ≤ B → i / n ≤ B := fun i hi => by
    by_cases h0 : 0 ≤ i
    · have := Int.ediv_le_self n h0
      omega
    · have := Int.ediv_neg_of_neg_of_pos (show i < 0 by omega) (show 0 < n by omega)
      omega
  refine ⟨⟨ha.ok, n0, n1⟩, by have := ha.cn; simp only [Fm.cn]; omega, ha.vb, fun x0 z0 x1 z1 nb p hp => ?_, fun x0 z0 x1 z1 nb => q0 _ (ha.lo _ _ _ _ nb), fun x0 z0 x1 z1 nb => q1 _ (ha.hi _ _ _ _ nb)⟩
  rcases List.mem_cons.mp hp with rfl | hp
  · have t := q0 _ (ha.lo _ _ _ _ nb)
    have u := q1 _ (ha.hi _ _ _ _ nb)
    simp only [rangeG]
    omega
  · exact ha.all _ _ _ _ nb p hp
theorem ne_bel {a b e f : Ex} {r : Int} {K c1 c2 c3 c4 v1 v2 v3 v4 : Nat} {B1 B2 B3 B4 : Int} (ha : Ne a r K c1 v1 B1) (hb : Ne b r K c2 v2 B2) (he : Ne e r K c3 v3 B3) (hf : Ne f r K c4 v4 B4) (h : max B3 B4 ≤ (1000000000000000000000000000000 : Int)) :
    Ne (.bel a b e f) r K (1 + (c1 + (c2 + (c3 + c4)))) (max (max v1 v2) (max v3 v4)) (max B3 B4) := by
  have top : ∀ x0 z0 x1 z1, Nb r x0 z0 x1 z1 → -(max B3 B4) ≤ (rangeG wideN (.bel a b e f) x0 z0 x1 z1).1 ∧ (rangeG wideN (.bel a b e f) x0 z0 x1 z1).2 ≤ max B3 B4 := fun x0 z0 x1 z1 nb => by
    have e1 := he.lo _ _ _ _ nb
    have e2 := he.hi _ _ _ _ nb
    have e3 := hf.lo _ _ _ _ nb
    have e4 := hf.hi _ _ _ _ nb
    simp only [rangeG, belR]
    split
    · omega
    · split
      · omega
      · show -(max B3 B4) ≤ min _ _ ∧ max _ _ ≤ max B3 B4
        omega
  refine ⟨⟨ha.ok, hb.ok, he.ok, hf.ok⟩, by have := ha.cn; have := hb.cn; have := he.cn; have := hf.cn; simp only [Fm.cn]; omega, fun k k0 k1 => by
    have e1 := ha.vb k k0 k1
    have e2 := hb.vb k k0 k1
    have e3 := he.vb k k0 k1
    have e4 := hf.vb k k0 k1
    simp only [Fm.vb]
    omega, fun x0 z0 x1 z1 nb p hp => ?_, fun x0 z0 x1 z1 nb => (top _ _ _ _ nb).1, fun x0 z0 x1 z1 nb => (top _ _ _ _ nb).2⟩
  rcases List.mem_cons.mp hp with rfl | hp
  · have t := top _ _ _ _ nb
    omega
  · rcases List.mem_append.mp hp with hp | hp
    · exact ha.all _ _ _ _ nb p hp
    · rcases List.mem_append.mp hp with hp | hp
      · exact hb.all _ _ _ _ nb p hp
      · rcases List.mem_append.mp hp with hp | hp
        · exact he.all _ _ _ _ nb p hp
        · exact hf.all _ _ _ _ nb p hp
theorem ne_shift {a : Ex} {dx dz r s : Int} {K c v : Nat} {B : Int} (ha : Ne a r (K + 1) c v B) (hx : -s ≤ dx ∧ dx ≤ s) (hz : -s ≤ dz ∧ dz ≤ s) (s1 : s ≤ 1000) (h : B ≤ (1000000000000000000000000000000 : Int)) : Ne (.shift dx dz a) (r - s) K (1 + c) v B := by
  have sb : ∀ {x0 z0 x1 z1}, Nb (r - s) x0 z0 x1 z1 → Nb r (x0 + dx) (z0 + dz) (x1 + dx) (z1 + dz) := fun {x0 z0 x1 z1} h => by
    obtain ⟨h1, h2, h3, h4, h5, h6⟩ := h
    exact ⟨by omega, by omega, by omega, by omega, by omega, by omega⟩
  refine ⟨⟨⟨by omega, by omega⟩, ⟨by omega, by omega⟩, ha.ok⟩, by have := ha.cn; simp only [Fm.cn]; omega, fun k k0 k1 => ha.vb (k + 1) (by omega) (by omega), fun x0 z0 x1 z1 nb p hp => ?_, fun x0 z0 x1 z1 nb => ha.lo _ _ _ _ (sb nb), fun x0 z0 x1 z1 nb => ha.hi _ _ _ _ (sb nb)⟩
  rcases List.mem_cons.mp hp with rfl | hp
  · have t := ha.lo _ _ _ _ (sb nb)
    have u := ha.hi _ _ _ _ (sb nb)
    simp only [rangeG]
    omega
  · exact ha.all _ _ _ _ (sb nb) p hp
theorem ne_shift2 {e : Ex} {a b c d r s : Int} {K n v : Nat} {B : Int} (h : Ne e r (K + 1 + 1) n v B) (ha : -1000 ≤ a ∧ a ≤ 1000) (hb : -1000 ≤ b ∧ b ≤ 1000) (hc : -1000 ≤ c ∧ c ≤ 1000) (hd : -1000 ≤ d ∧ d ≤ 1000) (hx : -s ≤ a + c ∧ a + c ≤ s) (hz : -s ≤ b + d ∧ b + d ≤ s) (hB : B ≤ (1000000000000000000000000000000 : Int)) :
    Ne (.shift a b (.shift c d e)) (r - s) K (1 + (1 + n)) v B := by
  have sb : ∀ {x0 z0 x1 z1}, Nb (r - s) x0 z0 x1 z1 → Nb r (x0 + a + c) (z0 + b + d) (x1 + a + c) (z1 + b + d) := fun {x0 z0 x1 z1} h => by
    obtain ⟨h1, h2, h3, h4, h5, h6⟩ := h
    exact ⟨by omega, by omega, by omega, by omega, by omega, by omega⟩
  refine ⟨⟨ha, hb, hc, hd, h.ok⟩, by have := h.cn; simp only [Fm.cn]; omega, fun k k0 k1 => h.vb (k + 1 + 1) (by omega) (by omega), fun x0 z0 x1 z1 nb p hp => ?_, fun x0 z0 x1 z1 nb => h.lo _ _ _ _ (sb nb), fun x0 z0 x1 z1 nb => h.hi _ _ _ _ (sb nb)⟩
  have t := h.lo _ _ _ _ (sb nb)
  have u := h.hi _ _ _ _ (sb nb)
  rcases List.mem_cons.mp hp with rfl | hp
  · simp only [rangeG]
    omega
  · rcases List.mem_cons.mp hp with rfl | hp
    · simp only [rangeG]
      omega
    · exact h.all _ _ _ _ (sb nb) p hp
/-! ### a field put in again -/
theorem put_again {st : List Stp} {s : Stp} (h : s ∈ st) : (put st s).1 = st := by unfold put; rw [if_pos h]
theorem put_idx {st st' : List Stp} {s : Stp} (h : st <+: st') (m : s ∈ st) : (put st' s) = (st', st.idxOf s) := by
  obtain ⟨t, rfl⟩ := h
  unfold put
  rw [if_pos (List.mem_append_left _ m), List.idxOf_append, if_pos m]
theorem put_fst_mem (st : List Stp) (s : Stp) : s ∈ (put st s).1 := by
  unfold put
  split
  · assumption
  · simp
theorem put_num (st : List Stp) (s : Stp) : (put st s).2 = (put st s).1.idxOf s := by
  unfold put
  split
  · rfl
  · rename_i h
    dsimp only
    rw [List.idxOf_append, if_neg h]
    simp
theorem put_more {st st' : List Stp} {s : Stp} (h : (put st s).1 <+: st') : put st' s = (st', (put st s).2) := by
  rw [put_idx h (put_fst_mem st s), put_num]
/-- put in behind what has it, nothing is added, and the number is the same -/
theorem into_again : ∀ (e : Ex) (dx dz : Int) (st st' : List Stp), (into e dx dz st).1 <+: st' → into e dx dz st' = (st', (into e dx dz st).2)
  | .whole n, dx, dz, st, st', h => put_more h
  | .px, dx, dz, st, st', h => put_more h
  | .pz, dx, dz, st, st', h => put_more h
  | .noise s l, dx, dz, st, st', h => put_more h
  | .two w a b, dx, dz, st, st', h => by
    have ia := into_ok a dx dz st
    have ib := into_ok b dx dz (into a dx dz st).1
    have p := put_ok (into b dx dz (into a dx dz st).1).1 (.two w (into a dx dz st).2 (into b dx dz (into a dx dz st).1).2)
    have h' : (put (into b dx dz (into a dx dz st).1).1 (.two w (into a dx dz st).2 (into b dx dz (into a dx dz st).1).2)).1 <+: st' := h
    have h2 := p.pre.trans h'
    have h1 := ib.pre.trans h2
    show put (into b dx dz (into a dx dz st').1).1 (.two w (into a dx dz st').2 (into b dx dz (into a dx dz st').1).2) = _
    rw [into_again a dx dz st st' h1]
    dsimp only
    rw [into_again b dx dz (into a dx dz st).1 st' h2]
    dsimp only
    rw [put_more h']
    rfl
  | .over a n, dx, dz, st, st', h => by
    have ia := into_ok a dx dz st
    have p := put_ok (into a dx dz st).1 (.over (into a dx dz st).2 n)
    have h' : (put (into a dx dz st).1 (.over (into a dx dz st).2 n)).1 <+: st' := h
    have h1 := p.pre.trans h'
    show put (into a dx dz st').1 (.over (into a dx dz st').2 n) = _
    rw [into_again a dx dz st st' h1]
    dsimp only
    rw [put_more h']
    rfl
  | .bel a b c d, dx, dz, st, st', h => by
    obtain ⟨qa, ea⟩ : ∃ q, into a dx dz st = q := ⟨_, rfl⟩
    obtain ⟨qb, eb⟩ : ∃ q, into b dx dz qa.1 = q := ⟨_, rfl⟩
    obtain ⟨qc, ec⟩ : ∃ q, into c dx dz qb.1 = q := ⟨_, rfl⟩
    obtain ⟨qd, ed⟩ : ∃ q, into d dx dz qc.1 = q := ⟨_, rfl⟩
    have e : into (.bel a b c d) dx dz st = put qd.1 (.bel qa.2 qb.2 qc.2 qd.2) := by
      simp only [into, ea, eb, ec, ed]
    rw [e] at h ⊢
    have p := put_ok qd.1 (.bel qa.2 qb.2 qc.2 qd.2)
    have h4 := p.pre.trans h
    have id := into_ok d dx dz qc.1
    rw [ed] at id
    have h3 := id.pre.trans h4
    have ic := into_ok c dx dz qb.1
    rw [ec] at ic
    have h2 := ic.pre.trans h3
    have ib := into_ok b dx dz qa.1
    rw [eb] at ib
    have h1 := ib.pre.trans h2
    have a1 := into_again a dx dz st st' (by rw [ea]; exact h1)
    have a2 := into_again b dx dz qa.1 st' (by rw [eb]; exact h2)
    have a3 := into_again c dx dz qb.1 st' (by rw [ec]; exact h3)
    have a4 := into_again d dx dz qc.1 st' (by rw [ed]; exact h4)
    rw [ea] at a1
    rw [eb] at a2
    rw [ec] at a3
    rw [ed] at a4
    simp only [into, a1, a2, a3, a4]
    exact put_more h
  | .shift ex ez a, dx, dz, st, st', h => into_again a (dx + ex) (dz + ez) st st' h
/-- a field twice costs one step more -/
theorem steps_twice (e : Ex) : (stepsE (.two .plus e e)).length = (stepsE e).length + 1 := by
  have ie := into_ok e 0 0 []
  have ok := ie.ok ok_nil
  have htop : (into e 0 0 []).2 + 1 = (into e 0 0 []).1.length := by
    rcases into_top e 0 0 [] ok_nil with h | h
    · have := ie.lt
      rw [h] at this
      exact absurd this (Nat.not_lt_zero _)
    · exact h
  have ag := into_again e 0 0 [] (into e 0 0 []).1 (List.prefix_refl _)
  show (put (into e 0 0 (into e 0 0 []).1).1 (.two .plus (into e 0 0 []).2 (into e 0 0 (into e 0 0 []).1).2)).1.length = (into e 0 0 []).1.length + 1
  rw [ag]
  dsimp only
  have no : Stp.two .plus (into e 0 0 []).2 (into e 0 0 []).2 ∉ (into e 0 0 []).1 := fun m => by
    obtain ⟨j, hj⟩ := List.getElem?_of_mem m
    have h1 := ok j _ hj
    have h2 : (into e 0 0 []).2 < j := h1.1
    have h3 : j < (into e 0 0 []).1.length := (List.getElem?_eq_some_iff.mp hj).1
    omega
  unfold put
  rw [if_neg no, List.length_append]
  rfl
end Pf

/-! What steps lean on: each step but the last is leaned on by a later one. -/
namespace Ls
open PySem Fm Sm
def leans : Stp → List Nat
  | .two _ i j => [i, j]
  | .over i _ => [i]
  | .bel a b c d => [a, b, c, d]
  | _ => []
theorem lt_leans {s : Stp} {n i : Nat} (h : s.lt n) (hi : i ∈ leans s) : i < n := by
  cases s <;> simp only [leans, List.mem_cons, List.not_mem_nil, or_false] at hi <;> simp only [Stp.lt] at h
  · rcases hi with rfl | rfl <;> omega
  · omega
  · rcases hi with rfl | rfl | rfl | rfl <;> omega
def Usd (st : List Stp) (k : Nat) : Prop := ∃ j s, k < j ∧ st[j]? = some s ∧ k ∈ leans s
theorem Usd.pre {st st' : List Stp} {k : Nat} (h : st <+: st') : Usd st k → Usd st' k := by
  rintro ⟨j, s, a, b, c⟩
  obtain ⟨t, rfl⟩ := h
  have : j < st.length := (List.getElem?_eq_some_iff.mp b).1
  exact ⟨j, s, a, by rw [List.getElem?_append_left this]; exact b, c⟩
theorem put_usd {st : List Stp} {s : Stp} (o : Ok st) (hs : s.lt st.length) {k : Nat} (hk : k ∈ leans s) : Usd (put st s).1 k := by
  have p := put_ok st s
  exact ⟨_, s, lt_leans (p.ok o hs _ _ p.at_) hk, p.at_, hk⟩
theorem put_new {st : List Stp} {s : Stp} {k : Nat} (h : st.length ≤ k) (h2 : k < (put st s).1.length) : k = (put st s).2 := by
  unfold put at *
  split at h2
  · exact absurd h2 (by simp only []; omega)
  · rename_i no
    rw [if_neg no]
    simp at h2
    simp only []
    omega
def Us (a : Nat) (st : List Stp) (r : Nat) : Prop := ∀ k, a ≤ k → k < st.length → k = r ∨ Usd st k
theorem Us.up {a : Nat} {st st' : List Stp} {r : Nat} (h : Us a st r) (p : st <+: st') (u : Usd st' r) : ∀ k, a ≤ k → k < st.length → Usd st' k := fun k h1 h2 => by
  rcases h k h1 h2 with rfl | h
  · exact u
  · exact h.pre p
theorem us_leaf (st : List Stp) (s : Stp) : Us st.length (put st s).1 (put st s).2 := fun k h1 h2 => .inl (put_new h1 h2)
theorem us_into : ∀ (e : Ex) (dx dz : Int) (st : List Stp), Ok st → Us st.length (into e dx dz st).1 (into e dx dz st).2
  | .whole n, dx, dz, st, _ => us_leaf st _
  | .px, dx, dz, st, _ => us_leaf st _
  | .pz, dx, dz, st, _ => us_leaf st _
  | .noise s l, dx, dz, st, _ => us_leaf st _
  | .two w a b, dx, dz, st, o => by
    have ha := into_ok a dx dz st
    have hb := into_ok b dx dz (into a dx dz st).1
    have ua := us_into a dx dz st o
    have ub := us_into b dx dz (into a dx dz st).1 (ha.ok o)
    have p := put_ok (into b dx dz (into a dx dz st).1).1 (.two w (into a dx dz st).2 (into b dx dz (into a dx dz st).1).2)
    have lb := hb.pre.length_le
    have hs : (Stp.two w (into a dx dz st).2 (into b dx dz (into a dx dz st).1).2).lt (into b dx dz (into a dx dz st).1).1.length := ⟨Nat.lt_of_lt_of_le ha.lt lb, hb.lt⟩
    have us := fun {k} hk => put_usd (hb.ok (ha.ok o)) hs (k := k) hk
    intro k h1 h2
    by_cases c1 : k < (into a dx dz st).1.length
    · exact .inr (ua.up (hb.pre.trans p.pre) (us (by simp [leans])) k h1 c1)
    by_cases c2 : k < (into b dx dz (into a dx dz st).1).1.length
    · exact .inr (ub.up p.pre (us (by simp [leans])) k (by omega) c2)
    exact .inl (put_new (by omega) h2)
  | .over a n, dx, dz, st, o => by
    have ha := into_ok a dx dz st
    have ua := us_into a dx dz st o
    have p := put_ok (into a dx dz st).1 (.over (into a dx dz st).2 n)
    have us := fun {k} hk => put_usd (ha.ok o) (s := .over (into a dx dz st).2 n) ha.lt (k := k) hk
    intro k h1 h2
    by_cases c1 : k < (into a dx dz st).1.length
    · exact .inr (ua.up p.pre (us (by simp [leans])) k h1 c1)
    exact .inl (put_new (by omega) h2)
  | .bel a b c d, dx, dz, st, o => by
    have ha := into_ok a dx dz st
    have hb := into_ok b dx dz (into a dx dz st).1
    have hc := into_ok c dx dz (into b dx dz (into a dx dz st).1).1
    have hd := into_ok d dx dz (into c dx dz (into b dx dz (into a dx dz st).1).1).1
    have ua := us_into a dx dz st o
    have ub := us_into b dx dz (into a dx dz st).1 (ha.ok o)
    have uc := us_into c dx dz (into b dx dz (into a dx dz st).1).1 (hb.ok (ha.ok o))
    have ud := us_into d dx dz (into c dx dz (into b dx dz (into a dx dz st).1).1).1 (hc.ok (hb.ok (ha.ok o)))
    have p := put_ok (into d dx dz (into c dx dz (into b dx dz (into a dx dz st).1).1).1).1 (.bel (into a dx dz st).2 (into b dx dz (into a dx dz st).1).2 (into c dx dz (into b dx dz (into a dx dz st).1).1).2 (into d dx dz (into c dx dz (into b dx dz (into a dx dz st).1).1).1).2)
    have lb := hb.pre.length_le
    have lc := hc.pre.length_le
    have ld := hd.pre.length_le
    have la' := ha.lt
    have lb' := hb.lt
    have lc' := hc.lt
    have hs : (Stp.bel (into a dx dz st).2 (into b dx dz (into a dx dz st).1).2 (into c dx dz (into b dx dz (into a dx dz st).1).1).2 (into d dx dz (into c dx dz (into b dx dz (into a dx dz st).1).1).1).2).lt (into d dx dz (into c dx dz (into b dx dz (into a dx dz st).1).1).1).1.length :=
      ⟨by omega, by omega, by omega, hd.lt⟩
    have us := fun {k} hk => put_usd (hd.ok (hc.ok (hb.ok (ha.ok o)))) hs (k := k) hk
    intro k h1 h2
    by_cases c1 : k < (into a dx dz st).1.length
    · exact .inr (ua.up (hb.pre.trans (hc.pre.trans (hd.pre.trans p.pre))) (us (by simp [leans])) k h1 c1)
    by_cases c2 : k < (into b dx dz (into a dx dz st).1).1.length
    · exact .inr (ub.up (hc.pre.trans (hd.pre.trans p.pre)) (us (by simp [leans])) k (by omega) c2)
    by_cases c3 : k < (into c dx dz (into b dx dz (into a dx dz st).1).1).1.length
    · exact .inr (uc.up (hd.pre.trans p.pre) (us (by simp [leans])) k (by omega) c3)
    by_cases c4 : k < (into d dx dz (into c dx dz (into b dx dz (into a dx dz st).1).1).1).1.length
    · exact .inr (ud.up p.pre (us (by simp [leans])) k (by omega) c4)
    exact .inl (put_new (by omega) h2)
  | .shift ex ez a, dx, dz, st, o => us_into a (dx + ex) (dz + ez) st o
theorem into_pos (e : Ex) : 0 < (stepsE e).length := Nat.lt_of_le_of_lt (Nat.zero_le _) (into_ok e 0 0 []).lt
/-- the steps of a field: each but the last is leaned on by a later one -/
theorem steps_used (e : Ex) : ∀ k, k + 1 < (stepsE e).length → Usd (stepsE e) k := fun k h => by
  have t := into_top e 0 0 [] ok_nil
  have u := us_into e 0 0 [] ok_nil
  have p := into_pos e
  rcases t with t | t
  · unfold stepsE at p
    rw [t] at p
    simp at p
  · rcases u k (Nat.zero_le _) (Nat.lt_of_succ_lt h) with e1 | e1
    · have h' : k + 1 < (into e 0 0 []).1.length := h
      omega
    · exact e1
theorem steps_ok (e : Ex) : Ok (stepsE e) := (into_ok e 0 0 []).ok ok_nil
theorem steps_nd (e : Ex) : (stepsE e).Nodup := (into_ok e 0 0 []).nd List.nodup_nil
theorem steps_len (e : Ex) : (stepsE e).length ≤ cn e := by have := (into_ok e 0 0 []).len; simp at this; exact this
/-- twice the same field: one step more -/
theorem notin_take {st : List Stp} (h : st.Nodup) {k : Nat} {s : Stp} (hk : st[k]? = some s) : s ∉ st.take k := fun hm => by
  obtain ⟨i, hi, e⟩ := List.getElem_of_mem hm
  rw [List.length_take] at hi
  rw [List.getElem_take] at e
  have hk2 := (List.getElem?_eq_some_iff.mp hk)
  obtain ⟨hk3, e3⟩ := hk2
  exact List.pairwise_iff_getElem.mp h i k (by omega) hk3 (by omega) (e.trans e3.symm)
end Ls

/-! enumerate(tuple, k). -/
namespace Eu
open PySem PySem.Spec PyProof.Rows L2 Lw
/-- the tuple at a at each turn, each item in a new pair with its number from k0 on -/
def IteT (K : PySem.W.Frag) (k0 : Int) (a : Addr) : It :=
  ⟨fun i H => ∃ (xs : List V) (x : V), SqT K H a xs ∧ xs[i]? = some x, fun i H v H' => ∃ T x, v = .ref T ∧ H T = none ∧ H' = upd H T (.tup [.int (k0 + (i : Nat)), x]) ∧ ∀ xs, SqT K H a xs → xs[i]? = some x, fun i H => ∃ xs : List V, SqT K H a xs ∧ xs.length ≤ i⟩
theorem turn_enumT {P : Program} {w : World} {K : PySem.W.Frag} {elts : List Expr} {kk : Nat} {tpos : Pos} {k0 : Int} (a e it : Addr) (hea : e ≠ a) (hia : a ≠ it) :
    Turn P w K (.Tuple elts kk tpos) (IteT K k0 a) [e, it] e (fun i h => (∃ old, IsEnum h e it (k0 + ((i : Nat) : Int)) old) ∧ h.IsTupleIter it a i ∧ e ≠ it) where
  mem := by simp
  obj := fun i h st b hb => by
    obtain ⟨⟨old, he⟩, ⟨o, ho, hc, hd⟩, _⟩ := st
    have e' : b = e ∨ b = it := by simpa using hb
    rcases e' with z | z
    · rw [z]; exact ⟨_, he, fun v q => nomatch q⟩
    · rw [z]; exact ⟨o, ho, fun v q => by rw [hd] at q; cases q⟩
  keep := fun i h h' st k => let ⟨⟨old, he⟩, hi, hne⟩ := st; ⟨⟨old, k e (by simp) _ he⟩, hi.at fun o q => k it (by simp) o q, hne⟩
  item := by
    intro X hP hw hK hc i pins s σ H E I hf st hg
    subst hP hw hK
    obtain ⟨⟨old, he⟩, hit, hne⟩ := st
    obtain ⟨xs, x, hq, hx⟩ := hg
    obtain ⟨its, rv, p, hz⟩ := I.tuple hq
    obtain ⟨u, hu, ru⟩ := rv.get hx
    have hel : e < s.heap.objs.size := Heap.lt_size he
    have hil : it < s.heap.objs.size := by obtain ⟨_, q, _⟩ := hit; exact Heap.lt_size q
    have hhd := I.ok.hd hc
    have D := Draws.tuple (prog := X.prog) (w := X.w) (A := X.A.in1) hhd it a hia its.toArray
    have hlt : i < its.toArray.size := by
      have := (List.getElem?_eq_some_iff.mp hu).1
      simpa using this
    refine wpAny_pyNext_enum_itemC D he ⟨hit, p⟩ hlt hne (by simp [hne, hea]) fun x2 h' tk px ho st' hT hsz hk => ?_
    have ex2 : x2 = u := by
      have z : its.toArray[i]? = some x2 := px
      have z2 : its.toArray[i]? = some u := by simpa using hu
      rw [z] at z2
      exact Option.some.inj z2
    subst ex2
    refine ⟨_, rfl, wpAny_letOwnedTupleGo_enum (s := { s with heap := h', toks := tk + 1 }) ho fun h'' he' sb => ?_⟩
    have hT2 : h''.get? s.heap.objs.size = some { cls := .type "tuple", data := .seq #[.int (k0 + (i : Int)) tk, x2] } := (sb.2 _ (Nat.ne_of_gt hel)).trans hT
    have new : ObjOk X.prog X.w (upd H s.heap.objs.size (.tup [.int (k0 + (i : Nat)), x])) h'' s.heap.objs.size (.tup [.int (k0 + (i : Nat)), x]) :=
      ⟨by show 2 ≤ sizeLine; decide, [.int (k0 + (i : Int)) tk, x2], .cons ⟨_, rfl⟩ (.cons ru .nil), ⟨_, hT2, rfl, _, rfl⟩⟩
    have I1 : Inv X pins σ (upd H s.heap.objs.size (.tup [.int (k0 + (i : Nat)), x])) { s with heap := h'', toks := tk + 1 } :=
      I.turnedNew (ch := [e, it]) (fun b ob hb q => (sb.2 b (fun z => hb (by simp [z]))).trans (hk b ob (fun z => hb (by simp [z])) (fun z => hb (by simp [z])) q)) hf (Nat.le_refl _) new
    refine ⟨.ref s.heap.objs.size, _, I1, rfl, ⟨_, x, rfl, I.hok.fresh (Nat.le_refl _), rfl, fun ys hy => by rw [I.tuple_inj hy hq]; exact hx⟩, ⟨⟨x2, ?_⟩, st'.1.at fun o q => (sb.2 it (Ne.symm hne)).trans q, hne⟩, fun b hb => ?_⟩
    · have e1 : k0 + ((i + 1 : Nat) : Int) = k0 + (i : Int) + 1 := by omega
      rw [e1]; exact he'
    · have hb' : b < s.heap.objs.size := by
        have e' : b = e ∨ b = it := by simpa using hb
        rcases e' with z | z
        · rw [z]; exact hel
        · rw [z]; exact hil
      rw [upd_ne (Nat.ne_of_lt hb')]
      exact (hf b hb).1
  done := by
    intro X hP hw hK hc i pins s σ H E I hf st hg
    subst hP hw hK
    obtain ⟨⟨old, he⟩, hit, hne⟩ := st
    obtain ⟨xs, hq, hx⟩ := hg
    obtain ⟨its, rv, p, hz⟩ := I.tuple hq
    obtain ⟨f0, f1, f2, f3, f4, f5⟩ := hf it (by simp)
    have hl := rv.length
    have hT : s.TypeIs (.ref e) "enumerate" := ⟨_, he, rfl⟩
    unfold pyNext
    refine wpAny_bind (wpAny_attempt (wpAny_callSpecial?_slot (name := Str.ofString "__next__") hT F.slot_enumerate_next
      (wpAny_call_entry F.slot_enumerate_next hT F.entry_enumerate_next ?_ (F.args_enumerate_next_1 _))))
    show wpAny _ _ (field (.ref e) 2 >>= _) _ _ _
    refine wpAny_bind (wpAny_field he rfl (x := .ref it) rfl ?_)
    refine wpAny_bind (wpAny_nextOf_tuple_end (I.ok.hd hc) hit p (by simp; omega) fun h' x he' hx' => ?_)
    obtain ⟨o, ho, hc'⟩ := hx'
    refine wpAny_bind (wpAny_isInstance (T := "StopIteration") (b := true) ⟨o, ho, hc'⟩ isSubtype_stop ?_)
    exact wpAny_pure ⟨rfl, I.turned (t' := s.toks) (fun b o hb q => he' b o hb q) f0 f1 f3 f4 f5⟩
  self := fun A i s Q E st h => let ⟨⟨_, he⟩, _⟩ := st; wpAny_pyIter_enum he h
def iEnumT (K : PySem.W.Frag) (ta : TA) : TI := fun σ H R => ta σ H fun vs H1 => ∃ a k0 xs, vs = [.ref a, .int k0] ∧ SqT K H1 a xs ∧ -1000 ≤ k0 ∧ k0 ≤ 1000 ∧ R (IteT K k0 a) H1
theorem pi_enumT {X : Cx} {e e2 : Expr} {ta : TA} {p pos tpos : Pos} {elts : List Expr} {kk : Nat} (hg : Gl X "enumerate") (hm : X.mg "enumerate" = none) (ha : PA X [e, e2] ta)
    (hs : starEach [e, e2] X.env = (false, eval e X.env) :: starEach [e2] X.env := by rfl) (hpl : (backTo pos (starEach [e2] X.env)).any (·.1) = false := by rfl) :
    PI X (.Tuple elts kk tpos) (.Call (.Name "enumerate" p) [e, e2] [] pos) (iEnumT X.K ta) := by
  refine ⟨fun pins s σ H R I h => ?_⟩
  refine Call_ (ld_blt I hg hm boot_enumerate (PyProof.Rows.callWith_type1 (thn (ha.run pos pins s σ H _ I h) fun us s1 ⟨vs, H1, I1, r1, q1⟩ => ?_) hs hpl))
  obtain ⟨a, k0, xs, ex, hq, hk0, hk1, q⟩ := q1
  subst ex
  cases r1 with
  | cons r rr =>
    cases rr with
    | cons r2 rr =>
      cases rr
      cases r
      obtain ⟨t, rfl⟩ := r2
      obtain ⟨its, rv, p', hz⟩ := I1.tuple hq
      have hal : a < s1.heap.objs.size := by obtain ⟨o1, ho1, _⟩ := id p'; exact Heap.lt_size ho1
      refine enum_begins (begins_tuple a its.toArray) p' (by omega) (by omega) fun h' he hit hsz hk => wpAny_pyIter_enum he ?_
      have I2 : Inv X pins σ H1 { s1 with heap := h' } := I1.kept (t' := s1.toks) hk
      refine ⟨s1.heap.objs.size + 1, [s1.heap.objs.size + 1, s1.heap.objs.size], _, _, H1, rfl, I2, turn_enumT (k0 := k0) a (s1.heap.objs.size + 1) s1.heap.objs.size (Nat.ne_of_gt (Nat.lt_succ_of_lt hal)) (Nat.ne_of_lt hal), ⟨⟨.none, by simpa using he⟩, ⟨_, hit, rfl, rfl⟩, Nat.succ_ne_self _⟩, fun b hb => ?_, q⟩
      have e' : b = s1.heap.objs.size + 1 ∨ b = s1.heap.objs.size := by simpa using hb
      have hle : s1.heap.objs.size ≤ b := by
        rcases e' with z | z
        · rw [z]; exact Nat.le_add_right _ _
        · rw [z]; exact Nat.le_refl _
      exact I1.fpOk hle (I1.hok.fresh hle)
theorem g_enumT {K : PySem.W.Frag} {ta : TA} {σ : L2.St} {H : Hp} {R : It → Hp → Prop} (q : ta σ H fun vs H1 => ∃ a k0 xs, vs = [.ref a, .int k0] ∧ SqT K H1 a xs ∧ -1000 ≤ k0 ∧ k0 ≤ 1000 ∧ R (IteT K k0 a) H1) : iEnumT K ta σ H R := q
end Eu

/-! Brushes: rows within rows; their faults, weights and reaches (nothing of the program). -/
namespace Br
open PySem PySem.Spec PyProof.Rows L2 Lw
/-- what stands where a number should -/
inductive At where
  | int (i : Int)
  | tru
  | non
  | one
def At.v : At → V
  | .int i => .int i
  | .tru => .bl true
  | .non => .non
  | .one => .str "1"
def At.d : At → PyData
  | .int i => .int i
  | .tru => .bool true
  | .non => .none
  | .one => .str "1"
def At.i : At → Int
  | .int i => i
  | _ => 0
def At.ok (lo hi : Int) : At → Bool
  | .int i => decide (lo ≤ i ∧ i ≤ hi)
  | _ => false
inductive Row where
  | move (a b : At)
  | mark (w : Str) (p q f : At)
  | often (n : At) (b : List Row)
  | cond (f : At) (b c : List Row)
  | junk (d : PyData)
def words : List Str := ["move", "mark", "often", "if"]
def marks : List Str := ["set", "raise", "least", "most"]
def arity (w : Str) : Nat := if w = "move" then 3 else if w = "mark" then 5 else if w = "often" then 3 else 4
/-- a tuple that is no row -/
def junkT (ds : List PyData) : Prop := ds = [] ∨ ∃ w r, ds = .str w :: r ∧ (w = "Move" ∨ (w ∈ words ∧ r.length + 1 ≠ arity w))
mutual
def rD : Row → PyData
  | .move a b => .tuple [.str "move", a.d, b.d]
  | .mark w p q f => .tuple [.str "mark", .str w, p.d, q.d, f.d]
  | .often n b => .tuple [.str "often", n.d, .list (rsD b)]
  | .cond f b c => .tuple [.str "if", f.d, .list (rsD b), .list (rsD c)]
  | .junk d => d
def rsD : List Row → List PyData
  | [] => []
  | r :: rs => rD r :: rsD rs
end
mutual
/-- the value is the row -/
def RR (K : PySem.W.Frag) (H : Hp) : Row → V → Prop
  | .move a b, v => ∃ p, v = .ref p ∧ H p = some (.tup [.str "move", a.v, b.v])
  | .mark w x y f, v => ∃ p, v = .ref p ∧ H p = some (.tup [.str "mark", .str w, x.v, y.v, f.v])
  | .often n b, v => ∃ p l xs, v = .ref p ∧ H p = some (.tup [.str "often", n.v, .ref l]) ∧ H l = some (.lst xs) ∧ RRs K H b xs
  | .cond f b c, v => ∃ p l m xs ys, v = .ref p ∧ H p = some (.tup [.str "if", f.v, .ref l, .ref m]) ∧ H l = some (.lst xs) ∧ H m = some (.lst ys) ∧ RRs K H b xs ∧ RRs K H c ys
  | .junk d, v => ∃ p xs ds, v = .ref p ∧ DpAll K H xs ds ∧ ((d = .list ds ∧ H p = some (.lst xs)) ∨ (d = .tuple ds ∧ H p = some (.tup xs) ∧ junkT ds))
def RRs (K : PySem.W.Frag) (H : Hp) : List Row → List V → Prop
  | [], xs => xs = []
  | r :: rs, xs => ∃ v vs, xs = v :: vs ∧ RR K H r v ∧ RRs K H rs vs
end
/-! ### faults -/
abbrev Fl : Type := Option (List Int × Str)
def pre (k : List Int) : Fl → Fl
  | none => none
  | some (p, y) => some (k ++ p, y)
def nF (lo hi : Int) (a : At) : Fl := if a.ok lo hi then none else some ([], "number")
def wF (w : Str) : Fl := if w ∈ marks then none else some ([], "kind")
mutual
def fR : Row → Fl
  | .move a b => (pre [1] (nF (-100) 100 a)).or (pre [2] (nF (-100) 100 b))
  | .mark w p q f => (pre [1] (wF w)).or ((pre [2] (nF 1 50 p)).or ((pre [3] (nF 1 50 q)).or (pre [4] (nF (-999999999) 999999999 f))))
  | .often n b => (pre [1] (nF 0 20 n)).or (pre [2] (fRs b 0))
  | .cond f b c => (pre [1] (nF (-999999999) 999999999 f)).or ((pre [2] (fRs b 0)).or (pre [3] (fRs c 0)))
  | .junk _ => some ([], "kind")
def fRs : List Row → Int → Fl
  | [], _ => none
  | r :: rs, k => (pre [k] (fR r)).or (fRs rs (k + 1))
end
/-! ### weights -/
mutual
def mR : Row → Int × Int
  | .move _ _ => (0, 1)
  | .mark _ _ _ _ => (1, 1)
  | .often n b => (n.i * (mRs b).1, 1 + n.i * (mRs b).2)
  | .cond _ b c => (max (mRs b).1 (mRs c).1, 1 + max (mRs b).2 (mRs c).2)
  | .junk _ => (0, 1)
def mRs : List Row → Int × Int
  | [] => (0, 0)
  | r :: rs => ((mR r).1 + (mRs rs).1, (mR r).2 + (mRs rs).2)
end
/-- the fault of a brush -/
def faultB (rs : List Row) : Fl := (fRs rs 0).or (if (mRs rs).1 > 60 ∨ (mRs rs).2 > 2000 then some ([], "great") else none)
/-! ### depth, size -/
mutual
def dR : Row → Nat
  | .often _ b => dRs b + 1
  | .cond _ b c => max (dRs b) (dRs c) + 1
  | _ => 0
def dRs : List Row → Nat
  | [] => 0
  | r :: rs => max (dR r) (dRs rs)
end
mutual
def zR : Row → Nat
  | .often _ b => zRs b + 10
  | .cond _ b c => zRs b + zRs c + 10
  | _ => 10
def zRs : List Row → Nat
  | [] => 1
  | r :: rs => zR r + zRs rs
end
theorem rrs_len {K : PySem.W.Frag} {H : Hp} : ∀ {rs : List Row} {xs : List V}, RRs K H rs xs → xs.length = rs.length
  | [], _, h => by obtain rfl : _ = [] := h; rfl
  | r :: rs, _, h => by
    obtain ⟨v, vs, rfl, _, h2⟩ := h
    rw [List.length_cons, List.length_cons, rrs_len h2]
theorem rrs_at {K : PySem.W.Frag} {H : Hp} : ∀ {rs : List Row} {xs : List V} {i : Nat} {v : V}, RRs K H rs xs → xs[i]? = some v → ∃ r, rs[i]? = some r ∧ RR K H r v
  | [], _, _, _, h, e => by obtain rfl : _ = [] := h; cases e
  | r :: rs, _, 0, v, h, e => by
    obtain ⟨v', vs, rfl, h1, h2⟩ := h
    cases e
    exact ⟨r, rfl, h1⟩
  | r :: rs, _, i + 1, v, h, e => by
    obtain ⟨v', vs, rfl, h1, h2⟩ := h
    obtain ⟨r', e', h'⟩ := rrs_at (rs := rs) (i := i) h2 (by simpa using e)
    exact ⟨r', by simpa using e', h'⟩

/-! ### kept, as data -/
abbrev Sm (H H' : Hp) : Prop := ∀ b u, H b = some u → H' b = some u
theorem sqT_mono {K : PySem.W.Frag} {H H' : Hp} {p : Addr} {xs : List V} (s : Sm H H') (h : SqT K H p xs) : SqT K H' p xs := by
  rcases h with (h | ⟨o, h⟩) | h
  · exact .inl (.inl (s _ _ h))
  · exact .inl (.inr ⟨o, s _ _ h⟩)
  · exact .inr h
theorem sqL_mono {K : PySem.W.Frag} {H H' : Hp} {p : Addr} {xs : List V} (s : Sm H H') (h : SqL K H p xs) : SqL K H' p xs := by
  rcases h with (h | ⟨o, h⟩) | h
  · exact .inl (.inl (s _ _ h))
  · exact .inl (.inr ⟨o, s _ _ h⟩)
  · exact .inr h
mutual
theorem dp_mono {K : PySem.W.Frag} {H H' : Hp} (s : Sm H H') : ∀ {d : PyData} {v : V}, Dp K H v d → Dp K H' v d
  | _, _, .non => .non
  | _, _, .bl b => .bl b
  | _, _, .int i => .int i
  | _, _, .str x => .str x
  | _, _, .lst h h2 => .lst (sqL_mono s h) (dpA_mono s h2)
  | _, _, .tup h h2 => .tup (sqT_mono s h) (dpA_mono s h2)
theorem dpA_mono {K : PySem.W.Frag} {H H' : Hp} (s : Sm H H') : ∀ {ds : List PyData} {vs : List V}, DpAll K H vs ds → DpAll K H' vs ds
  | _, _, .nil => .nil
  | _, _, .cons h h2 => .cons (dp_mono s h) (dpA_mono s h2)
end
mutual
theorem rr_mono {K : PySem.W.Frag} {H H' : Hp} (s : Sm H H') : ∀ {r : Row} {v : V}, RR K H r v → RR K H' r v
  | .move a b, _, ⟨p, e, h⟩ => ⟨p, e, s _ _ h⟩
  | .mark w x y f, _, ⟨p, e, h⟩ => ⟨p, e, s _ _ h⟩
  | .often n b, _, ⟨p, l, xs, e, h, h1, h2⟩ => ⟨p, l, xs, e, s _ _ h, s _ _ h1, rrs_mono s h2⟩
  | .cond f b c, _, ⟨p, l, m, xs, ys, e, h, h1, h2, h3, h4⟩ => ⟨p, l, m, xs, ys, e, s _ _ h, s _ _ h1, s _ _ h2, rrs_mono s h3, rrs_mono s h4⟩
  | .junk d, _, ⟨p, xs, ds, e, h, h1⟩ => ⟨p, xs, ds, e, dpA_mono s h, h1.imp (fun q => ⟨q.1, s _ _ q.2⟩) fun q => ⟨q.1, s _ _ q.2.1, q.2.2⟩⟩
theorem rrs_mono {K : PySem.W.Frag} {H H' : Hp} (s : Sm H H') : ∀ {rs : List Row} {xs : List V}, RRs K H rs xs → RRs K H' rs xs
  | [], _, h => h
  | r :: rs, _, ⟨v, vs, e, h1, h2⟩ => ⟨v, vs, e, rr_mono s h1, rrs_mono s h2⟩
end
theorem at_dp {K : PySem.W.Frag} {H : Hp} : ∀ a : At, Dp K H a.v a.d
  | .int i => .int i
  | .tru => .bl true
  | .non => .non
  | .one => .str "1"
mutual
theorem rr_dp {K : PySem.W.Frag} {H : Hp} : ∀ {r : Row} {v : V}, RR K H r v → Dp K H v (rD r)
  | .move a b, _, ⟨p, e, h⟩ => e ▸ .tup (SqT.of h) (.cons (.str _) (.cons (at_dp a) (.cons (at_dp b) .nil)))
  | .mark w x y f, _, ⟨p, e, h⟩ => e ▸ .tup (SqT.of h) (.cons (.str _) (.cons (.str _) (.cons (at_dp x) (.cons (at_dp y) (.cons (at_dp f) .nil)))))
  | .often n b, _, ⟨p, l, xs, e, h, h1, h2⟩ => e ▸ .tup (SqT.of h) (.cons (.str _) (.cons (at_dp n) (.cons (.lst (SqL.of h1) (rrs_dp h2)) .nil)))
  | .cond f b c, _, ⟨p, l, m, xs, ys, e, h, h1, h2, h3, h4⟩ => e ▸ .tup (SqT.of h) (.cons (.str _) (.cons (at_dp f) (.cons (.lst (SqL.of h1) (rrs_dp h3)) (.cons (.lst (SqL.of h2) (rrs_dp h4)) .nil))))
  | .junk d, _, ⟨p, xs, ds, e, h, h1⟩ => by
    rcases h1 with ⟨rfl, q⟩ | ⟨rfl, q, _⟩
    · exact e ▸ .lst (SqL.of q) h
    · exact e ▸ .tup (SqT.of q) h
theorem rrs_dp {K : PySem.W.Frag} {H : Hp} : ∀ {rs : List Row} {xs : List V}, RRs K H rs xs → DpAll K H xs (rsD rs)
  | [], _, h => by
    obtain rfl : _ = [] := h
    exact .nil
  | r :: rs, _, ⟨v, vs, e, h1, h2⟩ => e ▸ .cons (rr_dp h1) (rrs_dp h2)
end
/-! ### what is looked at: a pile -/
inductive NK where
  | offset
  | side
  | figures
  | count
def NK.name : NK → Str
  | .offset => "offset"
  | .side => "side"
  | .figures => "figures"
  | .count => "count"
def NK.lo : NK → Int
  | .offset => -100
  | .side => 1
  | .figures => -999999999
  | .count => 0
def NK.hi : NK → Int
  | .offset => 100
  | .side => 50
  | .figures => 999999999
  | .count => 20
inductive Wk where
  | rows (rs : List Row)
  | row (r : Row)
  | word (w : Str)
  | num (k : NK) (a : At)
def Wk.kind : Wk → Str
  | .rows _ => "rows"
  | .row _ => "row"
  | .word _ => "word"
  | .num k _ => k.name
def fW : Wk → Fl
  | .rows rs => fRs rs 0
  | .row r => fR r
  | .word w => wF w
  | .num k a => nF k.lo k.hi a
def zW : Wk → Nat
  | .rows rs => zRs rs
  | .row r => zR r
  | _ => 1
def things : Row → List Wk
  | .move a b => [.num .offset a, .num .offset b]
  | .mark w p q f => [.word w, .num .side p, .num .side q, .num .figures f]
  | .often n b => [.num .count n, .rows b]
  | .cond f b c => [.num .figures f, .rows b, .rows c]
  | .junk _ => []
def isRow : Row → Bool
  | .junk _ => false
  | _ => true
abbrev Pw : Type := Wk × List Int
def kidsF (p : List Int) : Int → List Wk → List Pw
  | _, [] => []
  | k, w :: ws => (w, p ++ [k]) :: kidsF p (k + 1) ws
def fS : List Pw → Fl
  | [] => none
  | (w, p) :: t => (pre p (fW w)).or (fS t)
theorem pre_pre (a b : List Int) : ∀ x : Fl, pre a (pre b x) = pre (a ++ b) x
  | none => rfl
  | some (p, y) => by simp [pre]
theorem pre_or (a : List Int) : ∀ x y : Fl, pre a (x.or y) = (pre a x).or (pre a y)
  | none, y => by simp [pre]
  | some (p, y), z => by simp [pre]
theorem pre_nil : ∀ x : Fl, pre [] x = x
  | none => rfl
  | some (p, y) => rfl
theorem fS_append : ∀ a b : List Pw, fS (a ++ b) = (fS a).or (fS b)
  | [], b => by simp [fS]
  | (w, p) :: a, b => by
    rw [List.cons_append]
    simp only [fS]
    rw [fS_append a b, Option.or_assoc]
theorem kids_rows (p : List Int) : ∀ (rs : List Row) (k : Int), fS (kidsF p k (rs.map .row)) = pre p (fRs rs k)
  | [], _ => rfl
  | r :: rs, k => by
    rw [List.map_cons]
    simp only [kidsF, fS, fRs, fW]
    rw [kids_rows p rs (k + 1), pre_or, pre_pre]
theorem kids_things (p : List Int) {r : Row} (h : isRow r = true) : fS (kidsF p 1 (things r)) = pre p (fR r) := by
  cases r with
  | junk d => cases h
  | move a b => simp only [things, kidsF, fS, fR, fW, pre_or, pre_pre, Option.or_none]; rfl
  | mark w x y f => simp only [things, kidsF, fS, fR, fW, pre_or, pre_pre, Option.or_none]; rfl
  | often n b => simp only [things, kidsF, fS, fR, fW, pre_or, pre_pre, Option.or_none]; rfl
  | cond f b c => simp only [things, kidsF, fS, fR, fW, pre_or, pre_pre, Option.or_none]; rfl
def zS : List Pw → Nat
  | [] => 0
  | (w, _) :: t => zW w + zS t
theorem zS_append : ∀ a b : List Pw, zS (a ++ b) = zS a + zS b
  | [], b => by simp [zS]
  | (w, p) :: a, b => by
    rw [List.cons_append]
    simp only [zS]
    rw [zS_append a b]
    omega
theorem zS_rev (a : List Pw) : zS a.reverse = zS a := by
  induction a with
  | nil => rfl
  | cons x t ih =>
    rw [List.reverse_cons, zS_append, ih]
    obtain ⟨w, p⟩ := x
    simp only [zS]
    omega
theorem zRs_pos : ∀ rs : List Row, 1 ≤ zRs rs
  | [] => Nat.le_refl _
  | r :: rs => by
    have := zRs_pos rs
    simp only [zRs]
    omega
theorem zR_pos : ∀ r : Row, 10 ≤ zR r
  | .move _ _ => Nat.le_refl _
  | .mark _ _ _ _ => Nat.le_refl _
  | .often _ b => by simp only [zR]; omega
  | .cond _ b c => by simp only [zR]; omega
  | .junk _ => Nat.le_refl _
theorem zW_pos : ∀ w : Wk, 1 ≤ zW w
  | .rows rs => zRs_pos rs
  | .row r => by have := zR_pos r; simp only [zW]; omega
  | .word _ => Nat.le_refl _
  | .num _ _ => Nat.le_refl _
theorem len_zS : ∀ a : List Pw, a.length ≤ zS a
  | [] => Nat.le_refl _
  | (w, p) :: t => by
    have := len_zS t
    have := zW_pos w
    simp only [zS, List.length_cons]
    omega
theorem z_kids_rows (p : List Int) : ∀ (rs : List Row) (k : Int), zS (kidsF p k (rs.map .row)) + 1 = zRs rs
  | [], _ => rfl
  | r :: rs, k => by
    have := z_kids_rows p rs (k + 1)
    rw [List.map_cons]
    simp only [kidsF, zS, zRs, zW]
    omega
theorem z_kids_things (p : List Int) (r : Row) : zS (kidsF p 1 (things r)) < zR r := by
  cases r <;> simp only [things, kidsF, zS, zR, zW] <;> omega
theorem kidsF_append (p : List Int) : ∀ (a b : List Wk) (k : Int), kidsF p k (a ++ b) = kidsF p k a ++ kidsF p (k + a.length) b
  | [], b, k => by simp [kidsF]
  | x :: a, b, k => by
    rw [List.cons_append]
    simp only [kidsF]
    rw [kidsF_append p a b (k + 1), List.length_cons, List.cons_append]
    congr 3
    omega
theorem kidsF_take (p : List Int) {ws : List Wk} {j : Nat} {x : Wk} (h : ws[j]? = some x) (k : Int) : kidsF p k (ws.take (j + 1)) = kidsF p k (ws.take j) ++ [(x, p ++ [k + (j : Nat)])] := by
  have hl : j < ws.length := (List.getElem?_eq_some_iff.mp h).1
  have e : ws.take (j + 1) = ws.take j ++ [x] := by
    rw [List.take_add_one, h]
    rfl
  rw [e, kidsF_append, List.length_take, Nat.min_eq_left (by omega)]
  rfl
theorem kidsF_len (p : List Int) : ∀ (ws : List Wk) (k : Int), (kidsF p k ws).length = ws.length
  | [], _ => rfl
  | _ :: ws, k => by simp only [kidsF, List.length_cons]; rw [kidsF_len p ws]
/-- the paths stay short -/
def sh (Z : Nat) (a : List Pw) : Prop := ∀ x ∈ a, x.2.length + zW x.1 ≤ Z
theorem kids_mem {p : List Int} : ∀ {ws : List Wk} {k : Int} {x : Pw}, x ∈ kidsF p k ws → x.2.length = p.length + 1 ∧ x.1 ∈ ws
  | [], _, _, h => (nomatch h)
  | w :: ws, k, x, h => by
    rcases List.mem_cons.mp h with rfl | h
    · exact ⟨by simp, List.mem_cons_self⟩
    · exact ⟨(kids_mem h).1, List.mem_cons_of_mem _ (kids_mem h).2⟩
theorem zR_mem : ∀ {rs : List Row} {r : Row}, r ∈ rs → zR r < zRs rs
  | [], _, h => (nomatch h)
  | s :: rs, r, h => by
    have h1 := zRs_pos rs
    have h2 := zR_pos s
    simp only [zRs]
    rcases List.mem_cons.mp h with rfl | h
    · omega
    · have := zR_mem h
      omega
theorem things_mem {r : Row} {w : Wk} (h : w ∈ things r) : zW w < zR r := by
  cases r <;> simp only [things, List.mem_cons, List.not_mem_nil, or_false] at h
  · rcases h with rfl | rfl <;> simp [zW, zR]
  · rcases h with rfl | rfl | rfl | rfl <;> simp [zW, zR]
  · rcases h with rfl | rfl <;> simp [zW, zR] <;> omega
  · rcases h with rfl | rfl | rfl <;> simp [zW, zR] <;> omega
theorem sh_rows {Z : Nat} {p : List Int} {rs : List Row} {k : Int} (h : p.length + zRs rs ≤ Z) : sh Z (kidsF p k (rs.map .row)) := fun x hx => by
  obtain ⟨h1, h2⟩ := kids_mem hx
  obtain ⟨r, hr, e⟩ := List.mem_map.mp h2
  have := zR_mem hr
  rw [← e]
  simp only [zW]
  omega
theorem sh_things {Z : Nat} {p : List Int} {r : Row} {k : Int} (h : p.length + zR r ≤ Z) : sh Z (kidsF p k (things r)) := fun x hx => by
  obtain ⟨h1, h2⟩ := kids_mem hx
  have := things_mem h2
  omega
/-! ### values one by one -/
def Al {α : Type} (R : α → V → Prop) : List α → List V → Prop
  | [], ys => ys = []
  | a :: as, ys => ∃ v vs, ys = v :: vs ∧ R a v ∧ Al R as vs
section
variable {α : Type} {R R' : α → V → Prop}
theorem Al.mono (f : ∀ a v, R a v → R' a v) : ∀ {as : List α} {ys : List V}, Al R as ys → Al R' as ys
  | [], _, h => h
  | a :: as, _, ⟨v, vs, e, h1, h2⟩ => ⟨v, vs, e, f _ _ h1, Al.mono f h2⟩
theorem Al.len : ∀ {as : List α} {ys : List V}, Al R as ys → ys.length = as.length
  | [], _, h => by obtain rfl : _ = [] := h; rfl
  | a :: as, _, ⟨v, vs, e, h1, h2⟩ => by rw [e, List.length_cons, List.length_cons, h2.len]
theorem Al.append : ∀ {as bs : List α} {xs ys : List V}, Al R as xs → Al R bs ys → Al R (as ++ bs) (xs ++ ys)
  | [], _, _, _, h, h' => by obtain rfl : _ = [] := h; exact h'
  | a :: as, _, _, _, ⟨v, vs, e, h1, h2⟩, h' => by subst e; exact ⟨v, vs ++ _, rfl, h1, h2.append h'⟩
theorem Al.rev : ∀ {as : List α} {ys : List V}, Al R as ys → Al R as.reverse ys.reverse
  | [], _, h => by obtain rfl : _ = [] := h; exact rfl
  | a :: as, _, ⟨v, vs, e, h1, h2⟩ => by
    subst e
    rw [List.reverse_cons, List.reverse_cons]
    exact h2.rev.append ⟨v, [], rfl, h1, rfl⟩
theorem Al.snoc : ∀ {as : List α} {a : α} {ys : List V}, Al R (as ++ [a]) ys → ∃ vs v, ys = vs ++ [v] ∧ Al R as vs ∧ R a v
  | [], _, _, ⟨v, vs, e, h1, h2⟩ => by
    obtain rfl : vs = [] := h2
    exact ⟨[], v, e, rfl, h1⟩
  | b :: as, _, _, ⟨v, vs, e, h1, h2⟩ => by
    obtain ⟨ws, u, e2, h3, h4⟩ := Al.snoc (as := as) h2
    subst e e2
    exact ⟨v :: ws, u, rfl, ⟨v, ws, rfl, h1, h3⟩, h4⟩
end
def WR (K : PySem.W.Frag) (H : Hp) : Wk → V → Prop
  | .rows rs, u => ∃ l xs, u = .ref l ∧ H l = some (.lst xs) ∧ RRs K H rs xs
  | .row r, u => RR K H r u
  | .word w, u => u = .str w
  | .num _ a, u => u = a.v
theorem WR.mono {K : PySem.W.Frag} {H H' : Hp} (s : Sm H H') : ∀ {w : Wk} {u : V}, WR K H w u → WR K H' w u
  | .rows rs, _, ⟨l, xs, e, h, h2⟩ => ⟨l, xs, e, s _ _ h, rrs_mono s h2⟩
  | .row r, _, h => rr_mono (r := r) s h
  | .word _, _, h => h
  | .num _ _, _, h => h
/-- what the pile holds: kind, thing (as it stands in H0), path -/
def IR (K : PySem.W.Frag) (H0 H : Hp) (x : Pw) (v : V) : Prop := ∃ a p u, v = .ref a ∧ H a = some (.tup [.str x.1.kind, u, .ref p]) ∧ H p = some (.tup (x.2.map V.int)) ∧ WR K H0 x.1 u
theorem IR.mono {K : PySem.W.Frag} {H0 H H' : Hp} (s : Sm H H') {x : Pw} {v : V} : IR K H0 H x v → IR K H0 H' x v := fun ⟨a, p, u, e, h1, h2, h3⟩ => ⟨a, p, u, e, s _ _ h1, s _ _ h2, h3⟩
/-- .. where but the list at D changes -/
theorem IR.monoD {K : PySem.W.Frag} {H0 H H' : Hp} {D : Addr} {l : List V} (s : ∀ b u, b ≠ D → H b = some u → H' b = some u) (hd : H D = some (.lst l)) {x : Pw} {v : V} : IR K H0 H x v → IR K H0 H' x v := fun ⟨a, p, u, e, h1, h2, h3⟩ =>
  ⟨a, p, u, e, s _ _ (fun z => by rw [z, hd] at h1; cases h1) h1, s _ _ (fun z => by rw [z, hd] at h2; cases h2) h2, h3⟩
/-! ### rows without a fault -/
mutual
def okR : Row → Prop
  | .move a b => (∃ i : Int, a = .int i ∧ -100 ≤ i ∧ i ≤ 100) ∧ ∃ i : Int, b = .int i ∧ -100 ≤ i ∧ i ≤ 100
  | .mark _ p q _ => (∃ i : Int, p = .int i ∧ 1 ≤ i ∧ i ≤ 50) ∧ ∃ i : Int, q = .int i ∧ 1 ≤ i ∧ i ≤ 50
  | .often n b => (∃ i : Int, n = .int i ∧ 0 ≤ i ∧ i ≤ 20) ∧ okRs b
  | .cond _ b c => okRs b ∧ okRs c
  | .junk _ => False
def okRs : List Row → Prop
  | [] => True
  | r :: rs => okR r ∧ okRs rs
end
theorem pre_none {k : List Int} : ∀ {x : Fl}, pre k x = none → x = none
  | none, _ => rfl
  | some (p, y), h => by cases h
theorem or_none {x y : Fl} (h : x.or y = none) : x = none ∧ y = none := by
  cases x with
  | none => exact ⟨rfl, by simpa using h⟩
  | some v => cases h
theorem nF_none {lo hi : Int} {a : At} (h : nF lo hi a = none) : ∃ i : Int, a = .int i ∧ lo ≤ i ∧ i ≤ hi := by
  unfold nF at h
  split at h
  · rename_i q
    cases a with
    | int i => exact ⟨i, rfl, (of_decide_eq_true q).1, (of_decide_eq_true q).2⟩
    | _ => cases q
  · cases h
mutual
theorem ok_none : ∀ {r : Row}, fR r = none → okR r
  | .move a b, h => by
    simp only [fR] at h
    obtain ⟨h1, h2⟩ := or_none h
    exact ⟨nF_none (pre_none h1), nF_none (pre_none h2)⟩
  | .mark w p q f, h => by
    simp only [fR] at h
    obtain ⟨h1, h2⟩ := or_none h
    obtain ⟨h2, h3⟩ := or_none h2
    obtain ⟨h3, h4⟩ := or_none h3
    exact ⟨nF_none (pre_none h2), nF_none (pre_none h3)⟩
  | .often n b, h => by
    simp only [fR] at h
    obtain ⟨h1, h2⟩ := or_none h
    exact ⟨nF_none (pre_none h1), oks_none (pre_none h2)⟩
  | .cond f b c, h => by
    simp only [fR] at h
    obtain ⟨h1, h2⟩ := or_none h
    obtain ⟨h2, h3⟩ := or_none h2
    exact ⟨oks_none (pre_none h2), oks_none (pre_none h3)⟩
  | .junk d, h => by cases h
theorem oks_none : ∀ {rs : List Row} {k : Int}, fRs rs k = none → okRs rs
  | [], _, _ => True.intro
  | r :: rs, k, h => by
    simp only [fRs] at h
    obtain ⟨h1, h2⟩ := or_none h
    exact ⟨ok_none (pre_none h1), oks_none h2⟩
end
theorem okRs_at : ∀ {rs : List Row} {i : Nat} {r : Row}, okRs rs → rs[i]? = some r → okR r
  | [], _, _, _, e => by cases e
  | r :: rs, 0, _, h, e => by cases e; exact h.1
  | r :: rs, i + 1, _, h, e => okRs_at (rs := rs) (i := i) h.2 (by simpa using e)
theorem dRs_at : ∀ {rs : List Row} {i : Nat} {r : Row}, rs[i]? = some r → dR r ≤ dRs rs
  | [], _, _, e => by cases e
  | r :: rs, 0, _, e => by cases e; exact Nat.le_max_left _ _
  | r :: rs, i + 1, _, e => Nat.le_trans (dRs_at (rs := rs) (i := i) (by simpa using e)) (Nat.le_max_right _ _)
theorem mRs_append : ∀ a b : List Row, mRs (a ++ b) = ((mRs a).1 + (mRs b).1, (mRs a).2 + (mRs b).2)
  | [], b => by simp [mRs]
  | r :: a, b => by
    rw [List.cons_append]
    simp only [mRs]
    rw [mRs_append a b]
    simp only [Prod.mk.injEq]
    constructor <;> omega
theorem mRs_take {rs : List Row} {k : Nat} {r : Row} (h : rs[k]? = some r) : mRs (rs.take (k + 1)) = ((mRs (rs.take k)).1 + (mR r).1, (mRs (rs.take k)).2 + (mR r).2) := by
  have e : rs.take (k + 1) = rs.take k ++ [r] := by
    rw [List.take_add_one, h]
    rfl
  rw [e, mRs_append]
  simp [mRs]
theorem kid_last {K : PySem.W.Frag} {H0 G G' : Hp} {D t2 t3 : Addr} {path : List Int} {ws : List Wk} {k : Nat} {k0 : Int} {x : Wk} {u : V} {ys : List V} (e2 : ws[k]? = some x) (hA : Al (IR K H0 G) (kidsF path k0 (ws.take k)) ys) (hd : G D = some (.lst ys))
    (s : ∀ b u, b ≠ D → G b = some u → G' b = some u) (h3 : G' t3 = some (.tup [.str x.kind, u, .ref t2])) (h2 : G' t2 = some (.tup (path.map V.int ++ [.int (k0 + (k : Nat))]))) (hw : WR K H0 x u) :
    Al (IR K H0 G') (kidsF path k0 (ws.take (k + 1))) (ys ++ [.ref t3]) := by
  rw [kidsF_take path e2]
  refine (hA.mono fun _ _ h => h.monoD s hd).append ⟨_, [], rfl, ⟨t3, t2, u, rfl, h3, ?_, hw⟩, rfl⟩
  rw [h2]
  simp
/-! ### loops over enumerate and zip, whatever is done at each -/
section
variable {K : PySem.W.Frag} {a b : Addr} {xs ys : List V} {Body : V → Hp → (Hp → Prop) → Prop} {End : Hp → Prop} {H0 : Hp}
theorem it_enum (I : Nat → Hp → Prop) (start : I 0 H0) (at_ : ∀ k G, I k G → SqL K G a xs)
    (turn : ∀ k x T G, xs[k]? = some x → I k G → G T = none → Body (.ref T) (upd G T (.tup [.int (k : Nat), x])) (I (k + 1))) (fin : ∀ G, I xs.length G → End G) :
    ∃ W : Nat → Nat → Hp → Prop, (∃ m, W 0 m H0) ∧ ∀ i m H, W i m H → ((Ite K a).stop i H ∧ End H) ∨ ((Ite K a).go i H ∧ ∃ Nx : Hp → Prop, (∀ H', Nx H' → ∃ m', m' < m ∧ W (i + 1) m' H') ∧ ∀ x H', (Ite K a).yld i H x H' → Body x H' Nx) := by
  refine ⟨fun k c G => c + k = xs.length ∧ I k G, ⟨xs.length, rfl, start⟩, fun k c G hw => ?_⟩
  obtain ⟨hc, hI⟩ := hw
  have ha := at_ k G hI
  cases c with
  | zero =>
    obtain rfl : k = xs.length := by omega
    exact .inl ⟨⟨xs, ha, Nat.le_refl _⟩, fin G hI⟩
  | succ c =>
    have hx : k < xs.length := by omega
    refine .inr ⟨⟨xs, xs[k], ha, List.getElem?_eq_getElem hx⟩, I (k + 1), fun G' h' => ⟨c, Nat.lt_succ_self c, by omega, h'⟩, fun v G' hv => ?_⟩
    obtain ⟨T, x', rfl, hT, rfl, f1⟩ := hv
    exact turn k x' T G (f1 xs ha) hI hT
theorem it_enumT {k0 : Int} (I : Nat → Hp → Prop) (start : I 0 H0) (at_ : ∀ k G, I k G → SqT K G a xs)
    (turn : ∀ k x T G, xs[k]? = some x → I k G → G T = none → Body (.ref T) (upd G T (.tup [.int (k0 + (k : Nat)), x])) (I (k + 1))) (fin : ∀ G, I xs.length G → End G) :
    ∃ W : Nat → Nat → Hp → Prop, (∃ m, W 0 m H0) ∧ ∀ i m H, W i m H → ((Eu.IteT K k0 a).stop i H ∧ End H) ∨ ((Eu.IteT K k0 a).go i H ∧ ∃ Nx : Hp → Prop, (∀ H', Nx H' → ∃ m', m' < m ∧ W (i + 1) m' H') ∧ ∀ x H', (Eu.IteT K k0 a).yld i H x H' → Body x H' Nx) := by
  refine ⟨fun k c G => c + k = xs.length ∧ I k G, ⟨xs.length, rfl, start⟩, fun k c G hw => ?_⟩
  obtain ⟨hc, hI⟩ := hw
  have ha := at_ k G hI
  cases c with
  | zero =>
    obtain rfl : k = xs.length := by omega
    exact .inl ⟨⟨xs, ha, Nat.le_refl _⟩, fin G hI⟩
  | succ c =>
    have hx : k < xs.length := by omega
    refine .inr ⟨⟨xs, xs[k], ha, List.getElem?_eq_getElem hx⟩, I (k + 1), fun G' h' => ⟨c, Nat.lt_succ_self c, by omega, h'⟩, fun v G' hv => ?_⟩
    obtain ⟨T, x', rfl, hT, rfl, f1⟩ := hv
    exact turn k x' T G (f1 xs ha) hI hT
theorem it_zipT {n : Nat} (hn : n = min xs.length ys.length) (I : Nat → Hp → Prop) (start : I 0 H0) (at_ : ∀ k G, I k G → SqT K G a xs ∧ SqT K G b ys)
    (turn : ∀ k x y T G, xs[k]? = some x → ys[k]? = some y → I k G → G T = none → Body (.ref T) (upd G T (.tup [x, y])) (I (k + 1))) (fin : ∀ G, I n G → End G) :
    ∃ W : Nat → Nat → Hp → Prop, (∃ m, W 0 m H0) ∧ ∀ i m H, W i m H → ((RZ.ItzT K a b).stop i H ∧ End H) ∨ ((RZ.ItzT K a b).go i H ∧ ∃ Nx : Hp → Prop, (∀ H', Nx H' → ∃ m', m' < m ∧ W (i + 1) m' H') ∧ ∀ x H', (RZ.ItzT K a b).yld i H x H' → Body x H' Nx) := by
  refine ⟨fun k c G => c + k = n ∧ I k G, ⟨n, rfl, start⟩, fun k c G hw => ?_⟩
  obtain ⟨hc, hI⟩ := hw
  obtain ⟨ha, hb⟩ := at_ k G hI
  cases c with
  | zero =>
    obtain rfl : k = n := by omega
    exact .inl ⟨⟨xs, ys, ha, hb, by omega⟩, fin G hI⟩
  | succ c =>
    have hx : k < xs.length := by omega
    have hy : k < ys.length := by omega
    refine .inr ⟨⟨xs, ys, xs[k], ys[k], ha, hb, List.getElem?_eq_getElem hx, List.getElem?_eq_getElem hy⟩, I (k + 1), fun G' h' => ⟨c, Nat.lt_succ_self c, by omega, h'⟩, fun v G' hv => ?_⟩
    obtain ⟨T, x', y', rfl, hT, rfl, f1, f2⟩ := hv
    exact turn k x' y' T G (f1 xs ha) (f2 ys hb) hI hT
end
section
variable {K : PySem.W.Frag} {a : Addr} {xs : List V} {Body : V → Hp → (Hp → Prop) → Prop} {End : Hp → Prop} {H0 : Hp}
theorem it_tup (I : Nat → Hp → Prop) (start : I 0 H0) (at_ : ∀ k G, I k G → SqT K G a xs)
    (turn : ∀ k v G, xs[k]? = some v → I k G → Body v G (I (k + 1))) (fin : ∀ G, I xs.length G → End G) :
    ∃ W : Nat → Nat → Hp → Prop, (∃ m, W 0 m H0) ∧ ∀ i m H, W i m H → ((Itt K a).stop i H ∧ End H) ∨ ((Itt K a).go i H ∧ ∃ Nx : Hp → Prop, (∀ H', Nx H' → ∃ m', m' < m ∧ W (i + 1) m' H') ∧ ∀ x H', (Itt K a).yld i H x H' → Body x H' Nx) := by
  refine ⟨fun k c G => c + k = xs.length ∧ I k G, ⟨xs.length, rfl, start⟩, fun k c G hw => ?_⟩
  obtain ⟨hc, hI⟩ := hw
  have hq := at_ k G hI
  cases c with
  | zero =>
    obtain rfl : k = xs.length := by omega
    exact .inl ⟨⟨xs, hq, Nat.le_refl _⟩, fin G hI⟩
  | succ c =>
    have hk : k < xs.length := by omega
    refine .inr ⟨⟨xs, xs[k], hq, List.getElem?_eq_getElem hk⟩, I (k + 1), fun G' h' => ⟨c, Nat.lt_succ_self c, by omega, h'⟩, fun v G' hy => ?_⟩
    obtain ⟨rfl, hy⟩ := hy
    exact turn k v G' (hy xs hq) hI
end
/-! ### boxes of ends and of marks; how far rows reach -/
structure B4 where
  a : Int
  b : Int
  c : Int
  d : Int
def B4.l (x : B4) : List Int := [x.a, x.b, x.c, x.d]
def around (x y : B4) : B4 := ⟨min x.a y.a, min x.b y.b, max x.c y.c, max x.d y.d⟩
def addB (x y : B4) : B4 := ⟨x.a + y.a, x.b + y.b, x.c + y.c, x.d + y.d⟩
def mulB (n : Int) (x : B4) : B4 := ⟨n * x.a, n * x.b, n * x.c, n * x.d⟩
def HERE : B4 := ⟨0, 0, 0, 0⟩
def arO : Option B4 → Option B4 → Option B4
  | none, y => y
  | some x, none => some x
  | some x, some y => some (around x y)
def mvO : Option B4 → B4 → Option B4
  | none, _ => none
  | some x, y => some (addB x y)
/-- where it may begin, turn by turn -/
def spread (n : Int) (e : B4) : B4 := ⟨min ((n - 1) * e.a) 0, min ((n - 1) * e.b) 0, max ((n - 1) * e.c) 0, max ((n - 1) * e.d) 0⟩
mutual
def chR : Row → B4 × Option B4
  | .move a b => (⟨a.i, b.i, a.i, b.i⟩, none)
  | .mark _ p q _ => (HERE, some ⟨0, 0, p.i - 1, q.i - 1⟩)
  | .often n b => if n.i = 0 then (HERE, none) else (mulB n.i (chRs b HERE none).1, mvO (chRs b HERE none).2 (spread n.i (chRs b HERE none).1))
  | .cond _ b c => (around (chRs b HERE none).1 (chRs c HERE none).1, arO (chRs b HERE none).2 (chRs c HERE none).2)
  | .junk _ => (HERE, none)
def chRs : List Row → B4 → Option B4 → B4 × Option B4
  | [], e, m => (e, m)
  | r :: rs, e, m => chRs rs (addB e (chR r).1) (arO m (mvO (chR r).2 e))
end
/-- the law's own: from a place on -/
def turns (f : B4 → Option B4 → B4 × Option B4) : Nat → B4 → Option B4 → B4 × Option B4
  | 0, e, m => (e, m)
  | n + 1, e, m => turns f n (f e m).1 (f e m).2
mutual
def goR : Row → B4 → Option B4 → B4 × Option B4
  | .move a b, e, m => (⟨e.a + a.i, e.b + b.i, e.c + a.i, e.d + b.i⟩, m)
  | .mark _ p q _, e, m => (e, arO m (some ⟨e.a, e.b, e.c + p.i - 1, e.d + q.i - 1⟩))
  | .often n b, e, m => turns (fun e m => goRs b e m) n.i.toNat e m
  | .cond _ b c, e, m => (around (goRs b e m).1 (goRs c e m).1, arO (goRs b e m).2 (goRs c e m).2)
  | .junk _, e, m => (e, m)
def goRs : List Row → B4 → Option B4 → B4 × Option B4
  | [], e, m => (e, m)
  | r :: rs, e, m => goRs rs (goR r e m).1 (goR r e m).2
end
theorem B4.ext' {x y : B4} (h1 : x.a = y.a) (h2 : x.b = y.b) (h3 : x.c = y.c) (h4 : x.d = y.d) : x = y := by
  cases x
  cases y
  simp_all
theorem addB_assoc (x y z : B4) : addB (addB x y) z = addB x (addB y z) := B4.ext' (by simp only [addB]; omega) (by simp only [addB]; omega) (by simp only [addB]; omega) (by simp only [addB]; omega)
theorem addB_here (x : B4) : addB x HERE = x := B4.ext' (by simp [addB, HERE]) (by simp [addB, HERE]) (by simp [addB, HERE]) (by simp [addB, HERE])
theorem here_addB (x : B4) : addB HERE x = x := B4.ext' (by simp [addB, HERE]) (by simp [addB, HERE]) (by simp [addB, HERE]) (by simp [addB, HERE])
theorem around_assoc (x y z : B4) : around (around x y) z = around x (around y z) := B4.ext' (by simp only [around]; omega) (by simp only [around]; omega) (by simp only [around]; omega) (by simp only [around]; omega)
theorem around_comm (x y : B4) : around x y = around y x := B4.ext' (by simp only [around]; omega) (by simp only [around]; omega) (by simp only [around]; omega) (by simp only [around]; omega)
theorem around_self (x : B4) : around x x = x := B4.ext' (by simp only [around]; omega) (by simp only [around]; omega) (by simp only [around]; omega) (by simp only [around]; omega)
theorem add_around (e x y : B4) : around (addB e x) (addB e y) = addB e (around x y) := B4.ext' (by simp only [around, addB]; omega) (by simp only [around, addB]; omega) (by simp only [around, addB]; omega) (by simp only [around, addB]; omega)
theorem arO_assoc : ∀ x y z : Option B4, arO (arO x y) z = arO x (arO y z)
  | none, _, _ => rfl
  | some x, none, z => by cases z <;> rfl
  | some x, some y, none => rfl
  | some x, some y, some z => congrArg some (around_assoc x y z)
theorem arO_none (x : Option B4) : arO x none = x := by cases x <;> rfl
theorem arO_comm : ∀ x y : Option B4, arO x y = arO y x
  | none, none => rfl
  | none, some y => rfl
  | some x, none => rfl
  | some x, some y => congrArg some (around_comm x y)
theorem arO_self : ∀ x : Option B4, arO x x = x
  | none => rfl
  | some x => congrArg some (around_self x)
theorem mvO_mvO : ∀ (x : Option B4) (y z : B4), mvO (mvO x y) z = mvO x (addB y z)
  | none, _, _ => rfl
  | some x, y, z => congrArg some (addB_assoc x y z)
theorem addB_comm (x y : B4) : addB x y = addB y x := B4.ext' (by simp only [addB]; omega) (by simp only [addB]; omega) (by simp only [addB]; omega) (by simp only [addB]; omega)
theorem mvO_arO : ∀ (x y : Option B4) (e : B4), mvO (arO x y) e = arO (mvO x e) (mvO y e)
  | none, _, _ => rfl
  | some x, none, _ => rfl
  | some x, some y, e => by
    simp only [arO, mvO]
    rw [addB_comm x e, addB_comm y e, add_around, addB_comm]
/-- the rows' reach from any place on -/
theorem chRs_from : ∀ (rs : List Row) (e : B4) (m : Option B4), chRs rs e m = (addB e (chRs rs HERE none).1, arO m (mvO (chRs rs HERE none).2 e))
  | [], e, m => by simp only [chRs]; rw [addB_here, show mvO none e = none from rfl, arO_none]
  | r :: rs, e, m => by
    simp only [chRs]
    rw [chRs_from rs (addB e (chR r).1), chRs_from rs (addB HERE (chR r).1)]
    simp only [here_addB, show ∀ x, arO none x = x from fun _ => rfl]
    rw [addB_assoc, mvO_arO, mvO_mvO, mvO_mvO, arO_assoc, here_addB, addB_comm (chR r).1 e]
theorem sign_mul (k : Nat) (E : Int) : (0 ≤ E ∧ 0 ≤ (k : Int) * E) ∨ (E < 0 ∧ (k : Int) * E ≤ 0) := by
  by_cases h : 0 ≤ E
  · exact .inl ⟨h, Int.mul_nonneg (Int.natCast_nonneg k) h⟩
  · exact .inr ⟨by omega, Int.mul_nonpos_of_nonneg_of_nonpos (Int.natCast_nonneg k) (by omega)⟩
theorem min_step (k : Nat) (E e : Int) : min e (min ((((k + 1 : Nat) : Int) - 1) * E) 0 + (e + E)) = min ((((k + 2 : Nat) : Int) - 1) * E) 0 + e := by
  have e1 : (((k + 1 : Nat) : Int) - 1) * E = (k : Int) * E := by congr 1; omega
  have e2 : (((k + 2 : Nat) : Int) - 1) * E = (k : Int) * E + E := by
    rw [show (((k + 2 : Nat) : Int) - 1) = (k : Int) + 1 by omega, Int.add_mul, Int.one_mul]
  rw [e1, e2]
  rcases sign_mul k E with ⟨h1, h2⟩ | ⟨h1, h2⟩ <;> omega
theorem max_step (k : Nat) (E e : Int) : max e (max ((((k + 1 : Nat) : Int) - 1) * E) 0 + (e + E)) = max ((((k + 2 : Nat) : Int) - 1) * E) 0 + e := by
  have e1 : (((k + 1 : Nat) : Int) - 1) * E = (k : Int) * E := by congr 1; omega
  have e2 : (((k + 2 : Nat) : Int) - 1) * E = (k : Int) * E + E := by
    rw [show (((k + 2 : Nat) : Int) - 1) = (k : Int) + 1 by omega, Int.add_mul, Int.one_mul]
  rw [e1, e2]
  rcases sign_mul k E with ⟨h1, h2⟩ | ⟨h1, h2⟩ <;> omega
theorem spread_one (E : B4) : spread ((0 + 1 : Nat) : Int) E = HERE := B4.ext' (by simp [spread, HERE]) (by simp [spread, HERE]) (by simp [spread, HERE]) (by simp [spread, HERE])
theorem mulB_one (E : B4) : mulB ((0 + 1 : Nat) : Int) E = E := B4.ext' (by simp [mulB]) (by simp [mulB]) (by simp [mulB]) (by simp [mulB])
theorem mvO_here : ∀ x : Option B4, mvO x HERE = x
  | none => rfl
  | some x => congrArg some (addB_here x)
theorem turns_ch {f : B4 → Option B4 → B4 × Option B4} {E : B4} {M : Option B4} (hf : ∀ e m, f e m = (addB e E, arO m (mvO M e))) : ∀ (k : Nat) (e : B4) (m : Option B4), turns f (k + 1) e m = (addB e (mulB ((k + 1 : Nat) : Int) E), arO m (mvO (mvO M (spread ((k + 1 : Nat) : Int) E)) e))
  | 0, e, m => by
    simp only [turns]
    rw [hf, spread_one, mulB_one, mvO_here]
  | k + 1, e, m => by
    have ih := turns_ch hf k (addB e E) (arO m (mvO M e))
    have e0 : turns f (k + 1 + 1) e m = turns f (k + 1) (f e m).1 (f e m).2 := rfl
    rw [e0, hf, ih, addB_assoc, arO_assoc]
    congr 1
    · congr 1
      refine B4.ext' ?_ ?_ ?_ ?_ <;> simp only [addB, mulB] <;> rw [show ((k + 1 + 1 : Nat) : Int) = ((k + 1 : Nat) : Int) + 1 by omega, Int.add_mul, Int.one_mul, Int.add_comm]
    · congr 1
      cases M with
      | none => rfl
      | some x =>
        show some (around (addB x e) (addB (addB x (spread ((k + 1 : Nat) : Int) E)) (addB e E))) = some (addB (addB x (spread ((k + 1 + 1 : Nat) : Int) E)) e)
        rw [addB_assoc, addB_assoc, add_around]
        congr 2
        exact B4.ext' (min_step k E.a e.a) (min_step k E.b e.b) (max_step k E.c e.c) (max_step k E.d e.d)
mutual
theorem goR_ch : ∀ (r : Row), okR r → ∀ (e : B4) (m : Option B4), goR r e m = (addB e (chR r).1, arO m (mvO (chR r).2 e))
  | .move a b, _, e, m => by
    simp only [goR, chR]
    rw [show mvO none e = none from rfl, arO_none]
    rfl
  | .mark w p q f, _, e, m => by
    simp only [goR, chR]
    rw [addB_here]
    congr 2
    show some _ = some (addB _ e)
    congr 1
    exact B4.ext' (by simp [addB]) (by simp [addB]) (by simp only [addB]; omega) (by simp only [addB]; omega)
  | .often n b, h, e, m => by
    obtain ⟨⟨i, rfl, h0, h1⟩, hb⟩ := h
    simp only [goR, chR]
    have hf : ∀ e m, (fun e m => goRs b e m) e m = (addB e (chRs b HERE none).1, arO m (mvO (chRs b HERE none).2 e)) := fun e m => by
      show goRs b e m = _
      rw [goRs_ch b hb, chRs_from]
    by_cases hz : i = 0
    · subst hz
      rw [if_pos (show (At.int 0).i = 0 from rfl)]
      show turns _ 0 e m = _
      simp only [turns]
      rw [addB_here, show mvO none e = none from rfl, arO_none]
    · obtain ⟨k, rfl⟩ : ∃ k : Nat, i = ((k + 1 : Nat) : Int) := ⟨i.toNat - 1, by omega⟩
      rw [if_neg (show ¬ (At.int ((k + 1 : Nat) : Int)).i = 0 from hz)]
      exact turns_ch hf k e m
  | .cond f b c, h, e, m => by
    simp only [goR, chR]
    rw [goRs_ch b h.1, goRs_ch c h.2, chRs_from b e m, chRs_from c e m]
    simp only []
    rw [add_around, mvO_arO]
    congr 1
    generalize mvO (chRs b HERE none).2 e = x
    generalize mvO (chRs c HERE none).2 e = y
    rw [arO_assoc, ← arO_assoc x m y, arO_comm x m, arO_assoc m x y, ← arO_assoc m m, arO_self]
  | .junk d, h, _, _ => h.elim
theorem goRs_ch : ∀ (rs : List Row), okRs rs → ∀ (e : B4) (m : Option B4), goRs rs e m = chRs rs e m
  | [], _, e, m => rfl
  | r :: rs, h, e, m => by
    simp only [goRs, chRs]
    rw [goR_ch r h.1, goRs_ch rs h.2]
end
/-- in the heap -/
def B4R (K : PySem.W.Frag) (H : Hp) (x : B4) (v : V) : Prop := ∃ p, v = .ref p ∧ SqT K H p (x.l.map V.int)
def OB (K : PySem.W.Frag) (H : Hp) : Option B4 → V → Prop
  | none, v => v = .non
  | some x, v => B4R K H x v
theorem B4R.mono {K : PySem.W.Frag} {H H' : Hp} (s : Sm H H') {x : B4} {v : V} : B4R K H x v → B4R K H' x v := fun ⟨p, e, h⟩ => ⟨p, e, sqT_mono s h⟩
theorem OB.mono {K : PySem.W.Frag} {H H' : Hp} (s : Sm H H') : ∀ {x : Option B4} {v : V}, OB K H x v → OB K H' x v
  | none, _, h => h
  | some x, _, h => B4R.mono (x := x) s h
/-! ### laid out as data -/
def lyA : At → Prop := fun _ => True
mutual
def lyR : Row → Prop
  | .mark w _ _ _ => PyData.strOk w = true
  | .often _ b => lyRs b
  | .cond _ b c => lyRs b ∧ lyRs c
  | .junk d => PyData.canLay0 d = true ∧ PyData.depth d ≤ 30
  | .move _ _ => True
def lyRs : List Row → Prop
  | [] => True
  | r :: rs => lyR r ∧ lyRs rs
end
theorem at_lay : ∀ a : At, PyData.canLay0 a.d = true ∧ PyData.depth a.d ≤ 1
  | .int i => ⟨rfl, by simp [At.d, PyData.depth]⟩
  | .tru => ⟨rfl, by simp [At.d, PyData.depth]⟩
  | .non => ⟨rfl, by simp [At.d, PyData.depth]⟩
  | .one => ⟨by decide +kernel, by simp [At.d, PyData.depth]⟩
theorem str_lay : PyData.canLay0 (.str "move") = true ∧ PyData.canLay0 (.str "mark") = true ∧ PyData.canLay0 (.str "often") = true ∧ PyData.canLay0 (.str "if") = true := by decide +kernel
mutual
theorem rD_lay : ∀ {r : Row}, lyR r → PyData.canLay0 (rD r) = true ∧ PyData.depth (rD r) ≤ 2 * dR r + 32
  | .move a b, _ => by
    have h1 := at_lay a
    have h2 := at_lay b
    simp only [rD, PyData.canLay0, PyData.canLayAll0, PyData.depth, PyData.depthAll, dR]
    have hs : PyData.strOk "move" = true := by decide +kernel
    rw [h1.1, h2.1, hs]
    exact ⟨rfl, by omega⟩
  | .mark w x y f, h => by
    have h1 := at_lay x
    have h2 := at_lay y
    have h3 := at_lay f
    have hw : PyData.strOk w = true := h
    simp only [rD, PyData.canLay0, PyData.canLayAll0, PyData.depth, PyData.depthAll, dR]
    have hs : PyData.strOk "mark" = true := by decide +kernel
    rw [h1.1, h2.1, h3.1, hs, hw]
    exact ⟨rfl, by omega⟩
  | .often n b, h => by
    have h1 := at_lay n
    have h2 := rsD_lay (rs := b) h
    simp only [rD, PyData.canLay0, PyData.canLayAll0, PyData.depth, PyData.depthAll, dR]
    have hs : PyData.strOk "often" = true := by decide +kernel
    rw [h1.1, h2.1, hs]
    exact ⟨rfl, by omega⟩
  | .cond f b c, h => by
    have h1 := at_lay f
    have h2 := rsD_lay (rs := b) h.1
    have h3 := rsD_lay (rs := c) h.2
    simp only [rD, PyData.canLay0, PyData.canLayAll0, PyData.depth, PyData.depthAll, dR]
    have hs : PyData.strOk "if" = true := by decide +kernel
    rw [h1.1, h2.1, h3.1, hs]
    exact ⟨rfl, by omega⟩
  | .junk d, h => ⟨h.1, by have := h.2; simp only [rD, dR]; omega⟩
theorem rsD_lay : ∀ {rs : List Row}, lyRs rs → PyData.canLayAll0 (rsD rs) = true ∧ PyData.depthAll (rsD rs) ≤ 2 * dRs rs + 32
  | [], _ => ⟨rfl, by simp [rsD, PyData.depthAll]⟩
  | r :: rs, h => by
    have h1 := rD_lay (r := r) h.1
    have h2 := rsD_lay (rs := rs) h.2
    simp only [rsD, PyData.canLayAll0, PyData.depthAll, dRs]
    rw [h1.1, h2.1]
    exact ⟨rfl, by omega⟩
end
theorem rD_shaped {r : Row} (h : lyR r) (d : dR r ≤ 10) : SeqAt.shaped (rD r) = true := by
  have := rD_lay h
  unfold SeqAt.shaped
  rw [this.1, Bool.true_and]
  exact decide_eq_true (by omega)
theorem rsD_shaped {rs : List Row} (h : lyRs rs) (d : dRs rs ≤ 10) : SeqAt.shaped (.list (rsD rs)) = true := by
  have := rsD_lay h
  unfold SeqAt.shaped
  simp only [PyData.canLay0, PyData.depth]
  rw [this.1, Bool.true_and]
  exact decide_eq_true (by omega)
theorem lyRs_at : ∀ {rs : List Row} {i : Nat} {r : Row}, lyRs rs → rs[i]? = some r → lyR r
  | [], _, _, _, e => by cases e
  | r :: rs, 0, _, h, e => by cases e; exact h.1
  | r :: rs, i + 1, _, h, e => lyRs_at (rs := rs) (i := i) h.2 (by simpa using e)
theorem zRs_at : ∀ {rs : List Row} {i : Nat} {r : Row}, rs[i]? = some r → zR r < zRs rs
  | [], _, _, e => by cases e
  | r :: rs, 0, _, e => by
    cases e
    have := zRs_pos rs
    simp only [zRs]
    omega
  | r :: rs, i + 1, _, e => by
    have := zRs_at (rs := rs) (i := i) (by simpa using e)
    simp only [zRs]
    omega
/-- a fault as it is told: None, or path and word -/
def FlR (H : Hp) : Fl → V → Prop
  | none, v => v = .non
  | some (p, y), v => ∃ a t, v = .ref a ∧ H a = some (.tup [.ref t, .str y]) ∧ H t = some (.tup (p.map V.int))
theorem FlR.mono {H H' : Hp} (s : Sm H H') : ∀ {x : Fl} {v : V}, FlR H x v → FlR H' x v
  | none, _, h => h
  | some (p, y), _, ⟨a, t, e, h1, h2⟩ => ⟨a, t, e, s _ _ h1, s _ _ h2⟩
/-- where numbers stand in a row, and from where to where they go -/
def spans : Row → List (Int × Int × Int × At)
  | .move a b => [(1, -100, 100, a), (2, -100, 100, b)]
  | .mark _ p q f => [(2, 1, 50, p), (3, 1, 50, q), (4, -999999999, 999999999, f)]
  | .often n _ => [(1, 0, 20, n)]
  | .cond f _ _ => [(1, -999999999, 999999999, f)]
  | .junk _ => []
def subs : Row → List (Int × List Row)
  | .often _ b => [(2, b)]
  | .cond _ b c => [(2, b), (3, c)]
  | _ => []
def fSp : List (Int × Int × Int × At) → Fl
  | [] => none
  | (k, lo, hi, a) :: t => (pre [k] (nF lo hi a)).or (fSp t)
def fSb : List (Int × List Row) → Fl
  | [] => none
  | (k, b) :: t => (pre [k] (fRs b 0)).or (fSb t)
def fWd : Row → Fl
  | .mark w _ _ _ => pre [1] (wF w)
  | _ => none
theorem fR_parts : ∀ {r : Row}, isRow r = true → fR r = (fWd r).or ((fSp (spans r)).or (fSb (subs r)))
  | .move a b, _ => by simp [fR, fWd, spans, subs, fSp, fSb]
  | .mark w p q f, _ => by simp [fR, fWd, spans, subs, fSp, fSb]
  | .often n b, _ => by simp [fR, fWd, spans, subs, fSp, fSb]
  | .cond f b c, _ => by simp [fR, fWd, spans, subs, fSp, fSb]
def SpR (H : Hp) (x : Int × Int × Int × At) (v : V) : Prop := ∃ a, v = .ref a ∧ H a = some (.tup [.int x.1, .int x.2.1, .int x.2.2.1])
theorem for_enumL {K : PySem.W.Frag} {a : Addr} {xs : List V} {g : TG} {tb : TS} {D : Ends} {σ : L2.St} {H : Hp} (Pv : Nat → L2.St → Hp → Prop) (h0 : Pv 0 σ H) (hq : ∀ i σ H, Pv i σ H → SqL K H a xs)
    (hs : ∀ (i : Nat) (x : V) (T : Addr) (σ : L2.St) (H : Hp), xs[i]? = some x → Pv i σ H → H T = none → g (.ref T) σ (upd H T (.tup [.int (i : Nat), x])) fun σ2 H2 => tb { D with nx := Pv (i + 1), ct := Pv (i + 1), bk := D.nx } σ2 H2) (hd : ∀ σ H, Pv xs.length σ H → D.nx σ H) :
    ∃ W : Nat → Nat → L2.St → Hp → Prop, (∃ m, W 0 m σ H) ∧ ∀ i m σ H, W i m σ H →
      ((Ite K a).stop i H ∧ D.nx σ H) ∨ ((Ite K a).go i H ∧ ∃ N : L2.St → Hp → Prop, (∀ σ' H', N σ' H' → ∃ m', m' < m ∧ W (i + 1) m' σ' H') ∧ ∀ v H', (Ite K a).yld i H v H' → g v σ H' fun σ2 H2 => tb { D with nx := N, ct := N, bk := D.nx } σ2 H2) := by
  refine ⟨fun i m σ H => m + i = xs.length ∧ Pv i σ H, ⟨xs.length, rfl, h0⟩, fun i m σ H hw => ?_⟩
  obtain ⟨hm, p⟩ := hw
  have qx := hq i σ H p
  cases m with
  | zero =>
    obtain rfl : i = xs.length := by omega
    exact .inl ⟨⟨xs, qx, Nat.le_refl _⟩, hd σ H p⟩
  | succ m =>
    have hlt : i < xs.length := by omega
    refine .inr ⟨⟨xs, xs[i], qx, List.getElem?_eq_getElem hlt⟩, Pv (i + 1), fun σ' H' p' => ⟨m, Nat.lt_succ_self m, by omega, p'⟩, fun v H' y => ?_⟩
    obtain ⟨T, x', rfl, hT, rfl, f1⟩ := y
    exact hs i x' T σ H (f1 xs qx) p hT
theorem fRs_next : ∀ {l : List Row} {i : Nat} {r : Row} {k : Int}, fRs (l.take i) k = none → l[i]? = some r → (fR r = none → fRs (l.take (i + 1)) k = none) ∧ (∀ p y, fR r = some (p, y) → fRs l k = pre [k + (i : Nat)] (fR r))
  | [], _, _, _, _, e => by cases e
  | s :: l, 0, r, k, _, e => by
    cases e
    refine ⟨fun h => ?_, fun p y h => ?_⟩
    · simp only [List.take_succ_cons, List.take_zero, fRs]
      rw [h]
      rfl
    · simp only [fRs]
      rw [h]
      simp [pre]
  | s :: l, i + 1, r, k, h, e => by
    simp only [List.take_succ_cons, fRs] at h
    obtain ⟨h1, h2⟩ := or_none h
    have ih := fRs_next (l := l) (i := i) (k := k + 1) h2 (by simpa using e)
    simp only [List.take_succ_cons, fRs]
    rw [h1]
    refine ⟨ih.1, fun p y hp => ?_⟩
    rw [Option.none_or, ih.2 p y hp, show k + 1 + ((i : Nat) : Int) = k + ((i + 1 : Nat) : Int) by omega]
/-! ### what is drawn: a part of the heap that grows, apart from the purse -/
structure Grow (N H N' H' : Hp) : Prop where
  up : Sm N N'
  dn : Sm N' H'
  same : ∀ b, H b ≠ none → N' b = N b
theorem Grow.refl {N H : Hp} (s : Sm N H) : Grow N H N H := ⟨fun _ _ h => h, s, fun _ _ => rfl⟩
theorem Grow.trans {N H N1 H1 N2 H2 : Hp} (a : Grow N H N1 H1) (b : Grow N1 H1 N2 H2) (k : ∀ b, H b ≠ none → H1 b ≠ none) : Grow N H N2 H2 := ⟨fun c u h => b.up c u (a.up c u h), b.dn, fun c h => (b.same c (k c h)).trans (a.same c h)⟩
theorem sm_up {H : Hp} {a : Addr} {o : HO} (h : H a = none) : Sm H (upd H a o) := fun b u hb => by
  rw [upd_ne (fun e => by rw [e, h] at hb; cases hb)]
  exact hb
theorem Grow.new {N H : Hp} {t : Addr} {u : HO} (s : Sm N H) (ht : H t = none) : Grow N H (upd N t u) (upd H t u) := by
  have nt : N t = none := by
    cases e : N t with
    | none => rfl
    | some v => rw [s _ _ e] at ht; cases ht
  refine ⟨sm_up nt, fun b v hb => ?_, fun b hb => ?_⟩
  · by_cases e : b = t
    · subst e
      rw [upd_same] at hb ⊢
      exact hb
    · rw [upd_ne e] at hb ⊢
      exact s _ _ hb
  · exact upd_ne fun e => hb (e ▸ ht)
theorem Grow.aside {N H N1 G : Hp} {t : Addr} {u : HO} (a : Grow N H N1 G) (n : N1 t = none) : Grow N H N1 (upd G t u) := ⟨a.up, fun b v hb => by
  rw [upd_ne (fun e => by rw [e, n] at hb; cases hb)]
  exact a.dn _ _ hb, a.same⟩
def zB : Nat → Nat
  | 0 => 10
  | 1 => 31
  | _ => 198
structure GoodRow (d : Nat) (r : Row) : Prop where
  f : fR r = none
  ly : lyR r
  dp : dR r ≤ d
  z : zR r ≤ zB d
theorem rrs_snoc {K : PySem.W.Frag} {H : Hp} : ∀ {rs : List Row} {xs : List V} {r : Row} {v : V}, RRs K H rs xs → RR K H r v → RRs K H (rs ++ [r]) (xs ++ [v])
  | [], _, r, v, h, h' => by
    obtain rfl : _ = [] := h
    exact ⟨v, [], rfl, h', rfl⟩
  | s :: rs, _, r, v, ⟨w, ws, e, h1, h2⟩, h' => by
    subst e
    exact ⟨w, ws ++ [v], rfl, h1, rrs_snoc h2 h'⟩
theorem good_all {d : Nat} : ∀ {rs : List Row} {k : Int}, (∀ r ∈ rs, GoodRow d r) → fRs rs k = none ∧ lyRs rs ∧ dRs rs ≤ d ∧ zRs rs ≤ 1 + rs.length * zB d
  | [], _, _ => ⟨rfl, True.intro, Nat.zero_le _, by simp [zRs]⟩
  | r :: rs, k, h => by
    have g := h r List.mem_cons_self
    obtain ⟨h1, h2, h3, h4⟩ := good_all (rs := rs) (k := k + 1) fun x hx => h x (List.mem_cons_of_mem _ hx)
    refine ⟨?_, ⟨g.ly, h2⟩, ?_, ?_⟩
    · simp only [fRs]
      rw [g.f, h1]
      rfl
    · have := g.dp
      simp only [dRs]
      omega
    · have := g.z
      simp only [zRs, List.length_cons, Nat.add_mul]
      omega
theorem marks_ok {w : Str} (h : w ∈ marks) : PyData.strOk w = true := by
  simp only [marks, List.mem_cons, List.not_mem_nil, or_false] at h
  rcases h with rfl | rfl | rfl | rfl <;> decide +kernel
theorem nF_ok {lo hi i : Int} (h : lo ≤ i ∧ i ≤ hi) : nF lo hi (.int i) = none := by
  unfold nF
  rw [if_pos (show (At.int i).ok lo hi = true from decide_eq_true h)]
theorem good_move {d : Nat} {a b : Int} (ha : -100 ≤ a ∧ a ≤ 100) (hb : -100 ≤ b ∧ b ≤ 100) : GoodRow d (.move (.int a) (.int b)) :=
  ⟨by simp only [fR]; rw [nF_ok ha, nF_ok hb]; rfl, True.intro, Nat.zero_le _, by unfold zB; split <;> simp [zR]⟩
theorem good_mark {d : Nat} {w : Str} {a b c : Int} (hw : w ∈ marks) (ha : 1 ≤ a ∧ a ≤ 50) (hb : 1 ≤ b ∧ b ≤ 50) (hc : -999999999 ≤ c ∧ c ≤ 999999999) : GoodRow d (.mark w (.int a) (.int b) (.int c)) :=
  ⟨by simp only [fR, wF]; rw [nF_ok ha, nF_ok hb, nF_ok hc, if_pos hw]; rfl, marks_ok hw, Nat.zero_le _, by unfold zB; split <;> simp [zR]⟩
theorem good_often {d : Nat} {n : Int} {rs : List Row} (hd : d ≤ 1) (hn : 0 ≤ n ∧ n ≤ 20) (h : ∀ r ∈ rs, GoodRow d r) (hl : rs.length ≤ d + 2) : GoodRow (d + 1) (.often (.int n) rs) := by
  obtain ⟨h1, h2, h3, h4⟩ := good_all (k := 0) h
  refine ⟨by simp only [fR]; rw [nF_ok hn, h1]; rfl, h2, by simp only [dR]; omega, ?_⟩
  simp only [zR]
  rcases (show d = 0 ∨ d = 1 by omega) with rfl | rfl <;> simp only [zB] at h4 ⊢ <;> omega
theorem good_cond {n : Int} {b c : List Row} (hn : -999999999 ≤ n ∧ n ≤ 999999999) (h : ∀ r ∈ b, GoodRow 1 r) (hl : b.length ≤ 3) (h' : ∀ r ∈ c, GoodRow 1 r) (hl' : c.length ≤ 3) : GoodRow 2 (.cond (.int n) b c) := by
  obtain ⟨h1, h2, h3, h4⟩ := good_all (k := 0) h
  obtain ⟨k1, k2, k3, k4⟩ := good_all (k := 0) h'
  refine ⟨by simp only [fR]; rw [nF_ok hn, h1, k1]; rfl, ⟨h2, k2⟩, by simp only [dR]; omega, ?_⟩
  simp only [zR]
  simp only [zB] at h4 k4 ⊢
  omega
end Br

/-! Fields as texts: what is written of them, and what is left to read (nothing of the program). -/
namespace Tx
open PySem PySem.Spec PyProof.Rows L2 Lw Fm Fr TL
open Br (Al)
/-- a thing within a field -/
inductive Ag where
  | num (i : Int)
  | nam (x : Str)
  | fld (F : Fd)
def mkS (l : List Nat) : Str := ⟨l.toArray⟩
theorem tl_mkS (l : List Nat) : tl (mkS l) = l := rfl
theorem mkS_tl (x : Str) : mkS (tl x) = x := mk_tl x
theorem len_mkS (l : List Nat) : (mkS l).length = l.length := by rw [len_tl, tl_mkS]
theorem mkS_app (a b : List Nat) : mkS a ++ mkS b = mkS (a ++ b) := ext_tl (by rw [tl_append]; rfl)
def intL (i : Int) : List Nat := if 0 ≤ i then numL i.toNat else 45 :: numL (-i).toNat
theorem tl_int (i : Int) : tl (Str.ofString (toString i)) = intL i := by
  unfold intL
  split
  · rename_i h
    have e := tl_num i.toNat
    rw [Int.toNat_of_nonneg h] at e
    exact e
  · rename_i h
    obtain ⟨n, rfl⟩ : ∃ n : Nat, i = -((n + 1 : Nat) : Int) := ⟨(-i).toNat - 1, by omega⟩
    have e2 : toString (-((n + 1 : Nat) : Int)) = "-" ++ toString ((n + 1 : Nat) : Int) := rfl
    rw [e2, tl_ofString, String.toList_append, List.map_append]
    have e := tl_num (n + 1)
    rw [tl_ofString] at e
    rw [e]
    have e3 : (- -((n + 1 : Nat) : Int)).toNat = n + 1 := by omega
    rw [e3]
    rfl
theorem str_int (i : Int) : Str.ofString (toString i) = mkS (intL i) := ext_tl (tl_int i)
theorem intL_len {i : Int} (h0 : -10000000000 < i) (h1 : i < 10000000000) : (intL i).length ≤ 11 ∧ 1 ≤ (intL i).length := by
  have p : ∀ n : Nat, 1 ≤ (numL n).length := fun n => by
    have := numL_ne n
    cases h : numL n with
    | nil => exact absurd h this
    | cons a b => simp
  unfold intL
  split
  · have := numL_len (n := i.toNat) (k := 10) (by decide) (by omega)
    have := p i.toNat
    omega
  · have := numL_len (n := (-i).toNat) (k := 10) (by decide) (by omega)
    have := p (-i).toNat
    rw [List.length_cons]
    omega
theorem int_back {i : Int} (h0 : -10000000000 < i) (h1 : i < 10000000000) : intText? (mkS (intL i)) = some i := by
  have hl := intL_len h0 h1
  unfold intL at hl ⊢
  split
  · rename_i h
    rw [if_pos h] at hl
    have e := intText_digits (x := mkS (numL i.toNat)) (by rw [show (mkS (numL i.toNat)).cps.toList = numL i.toNat from rfl]; exact numL_digits _) (by rw [show (mkS (numL i.toNat)).cps.toList = numL i.toNat from rfl]; exact numL_ne _) (by rw [len_mkS]; omega)
    rw [e, show (mkS (numL i.toNat)).cps.toList = numL i.toNat from rfl, numL_val]
    congr 1
    omega
  · rename_i h
    rw [if_neg h] at hl
    have e := intText_neg (x := mkS (45 :: numL (-i).toNat)) rfl (numL_digits _) (numL_ne _) (by rw [len_mkS]; omega)
    rw [e, numL_val]
    congr 1
    omega
def headF : Fd → Str
  | .noise _ _ => "noise"
  | .two w _ _ => w.word
  | .over _ _ => "over"
  | .bel _ _ _ _ => "below"
  | .shift _ _ _ => "shift"
  | .lt _ _ _ => "let"
  | .whole _ => "whole"
  | .px => "x"
  | .pz => "z"
  | .nm _ => "name"
/-- written with brackets -/
def isBr : Fd → Bool
  | .whole _ => false
  | .px => false
  | .pz => false
  | .nm _ => false
  | _ => true
def argsF : Fd → List Ag
  | .noise s l => [.num s, .num l]
  | .two _ a b => [.fld a, .fld b]
  | .over a n => [.fld a, .num n]
  | .bel a b c d => [.fld a, .fld b, .fld c, .fld d]
  | .shift dx dz a => [.num dx, .num dz, .fld a]
  | .lt x a b => [.nam x, .fld a, .fld b]
  | .whole n => [.num n]
  | .nm x => [.nam x]
  | _ => []
def textL : Fd → List Nat
  | .whole n => intL n
  | .px => [120]
  | .pz => [122]
  | .nm x => tl x
  | .noise s l => tl "noise" ++ 40 :: (joinL [44, 32] [intL s, intL l] ++ [41])
  | .two w a b => tl w.word ++ 40 :: (joinL [44, 32] [textL a, textL b] ++ [41])
  | .over a n => tl "over" ++ 40 :: (joinL [44, 32] [textL a, intL n] ++ [41])
  | .bel a b c d => tl "below" ++ 40 :: (joinL [44, 32] [textL a, textL b, textL c, textL d] ++ [41])
  | .shift dx dz a => tl "shift" ++ 40 :: (joinL [44, 32] [intL dx, intL dz, textL a] ++ [41])
  | .lt x a b => tl "let" ++ 40 :: (joinL [44, 32] [tl x, textL a, textL b] ++ [41])
def agL : Ag → List Nat
  | .num i => intL i
  | .nam x => tl x
  | .fld F => textL F
theorem text_br {F : Fd} (h : isBr F = true) : textL F = tl (headF F) ++ 40 :: (joinL [44, 32] ((argsF F).map agL) ++ [41]) := by
  cases F with
  | whole n => cases h
  | px => cases h
  | pz => cases h
  | nm x => cases h
  | _ => rfl
theorem joinL_cons (S p : List Nat) : ∀ r : List (List Nat), joinL S (p :: r) = p ++ r.flatMap fun q => S ++ q
  | [] => by simp [joinL]
  | q :: r => by
    show p ++ (S ++ joinL S (q :: r)) = _
    rw [joinL_cons S q r]
    simp
def AgR (H : Hp) : Ag → V → Prop
  | .num i, v => v = .int i
  | .nam x, v => v = .str x
  | .fld F, v => FRep F H v
/-- tuples stay -/
abbrev SmT (H H' : Hp) : Prop := ∀ a xs, H a = some (.tup xs) → H' a = some (.tup xs)
theorem AgR.mono {H H' : Hp} (s : SmT H H') : ∀ {a : Ag} {v : V}, AgR H a v → AgR H' a v
  | .num _, _, h => h
  | .nam _, _, h => h
  | .fld _, _, h => FRep.mono s h
/-- the kinds of a field's things -/
def kindsF : Fd → List Str
  | .noise _ _ => ["salt", "log"]
  | .two _ _ _ => ["field", "field"]
  | .over _ _ => ["field", "divisor"]
  | .bel _ _ _ _ => ["field", "field", "field", "field"]
  | .shift _ _ _ => ["offset", "offset", "field"]
  | .lt _ _ _ => ["name", "field", "field"]
  | .whole _ => ["figures"]
  | .nm _ => ["name"]
  | _ => []
def kindT : Ag → Nat
  | .num _ => 0
  | .nam _ => 1
  | .fld _ => 2
def kindS (k : Str) : Nat := if k = "name" then 1 else if k = "field" then 2 else 0
theorem kind_eqs : kindS "salt" = 0 ∧ kindS "log" = 0 ∧ kindS "field" = 2 ∧ kindS "divisor" = 0 ∧ kindS "offset" = 0 ∧ kindS "name" = 1 ∧ kindS "figures" = 0 := by decide +kernel
theorem kinds_args (F : Fd) : (kindsF F).map kindS = (argsF F).map kindT := by
  obtain ⟨h1, h2, h3, h4, h5, h6, h7⟩ := kind_eqs
  cases F <;> simp only [kindsF, argsF, List.map_cons, List.map_nil, kindT, h1, h2, h3, h4, h5, h6, h7]
theorem kinds_len (F : Fd) : (kindsF F).length = (argsF F).length := by
  have := congrArg List.length (kinds_args F)
  simpa using this
theorem frep_args {F : Fd} {H : Hp} {v : V} (h : FRep F H v) : ∃ p vs, v = .ref p ∧ H p = some (.tup (.str (headF F) :: vs)) ∧ Al (AgR H) (argsF F) vs := by
  cases F with
  | whole n => obtain ⟨p, e, h⟩ := h; exact ⟨p, _, e, h, _, _, rfl, rfl, rfl⟩
  | px => obtain ⟨p, e, h⟩ := h; exact ⟨p, _, e, h, rfl⟩
  | pz => obtain ⟨p, e, h⟩ := h; exact ⟨p, _, e, h, rfl⟩
  | nm x => obtain ⟨p, e, h⟩ := h; exact ⟨p, _, e, h, _, _, rfl, rfl, rfl⟩
  | noise s l => obtain ⟨p, e, h⟩ := h; exact ⟨p, _, e, h, _, _, rfl, rfl, _, _, rfl, rfl, rfl⟩
  | two w a b => obtain ⟨p, u1, u2, e, h, h1, h2⟩ := h; exact ⟨p, _, e, h, _, _, rfl, h1, _, _, rfl, h2, rfl⟩
  | over a n => obtain ⟨p, u1, e, h, h1⟩ := h; exact ⟨p, _, e, h, _, _, rfl, h1, _, _, rfl, rfl, rfl⟩
  | bel a b c d => obtain ⟨p, u1, u2, u3, u4, e, h, h1, h2, h3, h4⟩ := h; exact ⟨p, _, e, h, _, _, rfl, h1, _, _, rfl, h2, _, _, rfl, h3, _, _, rfl, h4, rfl⟩
  | shift dx dz a => obtain ⟨p, u1, e, h, h1⟩ := h; exact ⟨p, _, e, h, _, _, rfl, rfl, _, _, rfl, rfl, _, _, rfl, h1, rfl⟩
  | lt x a b => obtain ⟨p, u1, u2, e, h, h1, h2⟩ := h; exact ⟨p, _, e, h, _, _, rfl, rfl, _, _, rfl, h1, _, _, rfl, h2, rfl⟩
theorem args_frep {F : Fd} {H : Hp} {p : Addr} {vs : List V} (hp : H p = some (.tup (.str (headF F) :: vs))) (h : Al (AgR H) (argsF F) vs) : FRep F H (.ref p) := by
  cases F with
  | whole n => obtain ⟨_, _, rfl, rfl, rfl⟩ := h; exact ⟨p, rfl, hp⟩
  | px => obtain rfl : vs = [] := h; exact ⟨p, rfl, hp⟩
  | pz => obtain rfl : vs = [] := h; exact ⟨p, rfl, hp⟩
  | nm x => obtain ⟨_, _, rfl, rfl, rfl⟩ := h; exact ⟨p, rfl, hp⟩
  | noise s l => obtain ⟨_, _, rfl, rfl, _, _, rfl, rfl, rfl⟩ := h; exact ⟨p, rfl, hp⟩
  | two w a b => obtain ⟨_, _, rfl, h1, _, _, rfl, h2, rfl⟩ := h; exact ⟨p, _, _, rfl, hp, h1, h2⟩
  | over a n => obtain ⟨_, _, rfl, h1, _, _, rfl, rfl, rfl⟩ := h; exact ⟨p, _, rfl, hp, h1⟩
  | bel a b c d => obtain ⟨_, _, rfl, h1, _, _, rfl, h2, _, _, rfl, h3, _, _, rfl, h4, rfl⟩ := h; exact ⟨p, _, _, _, _, rfl, hp, h1, h2, h3, h4⟩
  | shift dx dz a => obtain ⟨_, _, rfl, rfl, _, _, rfl, rfl, _, _, rfl, h1, rfl⟩ := h; exact ⟨p, _, rfl, hp, h1⟩
  | lt x a b => obtain ⟨_, _, rfl, rfl, _, _, rfl, h1, _, _, rfl, h2, rfl⟩ := h; exact ⟨p, _, _, rfl, hp, h1, h2⟩
def depA : Ag → Nat
  | .fld F => dep F
  | _ => 0
def okA : Ag → Prop
  | .num i => -10000000000 < i ∧ i < 10000000000
  | .nam x => NameOk x
  | .fld F => OkF F
theorem args_dep {F : Fd} {a : Ag} (hb : isBr F = true) (h : a ∈ argsF F) : depA a < dep F ∨ ∃ s l, F = .noise s l := by
  cases F <;> simp only [argsF, List.mem_cons, List.not_mem_nil, or_false] at h
  · cases hb
  · exact .inr ⟨_, _, rfl⟩
  · rcases h with rfl | rfl <;> (refine .inl ?_; simp only [depA, dep]; omega)
  · rcases h with rfl | rfl <;> (refine .inl ?_; simp only [depA, dep]; omega)
  · rcases h with rfl | rfl | rfl | rfl <;> (refine .inl ?_; simp only [depA, dep]; omega)
  · rcases h with rfl | rfl | rfl <;> (refine .inl ?_; simp only [depA, dep]; omega)
  · rcases h with rfl | rfl | rfl <;> (refine .inl ?_; simp only [depA, dep]; omega)
  · cases hb
theorem args_ok {F : Fd} {a : Ag} (o : OkF F) (h : a ∈ argsF F) : okA a := by
  cases F <;> simp only [argsF, List.mem_cons, List.not_mem_nil, or_false] at h
  · subst h; have := o.1; have := o.2; simp only [okA]; omega
  · obtain ⟨⟨h1, h2⟩, h3, h4⟩ := o
    rcases h with rfl | rfl <;> (simp only [okA]; omega)
  · rcases h with rfl | rfl
    · exact o.1
    · exact o.2
  · obtain ⟨h1, h2, h3⟩ := o
    rcases h with rfl | rfl
    · exact h1
    · simp only [okA]; omega
  · obtain ⟨h1, h2, h3, h4⟩ := o
    rcases h with rfl | rfl | rfl | rfl
    · exact h1
    · exact h2
    · exact h3
    · exact h4
  · obtain ⟨⟨h1, h2⟩, ⟨h3, h4⟩, h5⟩ := o
    rcases h with rfl | rfl | rfl
    · simp only [okA]; omega
    · simp only [okA]; omega
    · exact h5
  · obtain ⟨h1, h2, h3⟩ := o
    rcases h with rfl | rfl | rfl
    · exact h1
    · exact h2
    · exact h3
  · subst h; exact o
/-- how long a text is, by the depth -/
def lenD : Nat → Nat
  | 0 => 60
  | d + 1 => 4 * lenD d + 60
theorem lenD_mono : ∀ {a b : Nat}, a ≤ b → lenD a ≤ lenD b
  | a, 0, h => by obtain rfl : a = 0 := by omega
                  exact Nat.le_refl _
  | 0, b + 1, _ => by
    have := lenD_mono (Nat.zero_le b)
    simp only [lenD] at this ⊢
    omega
  | a + 1, b + 1, h => by
    have := lenD_mono (a := a) (b := b) (by omega)
    simp only [lenD]
    omega
theorem lenD_pos (d : Nat) : 60 ≤ lenD d := lenD_mono (Nat.zero_le d)
theorem name_l {x : Str} (h : NameOk x) : (tl x).length ≤ 8 ∧ 1 ≤ (tl x).length := by
  have h1 := h.1
  have h2 := h.2.1
  rw [len_tl] at h1 h2
  exact ⟨h2, h1⟩
theorem word_l (w : W2) : (tl w.word).length ≤ 5 := by cases w <;> decide +kernel
theorem text_len : ∀ (F : Fd), OkF F → (textL F).length ≤ lenD (dep F)
  | .whole n, o => by
    have := intL_len (i := n) (by have := o.1; omega) (by have := o.2; omega)
    simp only [textL, dep, lenD]
    omega
  | .px, _ => by simp [textL, dep, lenD]
  | .pz, _ => by simp [textL, dep, lenD]
  | .nm x, o => by
    have := name_l o
    simp only [textL, dep, lenD]
    omega
  | .noise s l, o => by
    obtain ⟨⟨h1, h2⟩, h3, h4⟩ := o
    have := intL_len (i := s) (by omega) (by omega)
    have := intL_len (i := l) (by omega) (by omega)
    have : (tl "noise").length = 5 := by decide +kernel
    simp only [textL, joinL, List.length_append, List.length_cons, List.length_nil, dep, lenD]
    omega
  | .two w a b, o => by
    have := text_len a o.1
    have := text_len b o.2
    have := lenD_mono (Nat.le_max_left (dep a) (dep b))
    have := lenD_mono (Nat.le_max_right (dep a) (dep b))
    have := word_l w
    have e : dep (.two w a b) = max (dep a) (dep b) + 1 := by simp only [dep]; omega
    rw [e]
    simp only [textL, joinL, List.length_append, List.length_cons, List.length_nil, lenD]
    omega
  | .over a n, o => by
    obtain ⟨h1, h2, h3⟩ := o
    have := text_len a h1
    have := intL_len (i := n) (by omega) (by omega)
    have : (tl "over").length = 4 := by decide +kernel
    have e : dep (.over a n) = dep a + 1 := by simp only [dep]; omega
    rw [e]
    simp only [textL, joinL, List.length_append, List.length_cons, List.length_nil, lenD]
    omega
  | .bel a b c d, o => by
    obtain ⟨h1, h2, h3, h4⟩ := o
    have := text_len a h1
    have := text_len b h2
    have := text_len c h3
    have := text_len d h4
    have := lenD_mono (show dep a ≤ max (max (dep a) (dep b)) (max (dep c) (dep d)) by omega)
    have := lenD_mono (show dep b ≤ max (max (dep a) (dep b)) (max (dep c) (dep d)) by omega)
    have := lenD_mono (show dep c ≤ max (max (dep a) (dep b)) (max (dep c) (dep d)) by omega)
    have := lenD_mono (show dep d ≤ max (max (dep a) (dep b)) (max (dep c) (dep d)) by omega)
    have : (tl "below").length = 5 := by decide +kernel
    have e : dep (.bel a b c d) = max (max (dep a) (dep b)) (max (dep c) (dep d)) + 1 := by simp only [dep]; omega
    rw [e]
    simp only [textL, joinL, List.length_append, List.length_cons, List.length_nil, lenD]
    omega
  | .shift dx dz a, o => by
    obtain ⟨⟨h1, h2⟩, ⟨h3, h4⟩, h5⟩ := o
    have := text_len a h5
    have := intL_len (i := dx) (by omega) (by omega)
    have := intL_len (i := dz) (by omega) (by omega)
    have : (tl "shift").length = 5 := by decide +kernel
    have e : dep (.shift dx dz a) = dep a + 1 := by simp only [dep]; omega
    rw [e]
    simp only [textL, joinL, List.length_append, List.length_cons, List.length_nil, lenD]
    omega
  | .lt x a b, o => by
    obtain ⟨h1, h2, h3⟩ := o
    have := text_len a h2
    have := text_len b h3
    have := name_l h1
    have := lenD_mono (Nat.le_max_left (dep a) (dep b))
    have := lenD_mono (Nat.le_max_right (dep a) (dep b))
    have : (tl "let").length = 3 := by decide +kernel
    have e : dep (.lt x a b) = max (dep a) (dep b) + 1 := by simp only [dep]; omega
    rw [e]
    simp only [textL, joinL, List.length_append, List.length_cons, List.length_nil, lenD]
    omega
theorem agL_len {a : Ag} (o : okA a) : (agL a).length ≤ lenD (depA a) := by
  cases a with
  | num i =>
    have := intL_len o.1 o.2
    simp only [agL, depA, lenD]
    omega
  | nam x =>
    have := name_l o
    simp only [agL, depA, lenD]
    omega
  | fld F => exact text_len F o
/-! ### reading -/
theorem cut_one (T : Str) (k : Nat) : cutS T (some (k : Int)) (some ((k : Int) + 1)) = mkS (((tl T).drop k).take 1) := by
  unfold cutS mkS
  rw [show ((k : Int) + 1) = ((k + 1 : Nat) : Int) from rfl, HT.sIx_nat, HT.sIx_nat, len_tl]
  congr 2
  by_cases h : k < (tl T).length
  · rw [Nat.min_eq_left (by omega), Nat.min_eq_left (by omega)]
    congr 1
    omega
  · rw [Nat.min_eq_right (by omega), Nat.min_eq_right (by omega)]
    simp [List.drop_of_length_le (show (tl T).length ≤ k by omega)]
theorem cut_to (T : Str) (a n : Nat) (h : a + n ≤ (tl T).length) : cutS T (some (a : Int)) (some ((a : Int) + (n : Nat))) = mkS (((tl T).drop a).take n) := by
  unfold cutS mkS
  rw [show ((a : Int) + (n : Nat)) = ((a + n : Nat) : Int) by omega, HT.sIx_nat, HT.sIx_nat, len_tl, Nat.min_eq_left h, Nat.min_eq_left (show a ≤ (tl T).length by omega)]
  congr 2
  congr 1
  omega
def letB : List Nat → Bool
  | [c] => decide (97 ≤ c) && decide (c ≤ 122)
  | _ => false
def digB : List Nat → Bool
  | [c] => decide (48 ≤ c) && decide (c ≤ 57)
  | _ => false
def Letters (w : List Nat) : Prop := ∀ c ∈ w, 97 ≤ c ∧ c ≤ 122
/-- what stands behind a thing: nothing, a comma, a bracket -/
def Sep (r : List Nat) : Prop := r = [] ∨ ∃ t, r = 44 :: t ∨ r = 41 :: t
theorem Sep.no {r : List Nat} (h : Sep r) : letB (r.take 1) = false ∧ digB (r.take 1) = false ∧ mkS (r.take 1) ≠ "(" := by
  rcases h with rfl | ⟨t, rfl | rfl⟩
  · exact ⟨rfl, rfl, by decide +kernel⟩
  · exact ⟨rfl, rfl, by show mkS [44] ≠ "("; decide +kernel⟩
  · exact ⟨rfl, rfl, by show mkS [41] ≠ "("; decide +kernel⟩
/-! ### what is open -/
structure Fr1 where
  G : Fd
  done : List Ag
  todo : List Ag
def after : List Fr1 → List Nat
  | [] => []
  | f :: r => (f.todo.map agL).flatMap (fun q => [44, 32] ++ q) ++ 41 :: after r
theorem after_sep : ∀ fs : List Fr1, Sep (after fs)
  | [] => .inl rfl
  | f :: r => by
    refine .inr ?_
    unfold after
    cases f.todo with
    | nil => exact ⟨_, .inr rfl⟩
    | cons a t => exact ⟨_, .inl rfl⟩
/-- the hole of each is what stands before it; the last one's whole is the root -/
def Chain (R : Fd) : Ag → List Fr1 → Prop
  | a, [] => a = .fld R
  | a, f :: r => isBr f.G = true ∧ argsF f.G = f.done ++ a :: f.todo ∧ Chain R (.fld f.G) r
def depB : Ag → Nat
  | .fld F => dep F + 1
  | _ => 0
theorem chain_dep {R : Fd} : ∀ {a : Ag} {fs : List Fr1}, Chain R a fs → fs.length + depB a ≤ dep R + 1
  | a, [], h => by
    obtain rfl : a = _ := h
    simp [depB]
  | a, f :: r, ⟨hb, e, h⟩ => by
    have ih := chain_dep h
    have m : a ∈ argsF f.G := by rw [e]; simp
    have h1 : depB a ≤ dep f.G := by
      cases a with
      | num i => exact Nat.zero_le _
      | nam x => exact Nat.zero_le _
      | fld F =>
        rcases args_dep hb m with h1 | ⟨s, l, hs⟩
        · exact h1
        · rw [hs] at m
          simp [argsF] at m
    simp only [depB] at ih
    rw [List.length_cons]
    omega
end Tx

/-! Drawn fields: what is known of them, level by level. -/
namespace Lv
open PySem L2 Lw Fm Fr Sm Rm Pf
def cT : Nat → Nat
  | 0 => 1
  | t + 1 => 5 * cT t
def bT : Nat → Int
  | 0 => 1010000
  | t + 1 => 4 * bT t
theorem cT_pos : ∀ t, 1 ≤ cT t
  | 0 => Nat.le_refl 1
  | t + 1 => by have := cT_pos t; simp only [cT]; omega
theorem bT_pos : ∀ t, 1010000 ≤ bT t
  | 0 => Int.le_refl _
  | t + 1 => by have := bT_pos t; simp only [bT]; omega
theorem cT_mono : ∀ {a b : Nat}, a ≤ b → cT a ≤ cT b
  | a, 0, h => by obtain rfl : a = 0 := by omega
                  exact Nat.le_refl _
  | 0, b + 1, _ => by have := cT_pos (b + 1); exact this
  | a + 1, b + 1, h => by have := cT_mono (a := a) (b := b) (by omega); simp only [cT]; omega
theorem bT_mono : ∀ {a b : Nat}, a ≤ b → bT a ≤ bT b
  | a, 0, h => by obtain rfl : a = 0 := by omega
                  exact Int.le_refl _
  | 0, b + 1, _ => by have := bT_pos (b + 1); exact this
  | a + 1, b + 1, h => by have := bT_mono (a := a) (b := b) (by omega); simp only [bT]; omega
theorem bT_le {t : Nat} (h : t ≤ 10) : bT t ≤ 10000000000000 := by
  have := bT_mono h
  have e : bT 10 = 1059061760000 := by decide
  omega
theorem cT_le {t : Nat} (h : t ≤ 10) : cT t ≤ 10000000 := by
  have := cT_mono h
  have e : cT 10 = 9765625 := by decide
  omega
def Lev (t : Nat) (e : Ex) : Prop := Ne e (10000 - 1000 * (t : Int)) (60 - t) (cT t) (60 + 40 * t) (bT t)
theorem lev_mono {a b : Nat} {e : Ex} (h : Lev a e) (l : a ≤ b) : Lev b e := ne_mono h (by omega) (by omega) (cT_mono l) (by omega) (bT_mono l)
theorem lev_whole {n : Int} (h : -1000000 ≤ n ∧ n ≤ 1000000) : Lev 0 (.whole n) := ne_mono (ne_whole (r := 10000) (B := 1010000) (K := 60) (by omega) (by omega) (by omega)) (by omega) (by omega) (Nat.le_refl 1) (by omega) (Int.le_refl _)
theorem lev_px : Lev 0 .px := ne_mono (ne_px (r := 10000) (K := 60) (by omega)) (by omega) (by omega) (Nat.le_refl 1) (by omega) (Int.le_refl _)
theorem lev_pz : Lev 0 .pz := ne_mono (ne_pz (r := 10000) (K := 60) (by omega)) (by omega) (by omega) (Nat.le_refl 1) (by omega) (Int.le_refl _)
theorem lev_noise {s l : Int} (h : (0 ≤ s ∧ s ≤ 1000000000) ∧ 0 ≤ l ∧ l ≤ 8) : Lev 0 (.noise s l) := ne_mono (ne_noise (r := 10000) (K := 60) h) (by omega) (by omega) (Nat.le_refl 1) (by omega) (by show (65535 : Int) ≤ 1010000; omega)
theorem lev_two {w : W2} {a b : Ex} {t : Nat} (hw : w ≠ .times) (ha : Lev t a) (hb : Lev t b) (h : t ≤ 9) : Lev (t + 1) (.two w a b) := by
  have h1 := bT_le (t := t) (by omega)
  have h2 := bT_pos t
  have h3 := cT_pos t
  exact ne_mono (ne_two hw ha hb (by omega) (by omega) (by omega)) (by omega) (by omega) (by simp only [cT]; omega) (by omega) (by simp only [bT]; omega)
theorem lev_times {a : Ex} {k : Int} {t : Nat} (hk : -4 ≤ k ∧ k ≤ 4) (ha : Lev t a) (h : t ≤ 9) : Lev (t + 1) (.two .times a (.whole k)) := by
  have h1 := bT_le (t := t) (by omega)
  have h2 := bT_pos t
  have h3 := cT_pos t
  have hb : Ne (.whole k) (10000 - 1000 * (t : Int)) (60 - t) 1 34 4 := ne_whole (by omega) (by omega) (by omega)
  exact ne_mono (ne_times ha hb (by omega) (by omega) (by omega)) (by omega) (by omega) (by simp only [cT]; omega) (by omega) (by simp only [bT]; omega)
theorem lev_over {a : Ex} {n : Int} {t : Nat} (n0 : 1 ≤ n) (n1 : n ≤ 1000000000) (ha : Lev t a) (h : t ≤ 9) : Lev (t + 1) (.over a n) := by
  have h1 := bT_le (t := t) (by omega)
  have h2 := bT_pos t
  have h3 := cT_pos t
  exact ne_mono (ne_over ha n0 n1 (by omega) (by omega)) (by omega) (by omega) (by simp only [cT]; omega) (by omega) (by simp only [bT]; omega)
theorem lev_bel {a b c d : Ex} {t : Nat} (ha : Lev t a) (hb : Lev t b) (hc : Lev t c) (hd : Lev t d) (h : t ≤ 9) : Lev (t + 1) (.bel a b c d) := by
  have h1 := bT_le (t := t) (by omega)
  have h2 := bT_pos t
  have h3 := cT_pos t
  exact ne_mono (ne_bel ha hb hc hd (by omega)) (by omega) (by omega) (by simp only [cT]; omega) (by omega) (by simp only [bT]; omega)
theorem lev_shift {a : Ex} {dx dz : Int} {t : Nat} (hx : -1000 ≤ dx ∧ dx ≤ 1000) (hz : -1000 ≤ dz ∧ dz ≤ 1000) (ha : Lev t a) (h : t ≤ 9) : Lev (t + 1) (.shift dx dz a) := by
  have h1 := bT_le (t := t) (by omega)
  have h2 := bT_pos t
  have h3 := cT_pos t
  have ha' : Ne a (10000 - 1000 * (t : Int)) ((60 - (t + 1)) + 1) (cT t) (60 + 40 * t) (bT t) := ne_mono ha (Int.le_refl _) (by omega) (Nat.le_refl _) (Nat.le_refl _) (Int.le_refl _)
  exact ne_mono (ne_shift (s := 1000) ha' hx hz (by omega) (by omega)) (by omega) (by omega) (by simp only [cT]; omega) (by omega) (by simp only [bT]; omega)
def lv : Nat → Nat
  | 0 => 0
  | 1 => 1
  | 2 => 2
  | 3 => 4
  | _ => 8
def ul : Nat → Nat
  | 0 => 1
  | d + 1 => 1 + 2 * ul d
structure Dn (ks : List Str) (d : Nat) (F : Fd) : Prop where
  dep : dep F ≤ d
  ok : OkF F
  bnd : Bnd F ks
  lev : ∀ (t : Nat) (r : Fm.Env), t + lv d ≤ 9 → (∀ x ∈ ks, Lev t (look r x)) → Lev (t + lv d) (expand F r) ∧ Cok F r
  ud : ∀ (T : Nat) (δ : List (Str × Nat)), (∀ x ∈ ks, (δ.lookup x).getD 0 ≤ T) → udep F δ ≤ T + ul d
theorem lv_step {d : Nat} (h : d ≤ 3) : lv d + 1 ≤ lv (d + 1) ∧ lv d + lv d ≤ lv (d + 1) ∧ lv (d + 1) ≤ 8 := by
  rcases (show d = 0 ∨ d = 1 ∨ d = 2 ∨ d = 3 by omega) with rfl | rfl | rfl | rfl <;> decide
theorem ul_pos : ∀ d, 1 ≤ ul d
  | 0 => Nat.le_refl 1
  | d + 1 => by simp only [ul]; omega
/-- a leaf -/
theorem dn_leaf {ks : List Str} {F : Fd} {e : Ex} (h0 : Fm.dep F = 0) (ho : OkF F) (hb : Bnd F ks) (he : ∀ r, expand F r = e) (hl : Lev 0 e) (hc : ∀ r, Cok F r) (hu : ∀ δ, udep F δ = 1) : Dn ks 0 F :=
  ⟨by omega, ho, hb, fun t r _ _ => ⟨by rw [he]; exact lev_mono hl (by omega), hc r⟩, fun T δ _ => by rw [hu]; simp only [ul]; omega⟩
theorem dn_nm {ks : List Str} {x : Str} (h : x ∈ ks) (ho : NameOk x) : Dn ks 0 (.nm x) :=
  ⟨Nat.le_refl 0, ho, h, fun t r _ hr => ⟨lev_mono (hr x h) (by omega), True.intro⟩, fun T δ hd => by have := hd x h; simp only [udep, ul]; omega⟩
theorem dn_up {ks : List Str} {d : Nat} {F : Fd} (h : Dn ks d F) (hd : d ≤ 3) : Dn ks (d + 1) F := by
  have s := lv_step hd
  exact ⟨by have := h.dep; omega, h.ok, h.bnd, fun t r ht hr => by
    obtain ⟨h1, h2⟩ := h.lev t r (by omega) hr
    exact ⟨lev_mono h1 (by omega), h2⟩, fun T δ hT => by have := h.ud T δ hT; simp only [ul]; omega⟩
theorem dn_two {ks : List Str} {d : Nat} {w : W2} {a b : Fd} (hd : d ≤ 3) (hw : w ≠ .times) (ha : Dn ks d a) (hb : Dn ks d b) : Dn ks (d + 1) (.two w a b) := by
  have s := lv_step hd
  exact ⟨by have := ha.dep; have := hb.dep; simp only [Fm.dep]; omega, ⟨ha.ok, hb.ok⟩, ⟨ha.bnd, hb.bnd⟩, fun t r ht hr => by
    obtain ⟨h1, h2⟩ := ha.lev t r (by omega) hr
    obtain ⟨h3, h4⟩ := hb.lev t r (by omega) hr
    exact ⟨lev_mono (lev_two hw h1 h3 (by omega)) (by omega), h2, h4⟩, fun T δ hT => by have := ha.ud T δ hT; have := hb.ud T δ hT; simp only [udep, ul]; omega⟩
theorem dn_times {ks : List Str} {d : Nat} {a : Fd} {k : Int} (hd : d ≤ 3) (hk : -4 ≤ k ∧ k ≤ 4) (ha : Dn ks d a) : Dn ks (d + 1) (.two .times a (.whole k)) := by
  have s := lv_step hd
  have hp := ul_pos d
  exact ⟨by have := ha.dep; simp only [Fm.dep]; omega, ⟨ha.ok, by show -999999999 ≤ k ∧ k ≤ 999999999; omega⟩, ⟨ha.bnd, True.intro⟩, fun t r ht hr => by
    obtain ⟨h1, h2⟩ := ha.lev t r (by omega) hr
    exact ⟨lev_mono (lev_times hk h1 (by omega)) (by omega), h2, True.intro⟩, fun T δ hT => by have := ha.ud T δ hT; simp only [udep, ul]; omega⟩
theorem dn_over {ks : List Str} {d : Nat} {a : Fd} {n : Int} (hd : d ≤ 3) (n0 : 1 ≤ n) (n1 : n ≤ 1000000000) (ha : Dn ks d a) : Dn ks (d + 1) (.over a n) := by
  have s := lv_step hd
  exact ⟨by have := ha.dep; simp only [Fm.dep]; omega, ⟨ha.ok, n0, n1⟩, ha.bnd, fun t r ht hr => by
    obtain ⟨h1, h2⟩ := ha.lev t r (by omega) hr
    exact ⟨lev_mono (lev_over n0 n1 h1 (by omega)) (by omega), h2⟩, fun T δ hT => by have := ha.ud T δ hT; simp only [udep, ul]; omega⟩
theorem dn_bel {ks : List Str} {d : Nat} {a b c e : Fd} (hd : d ≤ 3) (ha : Dn ks d a) (hb : Dn ks d b) (hc : Dn ks d c) (he : Dn ks d e) : Dn ks (d + 1) (.bel a b c e) := by
  have s := lv_step hd
  exact ⟨by have := ha.dep; have := hb.dep; have := hc.dep; have := he.dep; simp only [Fm.dep]; omega, ⟨ha.ok, hb.ok, hc.ok, he.ok⟩, ⟨ha.bnd, hb.bnd, hc.bnd, he.bnd⟩, fun t r ht hr => by
    obtain ⟨h1, h2⟩ := ha.lev t r (by omega) hr
    obtain ⟨h3, h4⟩ := hb.lev t r (by omega) hr
    obtain ⟨h5, h6⟩ := hc.lev t r (by omega) hr
    obtain ⟨h7, h8⟩ := he.lev t r (by omega) hr
    exact ⟨lev_mono (lev_bel h1 h3 h5 h7 (by omega)) (by omega), h2, h4, h6, h8⟩, fun T δ hT => by have := ha.ud T δ hT; have := hb.ud T δ hT; have := hc.ud T δ hT; have := he.ud T δ hT; simp only [udep, ul]; omega⟩
theorem dn_shift {ks : List Str} {d : Nat} {a : Fd} {dx dz : Int} (hd : d ≤ 3) (hx : -1000 ≤ dx ∧ dx ≤ 1000) (hz : -1000 ≤ dz ∧ dz ≤ 1000) (ha : Dn ks d a) : Dn ks (d + 1) (.shift dx dz a) := by
  have s := lv_step hd
  exact ⟨by have := ha.dep; simp only [Fm.dep]; omega, ⟨hx, hz, ha.ok⟩, ha.bnd, fun t r ht hr => by
    obtain ⟨h1, h2⟩ := ha.lev t r (by omega) hr
    exact ⟨lev_mono (lev_shift hx hz h1 (by omega)) (by omega), h2⟩, fun T δ hT => by have := ha.ud T δ hT; simp only [udep, ul]; omega⟩
theorem dn_let {ks : List Str} {d : Nat} {x : Str} {a b : Fd} (hd : d ≤ 3) (hx : NameOk x) (ha : Dn ks d a) (hb : Dn (ks ++ [x]) d b) : Dn ks (d + 1) (.lt x a b) := by
  have s := lv_step hd
  refine ⟨by have := ha.dep; have := hb.dep; simp only [Fm.dep]; omega, ⟨hx, ha.ok, hb.ok⟩, ⟨ha.bnd, bnd_perm (fun y => by simp [or_comm]) b hb.bnd⟩, fun t r ht hr => ?_, fun T δ hT => ?_⟩
  · obtain ⟨h1, h2⟩ := ha.lev t r (by omega) hr
    have hc : cn (expand a r) ≤ 1000000000000000000000000000000 := by
      have := h1.cn
      have := cT_le (t := t + lv d) (by omega)
      omega
    obtain ⟨h3, h4⟩ := hb.lev (t + lv d) ((x, expand a r) :: r) (by omega) (fun y hy => by
      unfold look
      split
      · exact h1
      · rcases List.mem_append.mp hy with hy | hy
        · exact lev_mono (hr y hy) (by omega)
        · rename_i ne
          exact absurd (List.mem_singleton.mp hy) (fun e => ne (by simp [e])))
    exact ⟨lev_mono h3 (by omega), hc, h2, h4⟩
  · have h1 := ha.ud T δ hT
    have h2 := hb.ud (T + ul d) ((x, udep a δ) :: δ) (fun y hy => by
      rw [List.lookup_cons]
      by_cases e : y = x
      · subst e
        simp
        omega
      · rw [show (y == x) = false from beq_eq_false_iff_ne.mpr e]
        rcases List.mem_append.mp hy with hy | hy
        · have := hT y hy
          simp only []
          omega
        · exact absurd (List.mem_singleton.mp hy) e)
    simp only [udep, ul]
    omega
end Lv

/-! Fields as data; twice the same field; what is good of fields put together. -/
namespace Ld
open PySem L2 Lw Fm Fr Sm Rm Pf Ls Lv
def dataF : Fd → PyData
  | .whole n => .tuple [.str "whole", .int n]
  | .px => .tuple [.str "x"]
  | .pz => .tuple [.str "z"]
  | .noise s l => .tuple [.str "noise", .int s, .int l]
  | .two w a b => .tuple [.str w.word, dataF a, dataF b]
  | .over a n => .tuple [.str "over", dataF a, .int n]
  | .bel a b c d => .tuple [.str "below", dataF a, dataF b, dataF c, dataF d]
  | .shift dx dz a => .tuple [.str "shift", .int dx, .int dz, dataF a]
  | .lt x a b => .tuple [.str "let", .str x, dataF a, dataF b]
  | .nm x => .tuple [.str "name", .str x]
theorem dp_field {K : PySem.W.Frag} {H : Hp} : ∀ (F : Fd) (u : V), FRep F H u → Dp K H u (dataF F)
  | .whole _, _, ⟨p, e, h⟩ => e ▸ .tup (SqT.of h) (.cons (.str _) (.cons (.int _) .nil))
  | .px, _, ⟨p, e, h⟩ => e ▸ .tup (SqT.of h) (.cons (.str _) .nil)
  | .pz, _, ⟨p, e, h⟩ => e ▸ .tup (SqT.of h) (.cons (.str _) .nil)
  | .noise _ _, _, ⟨p, e, h⟩ => e ▸ .tup (SqT.of h) (.cons (.str _) (.cons (.int _) (.cons (.int _) .nil)))
  | .two _ a b, _, ⟨p, u1, u2, e, h, h1, h2⟩ => e ▸ .tup (SqT.of h) (.cons (.str _) (.cons (dp_field a u1 h1) (.cons (dp_field b u2 h2) .nil)))
  | .over a _, _, ⟨p, u1, e, h, h1⟩ => e ▸ .tup (SqT.of h) (.cons (.str _) (.cons (dp_field a u1 h1) (.cons (.int _) .nil)))
  | .bel a b c d, _, ⟨p, u1, u2, u3, u4, e, h, h1, h2, h3, h4⟩ => e ▸ .tup (SqT.of h) (.cons (.str _) (.cons (dp_field a u1 h1) (.cons (dp_field b u2 h2) (.cons (dp_field c u3 h3) (.cons (dp_field d u4 h4) .nil)))))
  | .shift _ _ a, _, ⟨p, u1, e, h, h1⟩ => e ▸ .tup (SqT.of h) (.cons (.str _) (.cons (.int _) (.cons (.int _) (.cons (dp_field a u1 h1) .nil))))
  | .lt _ a b, _, ⟨p, u1, u2, e, h, h1, h2⟩ => e ▸ .tup (SqT.of h) (.cons (.str _) (.cons (.str _) (.cons (dp_field a u1 h1) (.cons (dp_field b u2 h2) .nil))))
  | .nm _, _, ⟨p, e, h⟩ => e ▸ .tup (SqT.of h) (.cons (.str _) (.cons (.str _) .nil))
theorem depth_field : ∀ F : Fd, (dataF F).depth ≤ dep F + 3
  | .whole n => by simp only [dataF, PyData.depth, PyData.depthAll, dep]; omega
  | .px => by simp only [dataF, PyData.depth, PyData.depthAll, dep]; omega
  | .pz => by simp only [dataF, PyData.depth, PyData.depthAll, dep]; omega
  | .noise s l => by simp only [dataF, PyData.depth, PyData.depthAll, dep]; omega
  | .two _ a b => by have := depth_field a; have := depth_field b; simp only [dataF, PyData.depth, PyData.depthAll, dep]; omega
  | .over a n => by have := depth_field a; simp only [dataF, PyData.depth, PyData.depthAll, dep]; omega
  | .bel a b c d => by have := depth_field a; have := depth_field b; have := depth_field c; have := depth_field d; simp only [dataF, PyData.depth, PyData.depthAll, dep]; omega
  | .shift dx dz a => by have := depth_field a; simp only [dataF, PyData.depth, PyData.depthAll, dep]; omega
  | .lt _ a b => by have := depth_field a; have := depth_field b; simp only [dataF, PyData.depth, PyData.depthAll, dep]; omega
  | .nm _ => by simp only [dataF, PyData.depth, PyData.depthAll, dep]; omega
/-- how many fields a field is written with -/
theorem name_strOk {x : Str} (h : NameOk x) : PyData.strOk x = true := by
  unfold PyData.strOk
  rw [Array.all_eq_true']
  intro c hc
  have := h.2.2 c (by simpa using hc)
  exact decide_eq_true (by omega)
theorem and3 {a b c : Bool} (h1 : a = true) (h2 : b = true) (h3 : c = true) : (a && (b && c)) = true := by rw [h1, h2, h3]; rfl
theorem word_strOk (w : W2) : PyData.strOk w.word = true := by cases w <;> decide +kernel
theorem lay_field : ∀ F : Fd, OkF F → (dataF F).canLay0 = true
  | .whole n, _ => by show (PyData.strOk "whole" && (true && true)) = true; decide +kernel
  | .px, _ => by show (PyData.strOk "x" && true) = true; decide +kernel
  | .pz, _ => by show (PyData.strOk "z" && true) = true; decide +kernel
  | .noise s l, _ => by show (PyData.strOk "noise" && (true && (true && true))) = true; decide +kernel
  | .two w a b, h => by
    show (PyData.strOk w.word && ((dataF a).canLay0 && ((dataF b).canLay0 && true))) = true
    rw [word_strOk, lay_field a h.1, lay_field b h.2]; rfl
  | .over a n, h => by
    show (PyData.strOk "over" && ((dataF a).canLay0 && (true && true))) = true
    rw [lay_field a h.1]; decide +kernel
  | .bel a b c d, h => by
    show (PyData.strOk "below" && ((dataF a).canLay0 && ((dataF b).canLay0 && ((dataF c).canLay0 && ((dataF d).canLay0 && true))))) = true
    rw [lay_field a h.1, lay_field b h.2.1, lay_field c h.2.2.1, lay_field d h.2.2.2]; decide +kernel
  | .shift dx dz a, h => by
    show (PyData.strOk "shift" && (true && (true && ((dataF a).canLay0 && true)))) = true
    rw [lay_field a h.2.2]; decide +kernel
  | .lt x a b, h => by
    show (PyData.strOk "let" && (PyData.strOk x && ((dataF a).canLay0 && ((dataF b).canLay0 && true)))) = true
    rw [name_strOk h.1, lay_field a h.2.1, lay_field b h.2.2]; decide +kernel
  | .nm x, h => by
    show (PyData.strOk "name" && (PyData.strOk x && true)) = true
    rw [name_strOk h]; decide +kernel
theorem shaped_field {F : Fd} (h : OkF F) (d : dep F ≤ 60) : SeqAt.shaped (dataF F) = true := by
  unfold SeqAt.shaped
  rw [lay_field F h, decide_eq_true (show (dataF F).depth ≤ 64 by have := depth_field F; omega)]
  rfl
/-- the same field twice: one step more, which leans on the last twice -/
theorem twice (e : Ex) (w : W2) : stepsE (.two w e e) = stepsE e ++ [.two w ((stepsE e).length - 1) ((stepsE e).length - 1)] := by
  have ie := into_ok e 0 0 []
  have ok := ie.ok ok_nil
  have htop : (into e 0 0 []).2 + 1 = (into e 0 0 []).1.length := by
    rcases into_top e 0 0 [] ok_nil with h | h
    · have := ie.lt
      rw [h] at this
      exact absurd this (Nat.not_lt_zero _)
    · exact h
  have ag := into_again e 0 0 [] (into e 0 0 []).1 (List.prefix_refl _)
  show (put (into e 0 0 (into e 0 0 []).1).1 (.two w (into e 0 0 []).2 (into e 0 0 (into e 0 0 []).1).2)).1 = (into e 0 0 []).1 ++ [.two w ((into e 0 0 []).1.length - 1) ((into e 0 0 []).1.length - 1)]
  rw [ag]
  dsimp only
  have no : Stp.two w (into e 0 0 []).2 (into e 0 0 []).2 ∉ (into e 0 0 []).1 := fun m => by
    obtain ⟨j, hj⟩ := List.getElem?_of_mem m
    have h1 := ok j _ hj
    have h2 : (into e 0 0 []).2 < j := h1.1
    have h3 : j < (into e 0 0 []).1.length := (List.getElem?_eq_some_iff.mp hj).1
    omega
  unfold put
  rw [if_neg no, show (into e 0 0 []).1.length - 1 = (into e 0 0 []).2 by omega]
theorem there_and_back (e : Ex) : stepsE (.shift 4 (-2) (.shift (-4) 2 e)) = stepsE e := rfl
/-- what is known of a field that the law draws -/
structure Kn4 (F : Fd) : Prop where
  dn : Dn [] 4 F
  cn : cn (expand F []) ≤ 60
theorem Kn4.ne {F : Fd} (h : Kn4 F) : Ne (expand F []) 2000 52 60 380 66191360000 := by
  obtain ⟨h1, _⟩ := h.dn.lev 0 [] (by decide) (fun x hx => (nomatch hx))
  have h2 : Lev 8 (expand F []) := by rw [show (0 + lv 4) = 8 from rfl] at h1; exact h1
  have h3 : Ne (expand F []) (10000 - 1000 * ((8 : Nat) : Int)) (60 - 8) (cT 8) (60 + 40 * 8) (bT 8) := h2
  have e : bT 8 = 66191360000 := by decide
  rw [e] at h3
  exact ⟨h3.ok, h.cn, h3.vb, h3.all, h3.lo, h3.hi⟩
theorem Kn4.cok {F : Fd} (h : Kn4 F) (r : Fm.Env) (hr : True) : Cok F r := (h.dn.lev 0 r (by decide) (fun x hx => (nomatch hx))).2
theorem Kn4.ud {F : Fd} (h : Kn4 F) (δ : List (Str × Nat)) : udep F δ ≤ 31 := by
  have := h.dn.ud 0 δ (by intro x hx; cases hx)
  have e : ul 4 = 31 := by decide
  omega
theorem Kn4.bnd {F : Fd} (h : Kn4 F) (ks : List Str) : Bnd F ks := bnd_perm (a := []) (by intro y hy; cases hy) F h.dn.bnd
theorem Kn4.cl {F : Fd} (h : Kn4 F) (r : Fm.Env) : expand F r = expand F [] := expand_closed h.dn.bnd r []
end Ld

/-! Edits of all words as a type; edits, layers and entries that stand in the heap. -/
namespace Eg
open PySem L2 Lw Fm Fr Sm Rm Pf Ld
structure Box where
  x0 : Int
  z0 : Int
  x1 : Int
  z1 : Int
/-- what changes heights: raise, least, most -/
inductive Cw where
  | raise | least | most
def Cw.word : Cw → Str
  | .raise => "raise"
  | .least => "least"
  | .most => "most"
inductive Ed where
  | set (b : Box) (n : Int)
  | chg (w : Cw) (b : Box) (n : Int)
  | field (b : Box) (F : Fd)
  | copy (b : Box) (dx dz : Int)
def Ed.box : Ed → Box
  | .set b _ => b
  | .chg _ b _ => b
  | .field b _ => b
  | .copy b _ _ => b
def Ed.word : Ed → Str
  | .set _ _ => "set"
  | .chg w _ _ => w.word
  | .field _ _ => "field"
  | .copy _ _ _ => "copy"
def Ed.count : Ed → Int
  | .copy _ _ _ => 4
  | _ => 3
abbrev BoxR (H : Hp) (bx : Addr) (b : Box) : Prop := H bx = some (.tup [.int b.x0, .int b.z0, .int b.x1, .int b.z1])
/-- what an edit's tuple has -/
def edC (E : Ed) (bx : Addr) (u : V) : List V := match E with
  | .set _ n => [.str "set", .ref bx, .int n]
  | .chg w _ n => [.str w.word, .ref bx, .int n]
  | .field _ _ => [.str "field", .ref bx, u]
  | .copy _ dx dz => [.str "copy", .ref bx, .int dx, .int dz]
def UR (H : Hp) (E : Ed) (u : V) : Prop := match E with
  | .field _ F => FRep F H u
  | _ => True
/-- an edit's tuple at e, its box at bx -/
def EdAt (H : Hp) (e bx : Addr) (E : Ed) : Prop := ∃ u, H e = some (.tup (edC E bx u)) ∧ BoxR H bx E.box ∧ UR H E u
/-- its layer -/
def LyAt (H : Hp) (ly bx : Addr) (E : Ed) : Prop := BoxR H bx E.box ∧ match E with
  | .set _ n => ∃ st wt, H ly = some (.tup [.str "field", .ref bx, .ref st, .int 0]) ∧ H st = some (.tup [.ref wt]) ∧ H wt = some (.tup [.str "whole", .int n])
  | .chg w _ n => H ly = some (.tup [.str w.word, .ref bx, .int n, .int 0])
  | .field _ F => ∃ st ws, H ly = some (.tup [.str "field", .ref bx, .ref st, .int 0]) ∧ H st = some (.tup ws) ∧ StepsR H ws (stepsE (expand F []))
  | .copy _ dx dz => H ly = some (.tup [.str "copy", .ref bx, .int dx, .int dz])
theorem UR.mono {H H' : Hp} (t : Tup H H') {E : Ed} {u : V} (h : UR H E u) : UR H' E u := by
  cases E with
  | set b n => exact True.intro
  | chg w b n => exact True.intro
  | field b F => exact FRep.mono t h
  | copy b dx dz => exact True.intro
theorem EdAt.mono {H H' : Hp} (t : Tup H H') {e bx : Addr} {E : Ed} (h : EdAt H e bx E) : EdAt H' e bx E := by
  obtain ⟨u, h1, h2, h3⟩ := h
  exact ⟨u, t _ _ h1, t _ _ h2, h3.mono t⟩
theorem LyAt.mono {H H' : Hp} (t : Tup H H') {ly bx : Addr} {E : Ed} (h : LyAt H ly bx E) : LyAt H' ly bx E := by
  obtain ⟨hb, h⟩ := h
  refine ⟨t _ _ hb, ?_⟩
  cases E with
  | set b n =>
    obtain ⟨st, wt, h1, h2, h3⟩ := h
    exact ⟨st, wt, t _ _ h1, t _ _ h2, t _ _ h3⟩
  | chg w b n => exact t _ _ h
  | field b F =>
    obtain ⟨st, ws, h1, h2, h3⟩ := h
    exact ⟨st, ws, t _ _ h1, t _ _ h2, h3.mono t⟩
  | copy b dx dz => exact t _ _ h
/-! ### edits as data -/
def boxD (b : Box) : PyData := .tuple [.int b.x0, .int b.z0, .int b.x1, .int b.z1]
def edD : Ed → PyData
  | .set b n => .tuple [.str "set", boxD b, .int n]
  | .chg w b n => .tuple [.str w.word, boxD b, .int n]
  | .field b F => .tuple [.str "field", boxD b, dataF F]
  | .copy b dx dz => .tuple [.str "copy", boxD b, .int dx, .int dz]
theorem dp_box {K : PySem.W.Frag} {H : Hp} {bx : Addr} {b : Box} (h : BoxR H bx b) : Dp K H (.ref bx) (boxD b) := .tup (SqT.of h) (.cons (.int _) (.cons (.int _) (.cons (.int _) (.cons (.int _) .nil))))
theorem dp_ed {K : PySem.W.Frag} {H : Hp} {e bx : Addr} {E : Ed} (h : EdAt H e bx E) : Dp K H (.ref e) (edD E) := by
  obtain ⟨u, h1, h2, h3⟩ := h
  cases E with
  | set b n => exact .tup (SqT.of h1) (.cons (.str _) (.cons (dp_box h2) (.cons (.int _) .nil)))
  | chg w b n => exact .tup (SqT.of h1) (.cons (.str _) (.cons (dp_box h2) (.cons (.int _) .nil)))
  | field b F => exact .tup (SqT.of h1) (.cons (.str _) (.cons (dp_box h2) (.cons (dp_field F u h3) .nil)))
  | copy b dx dz => exact .tup (SqT.of h1) (.cons (.str _) (.cons (dp_box h2) (.cons (.int _) (.cons (.int _) .nil))))
/-- its field, if it has one, is one, and not deep -/
def FOk : Ed → Prop
  | .field _ F => OkF F ∧ dep F ≤ 50
  | _ => True
theorem lay_box (b : Box) : (boxD b).canLay0 = true := rfl
theorem cw_strOk (w : Cw) : PyData.strOk w.word = true := by cases w <;> decide +kernel
theorem shaped_ed {E : Ed} (h : FOk E) : SeqAt.shaped (edD E) = true := by
  unfold SeqAt.shaped
  cases E with
  | set b n =>
    have h1 : PyData.strOk ("set" : Str) = true := by decide +kernel
    simp [edD, boxD, PyData.canLay0, PyData.canLayAll0, PyData.depth, PyData.depthAll, h1]
  | chg w b n => simp [edD, boxD, PyData.canLay0, PyData.canLayAll0, PyData.depth, PyData.depthAll, cw_strOk w]
  | field b F =>
    have h1 : PyData.strOk ("field" : Str) = true := by decide +kernel
    have h2 := depth_field F
    have h3 := h.2
    simp [edD, boxD, PyData.canLay0, PyData.canLayAll0, PyData.depth, PyData.depthAll, h1, lay_field F h.1]
    omega
  | copy b dx dz =>
    have h1 : PyData.strOk ("copy" : Str) = true := by decide +kernel
    simp [edD, boxD, PyData.canLay0, PyData.canLayAll0, PyData.depth, PyData.depthAll, h1]
theorem edC_word (E : Ed) (bx : Addr) (u : V) : (edC E bx u)[0]? = some (.str E.word) := by cases E <;> rfl
theorem edC_box (E : Ed) (bx : Addr) (u : V) : (edC E bx u)[1]? = some (.ref bx) := by cases E <;> rfl
theorem edC_len (E : Ed) (bx : Addr) (u : V) : ((edC E bx u).length : Int) = E.count := by cases E <;> rfl
theorem edC_take (E : Ed) (bx : Addr) (u : V) : ∃ y, (edC E bx u).take 3 = [.str E.word, .ref bx, y] ∧ (edC E bx u)[2]? = some y := by cases E <;> exact ⟨_, rfl, rfl⟩
/-! ### what stands: entries (NUMBER, EDIT, LAYER) -/
def EntAt (H : Hp) (v : V) (p : Int × Ed) : Prop := ∃ (t e ly bx bl : Addr), v = .ref t ∧ H t = some (.tup [.int p.1, .ref e, .ref ly]) ∧ EdAt H e bx p.2 ∧ LyAt H ly bl p.2
abbrev EntsR (H : Hp) (vs : List V) (ps : List (Int × Ed)) : Prop := Paired (EntAt H) vs ps
theorem EntAt.mono {H H' : Hp} (t : Tup H H') {v : V} {p : Int × Ed} (h : EntAt H v p) : EntAt H' v p := by
  obtain ⟨a, e, ly, bx, bl, rfl, h1, h2, h3⟩ := h
  exact ⟨a, e, ly, bx, bl, rfl, t _ _ h1, h2.mono t, h3.mono t⟩
theorem EntsR.mono {H H' : Hp} (t : Tup H H') : ∀ {vs : List V} {ps : List (Int × Ed)}, EntsR H vs ps → EntsR H' vs ps
  | _, _, .nil => .nil
  | _, _, .cons h r => .cons (h.mono t) (EntsR.mono t r)
theorem EntsR.snoc {H : Hp} {v : V} {p : Int × Ed} (h : EntAt H v p) : ∀ {vs : List V} {ps : List (Int × Ed)}, EntsR H vs ps → EntsR H (vs ++ [v]) (ps ++ [p])
  | _, _, .nil => .cons h .nil
  | _, _, .cons a r => .cons a (EntsR.snoc h r)
theorem EntsR.at_ {H : Hp} : ∀ {vs : List V} {ps : List (Int × Ed)} {k : Nat} {y : V}, EntsR H vs ps → vs[k]? = some y → ∃ p, ps[k]? = some p ∧ EntAt H y p
  | _, _, 0, y, .cons h _, e => by
    simp at e
    subst e
    exact ⟨_, rfl, h⟩
  | _, _, k + 1, y, .cons _ r, e => EntsR.at_ (k := k) r (by simpa using e)
  | _, _, k, y, .nil, e => by simp at e
/-- an entry of some edit, its field good enough to be compared -/
def EntV (H : Hp) (v : V) : Prop := ∃ p, EntAt H v p ∧ FOk p.2
theorem EntV.mono {H H' : Hp} (t : Tup H H') {v : V} (h : EntV H v) : EntV H' v := by
  obtain ⟨p, h1, h2⟩ := h
  exact ⟨p, h1.mono t, h2⟩
theorem EntsR.ent {H : Hp} {vs : List V} {ps : List (Int × Ed)} (h : EntsR H vs ps) (ok : ∀ p ∈ ps, FOk p.2) : ∀ v ∈ vs, EntV H v := fun v hv => by
  obtain ⟨k, hk⟩ := List.getElem?_of_mem hv
  obtain ⟨p, hp, ha⟩ := h.at_ hk
  exact ⟨p, ha, ok p (List.mem_of_getElem? hp)⟩
/-! ### layers -/
abbrev LysR (H : Hp) (vs : List V) (es : List Ed) : Prop := Paired (fun v E => ∃ ly bx, v = V.ref ly ∧ LyAt H ly bx E) vs es
theorem LysR.mono {H H' : Hp} (t : Tup H H') : ∀ {vs : List V} {es : List Ed}, LysR H vs es → LysR H' vs es
  | _, _, .nil => .nil
  | _, _, .cons ⟨ly, bx, e, h⟩ r => .cons ⟨ly, bx, e, h.mono t⟩ (LysR.mono t r)
theorem LysR.snoc {H : Hp} {v : V} {E : Ed} (h : ∃ ly bx, v = V.ref ly ∧ LyAt H ly bx E) : ∀ {vs : List V} {es : List Ed}, LysR H vs es → LysR H (vs ++ [v]) (es ++ [E])
  | _, _, .nil => .cons h .nil
  | _, _, .cons a r => .cons a (LysR.snoc h r)
end Eg

/-! for over reversed(tuple), turn by turn. -/
namespace Rr
open PySem PySem.Spec PyProof.Rows L2
theorem for_rt {K : PySem.W.Frag} {a : Addr} {xs : List V} {g : TG} {tb : TS} {D : Ends} {σ : L2.St} {H : Hp} (Pv : Nat → L2.St → Hp → Prop) (h0 : Pv 0 σ H) (hl : ∀ i σ H, i ≤ xs.length → Pv i σ H → SqT K H a xs)
    (hs : ∀ i x σ H, i < xs.length → xs[xs.length - 1 - i]? = some x → Pv i σ H → g x σ H fun σ2 H2 => tb { D with nx := Pv (i + 1), ct := Pv (i + 1), bk := D.nx } σ2 H2) (hd : ∀ σ H, Pv xs.length σ H → D.nx σ H) :
    ∃ W : Nat → Nat → L2.St → Hp → Prop, (∃ m, W 0 m σ H) ∧ ∀ i m σ H, W i m σ H → ((RT.ItvT K a xs.length).stop i H ∧ D.nx σ H) ∨
      ((RT.ItvT K a xs.length).go i H ∧ ∃ N : L2.St → Hp → Prop, (∀ σ' H', N σ' H' → ∃ m', m' < m ∧ W (i + 1) m' σ' H') ∧ ∀ x H', (RT.ItvT K a xs.length).yld i H x H' → g x σ H' fun σ2 H2 => tb { D with nx := N, ct := N, bk := D.nx } σ2 H2) := by
  refine ⟨fun i m σ H => m = xs.length - i ∧ i ≤ xs.length ∧ Pv i σ H, ⟨xs.length, by simp, Nat.zero_le _, h0⟩, ?_⟩
  rintro i m σ H ⟨rfl, hi, p⟩
  by_cases hlt : i < xs.length
  · have hx : xs[xs.length - 1 - i]? = some (xs[xs.length - 1 - i]'(by omega)) := List.getElem?_eq_getElem (by omega)
    refine .inr ⟨⟨hlt, xs, _, hl i σ H hi p, hx⟩, Pv (i + 1), fun σ' H' p' => ⟨xs.length - (i + 1), by omega, rfl, hlt, p'⟩, fun x H' y => ?_⟩
    obtain ⟨rfl, y⟩ := y
    exact hs i x σ _ hlt (y xs (hl i σ _ hi p)) p
  · obtain rfl : i = xs.length := by omega
    exact .inl ⟨Nat.le_refl _, hd σ H p⟩
theorem for_rl {K : PySem.W.Frag} {a : Addr} {xs : List V} {g : TG} {tb : TS} {D : Ends} {σ : L2.St} {H : Hp} (Pv : Nat → L2.St → Hp → Prop) (h0 : Pv 0 σ H) (hl : ∀ i σ H, i ≤ xs.length → Pv i σ H → SqL K H a xs)
    (hs : ∀ i x σ H, i < xs.length → xs[xs.length - 1 - i]? = some x → Pv i σ H → g x σ H fun σ2 H2 => tb { D with nx := Pv (i + 1), ct := Pv (i + 1), bk := D.nx } σ2 H2) (hd : ∀ σ H, Pv xs.length σ H → D.nx σ H) :
    ∃ W : Nat → Nat → L2.St → Hp → Prop, (∃ m, W 0 m σ H) ∧ ∀ i m σ H, W i m σ H → ((Itv K a xs.length).stop i H ∧ D.nx σ H) ∨
      ((Itv K a xs.length).go i H ∧ ∃ N : L2.St → Hp → Prop, (∀ σ' H', N σ' H' → ∃ m', m' < m ∧ W (i + 1) m' σ' H') ∧ ∀ x H', (Itv K a xs.length).yld i H x H' → g x σ H' fun σ2 H2 => tb { D with nx := N, ct := N, bk := D.nx } σ2 H2) := by
  refine ⟨fun i m σ H => m = xs.length - i ∧ i ≤ xs.length ∧ Pv i σ H, ⟨xs.length, by simp, Nat.zero_le _, h0⟩, ?_⟩
  rintro i m σ H ⟨rfl, hi, p⟩
  by_cases hlt : i < xs.length
  · have hx : xs[xs.length - 1 - i]? = some (xs[xs.length - 1 - i]'(by omega)) := List.getElem?_eq_getElem (by omega)
    refine .inr ⟨⟨hlt, xs, _, hl i σ H hi p, hx⟩, Pv (i + 1), fun σ' H' p' => ⟨xs.length - (i + 1), by omega, rfl, hlt, p'⟩, fun x H' y => ?_⟩
    obtain ⟨rfl, y⟩ := y
    exact hs i x σ _ hlt (y xs (hl i σ _ hi p)) p
  · obtain rfl : i = xs.length := by omega
    exact .inl ⟨Nat.le_refl _, hd σ H p⟩
end Rr


/-! Rules over the hand layer: {**d, k: v}; d.setdefault of a dict whose keys are tuples. -/
namespace Dz
open PySem PySem.Spec PyProof.Rows L2
section
variable {X : Cx} {pins : List (Addr × Obj)} {σ : L2.St} {H : Hp} {s : Shared} {a b : Addr} {u r : Value} {d : V} {A : Around} {E : Value → Shared → Prop}
theorem d_setdT {kvs : List (List Key × V)} {k : List Key} {Q : Value → Shared → Prop} (hu : A.units + 1 < cLine) (I : Inv X pins σ H s) (e : H a = some (.dT kvs)) (eb : H b = some (.tup (k.map kV))) (rd : RelV d r) (hl : kvs.length < sizeLine)
    (h1 : ∀ v, valV kvs k = some v → ∀ (w' : Value) (s' : Shared), Inv X pins σ H s' → RelV v w' → Q w' s') (h2 : valV kvs k = none → ∀ (w' : Value) (s' : Shared), Inv X pins σ (upd H a (.dT (putK kvs k d))) s' → RelV d w' → Q w' s') :
    wpAny (model X.prog X.w) A (call (.builtin "dict.setdefault") [.ref a, .ref b, r]) Q E s := by
  obtain ⟨z, hd, xs, rel, dd⟩ := dt_of I.hok e
  have hz : xs.length ≤ sizeLine := by
    rw [← Paired.length rel]
    exact z
  refine call_meetsIn PySem.F.slot_dict_setdefault dd.typeIs PySem.F.entry_dict_setdefault (PySem.F.args_dict_setdefault_3 _ _ _) (meetsH_dict_setdefault (tupleKind (mixKind X.prog X.w)) a b hd r) ⟨tupleKind_room_in1 hu, k, xs, key_of I.hok eb, dd, hz, fun p hp => ?_, fun hn h' dd' hs => ?_⟩
  · have q := rel.val k
    rw [hp] at q
    cases q0 : valV kvs k with
    | none =>
      rw [q0] at q
      exact (show False from q).elim
    | some v0 =>
      rw [q0] at q
      exact h1 v0 q0 _ _ (I.tok _) q
  · have q := rel.val k
    rw [hn] at q
    cases q0 : valV kvs k with
    | some v0 =>
      rw [q0] at q
      exact (show False from q).elim
    | none =>
      have hl2 : (putK kvs k d).length ≤ sizeLine := by
        have := length_putK kvs k d
        omega
      obtain ⟨q, es, ep, hq, e2, e3, e4, _, e5⟩ := dd'
      refine h2 q0 _ _ (d_write I (by rw [e]; exact True.intro) hs ⟨q, hq⟩ ⟨hl2, hd, _, (rel.put k eb rd).keeps fun c ys ec => ?_, q, es, ep, hq, e2, e3, e4, e5⟩) rd
      rw [upd_ne (ne_of ec e (fun z => nomatch z))]
      exact ec
end
/-- d.setdefault(y, z), the keys tuples -/
def tDSetdT (td ty tx : TE) : TE := fun σ H Q => td σ H fun x H1 => ∃ a, x = .ref a ∧ IsD H1 a ∧ ty σ H1 fun y H2 => tx σ H2 fun z H3 => ∃ (kvs : List (List Key × V)) (k : List Key) (b : Addr), H3 a = some (.dT kvs) ∧ y = .ref b ∧ H3 b = some (.tup (k.map kV)) ∧ kvs.length < sizeLine ∧
  (∀ v, valV kvs k = some v → Q v H3) ∧ (valV kvs k = none → Q z (upd H3 a (.dT (putK kvs k z))))
section
variable {X : Cx} {o e f : Expr} {td ty tx : TE} {apos cpos : Pos}
theorem pe_dsetdT (hu : X.A.units + 1 < cLine) (ho : PE X o td) (he : PE X e ty) (hf : PE X f tx) (m : M2 X o "setdefault" apos e f cpos) : PE X (.Call (.Attribute o "setdefault" apos) [e, f] [] cpos) (tDSetdT td ty tx) := by
  refine ⟨fun pins s σ H Q I h => ?_⟩
  refine wpAny_Call_method m.base m.few m.line PySem.F.plainAttrs_dict PySem.F.slot_dict_setdefault PySem.F.type_dict_setdefault (thn (ho.run pins s σ H _ I h) fun u s1 ⟨x, H1, I1, rx, a, ex, d, q1⟩ => ?_)
  subst ex
  obtain rfl : u = Value.ref a := rx
  obtain ⟨t1, t2, _⟩ := isD_at I1 d
  refine ⟨t1, t2, ?_⟩
  rw [m.trees]
  refine Calls.callWith_builtin rfl (Calls.evalArgs_plain (Calls.spliced_cons (thn (he.run pins s1 σ H1 _ I1 q1) fun iv s2 ⟨y, H2, I2, ry, q2⟩ =>
    Calls.spliced_cons (thn (hf.run pins s2 σ H2 _ I2 q2) fun fv s3 ⟨z, H3, I3, rz, kvs, k, b, ea, ey, eb, hl, q3, q4⟩ => Calls.spliced_nil ?_))))
  subst ey
  obtain rfl : iv = Value.ref b := ry
  exact d_setdT hu I3 ea eb rz hl (fun v hv w' s4 I4 rw' => ⟨v, _, I4, rw', q3 v hv⟩) fun hn w' s4 I4 rw' => ⟨z, _, I4, rw', q4 hn⟩
end
/-- {**m, k: v}, the keys ints and texts -/
def tDispS (tm tk tv : TE) : TE := fun σ H Q => ∀ p, H p = none → tm σ (upd H p (.dK [])) fun x H1 => ∃ a kvs, x = .ref a ∧ a ≠ p ∧ H1 p = some (.dK []) ∧ H1 a = some (.dK kvs) ∧ kvs.length < sizeLine ∧
  ∀ p2, upd H1 p (.dK kvs) p2 = none → tk σ (upd (upd H1 p (.dK kvs)) p2 (.dK [])) fun y H2 => tv σ H2 fun v H3 => ∃ key : Key, y = kV key ∧ H3 p = some (.dK kvs) ∧ H3 p2 = some (.dK []) ∧ Q (.ref p) (upd (upd H3 p2 (.dK [(key, v)])) p (.dK (putK kvs key v)))
section
variable {X : Cx} {m k v : Expr} {tm tk tv : TE} {pos : Pos}
theorem pe_dispS (hm : PE X m tm) (hk : PE X k tk) (hv : PE X v tv) : PE X (.Dict [none, some k] [m, v] pos) (tDispS tm tk tv) := by
  refine ⟨fun pins s σ H Q I q => ?_⟩
  rw [arm_eval_Dict]
  refine wpAny_bind (wpAny_standAt ?_)
  have hn := I.hok.fresh (Nat.le_refl s.heap.objs.size)
  have I1 := I.laid (a := s.heap.objs.size) (o := .dK []) (h' := s.heap.push { cls := .type "dict", data := .dict #[] }) (t' := s.toks) (fun _ _ q => Heap.get?_push_of_some _ q) (Nat.le_refl _) (dk_empty s.heap I.big)
  show wpAny _ _ (dictDisplay [(none, do let x ← eval m X.env; standAt pos; pure x), (some (eval k X.env), do let x ← eval v X.env; standAt pos; pure x)]) _ _ s
  refine Dm.wpAny_displayStar (knd := mixKind X.prog X.w) (wpAny_bind (thn (hm.run pins _ σ _ _ I1 (q _ hn)) fun mv s1 ⟨x, H1, I2, rx, a, kvs, ex, hap, hp, ha, hl, q1⟩ => wpAny_bind (wpAny_standAt (wpAny_pure ?_))))
  subst ex
  obtain rfl : mv = Value.ref a := rx
  obtain ⟨z, hd, vs, rel, dd⟩ := dk_of I2.hok ha
  obtain ⟨z0, hd0, vs0, r0, dd0⟩ := dk_of I2.hok hp
  cases r0
  have hlv : vs.length < sizeLine := by rw [← rel.length]; exact hl
  refine ⟨a, vs, rfl, hap.symm, hd, dd0, dd, hlv, fun h1 dd1 hs1 => ?_⟩
  have he1 : ∃ q, h1.get? s.heap.objs.size = some q := let ⟨q, _, _, hq, _⟩ := dd1; ⟨q, hq⟩
  have I3 := d_write (t' := s1.toks) I2 (by rw [hp]; exact True.intro) hs1 he1 (dk_new z hd0 rel dd1)
  have hn2 := I3.hok.fresh (Nat.le_refl _)
  have I4 := I3.laid (a := h1.objs.size) (o := .dK []) (h' := h1.push { cls := .type "dict", data := .dict #[] }) (t' := s1.toks) (fun _ _ q => Heap.get?_push_of_some _ q) (Nat.le_refl _) (dk_empty h1 I3.big)
  refine evalPairs_cons (thn (hk.run pins _ σ _ _ I4 (q1 _ hn2)) fun kv s2 ⟨y, H2, I5, ry, q2⟩ => wpAny_bind (thn (hv.run pins s2 σ H2 _ I5 q2) fun vv s3 ⟨x2, H3, I6, rv, key, ey, hp3, hp4, q3⟩ => wpAny_bind (wpAny_standAt (wpAny_pure (evalPairs_nil ?_)))))
  subst ey
  obtain ⟨z5, hd5, vs5, r5, dd5⟩ := dk_of I6.hok hp3
  obtain ⟨z6, hd6, vs6, r6, dd6⟩ := dk_of I6.hok hp4
  cases r6
  have ne12 : h1.objs.size ≠ s.heap.objs.size := fun e => by
    rw [e, upd_same] at hn2
    cases hn2
  have hz5 : vs5.length < sizeLine := by rw [← r5.length]; exact hl
  refine ⟨key, vv, vs5, hz5, ⟨kV_is ry, rfl, True.intro⟩, ne12, hd6, dd6, dd5, fun h2 dd7 hs2 h3 dd8 dd9 hs3 => ?_⟩
  have he2 : ∃ q, h2.get? h1.objs.size = some q := let ⟨q, _, _, hq, _⟩ := dd7; ⟨q, hq⟩
  have r7 : KV [(key, x2)] [(key, vv)] := .cons ⟨rfl, rv⟩ .nil
  have I7 := d_write (t' := s3.toks + 1) I6 (by rw [hp4]; exact True.intro) hs2 he2 (dk_new (by rw [sizeLine_eq]; simp only [List.length_cons, List.length_nil]; omega) hd6 r7 dd7)
  have he3 : ∃ q, h3.get? s.heap.objs.size = some q := let ⟨q, _, _, hq, _⟩ := dd8; ⟨q, hq⟩
  have hl2 : (putK kvs key x2).length ≤ sizeLine := by
    have := length_putK kvs key x2
    omega
  have I8 := d_write (t' := s3.toks + 1) I7 (by rw [upd_ne ne12.symm, hp3]; exact True.intro) hs3 he3 (dk_new hl2 hd5 (r5.put key rv) dd8)
  exact ⟨.ref s.heap.objs.size, _, I8, rfl, q3⟩
end
end Dz

namespace L62
open PySem PySem.Spec PyProof.Rows L2 Lw Lc Fm Fr Sm Pf
local macro_rules | `(tactic| walk_at "lw one") => `(tactic| first
  | with_reducible refine' g_seq ?_
  | with_reducible refine' g_asg ?_
  | ((with_reducible refine' g_nameN ?he ?_); case he => (simp only [List.set_cons_succ, List.set_cons_zero]; exact rfl))
  | with_reducible refine' g_name ?_
  | with_reducible refine' g_ret ?_
  | with_reducible refine' g_retN ?_
  | with_reducible refine' g_next ?_
  | with_reducible refine' g_drop ?_
  | with_reducible refine' g_ifS ?_
  | with_reducible refine' g_op ?_
  | with_reducible refine' g_c ?_
  | ((with_reducible refine' g_var ?hv ?_); case hv => exact rfl)
  | with_reducible refine' g_I0 ?_
  | ((with_reducible refine' g_I ?_ ?_); first | (show CMul _ _; first | exact Pf.cmul_mod (by decide) (by decide) | exact Pf.cmul_nn (by assumption) (by assumption) (by decide) | exact Or.inl ⟨by decide, by decide⟩ | exact Or.inl ⟨by omega, by omega⟩ | exact Or.inr ⟨by omega, by omega⟩ | exact Or.inr (Fm.knot_mul _ _ _ _)) | (show CDiv _ _; exact ⟨by omega, by omega⟩) | (show CDivW _ _; exact div_ok (by omega) (by omega)) | (show CPowW _ _; exact pow_ok (by decide +kernel)) | (show CPow _ _; exact ⟨by decide, by decide, by decide⟩) | (show (0 : Int) < _; first | omega | decide +kernel) | (show (0 : Int) ≤ _; omega) | assumption)
  | with_reducible refine' g_test ?_
  | with_reducible refine' g_B ?_
  | with_reducible refine' g_and ?_
  | with_reducible refine' g_or ?_
  | with_reducible refine' g_not ?_
  | with_reducible refine' g_andV ?_
  | with_reducible refine' g_orV ?_
  | with_reducible refine' g_notV ?_
  | with_reducible refine' g_if ?_
  | with_reducible refine' g_chain ?_
  | with_reducible refine' g_un ?_
  | with_reducible refine' g_U ?_
  | with_reducible refine' g_nil ?_
  | with_reducible refine' g_cons ?_
  | with_reducible refine' g_tup ?_
  | with_reducible refine' g_lst ?_
  | with_reducible refine' g_CB ?_
  | with_reducible refine' g_call ?_
  | with_reducible refine' g_callK ?_
  | with_reducible refine' g_bits ?_
  | with_reducible refine' g_sub ?_
  | with_reducible refine' g_for ?_
  | with_reducible refine' g_rng1 ?_
  | ((with_reducible refine' g_eq ?_ ?_); exact rfl)
  | ((with_reducible refine' g_ne ?_ ?_); exact rfl)
  | with_reducible refine' g_dget ?_
  | with_reducible refine' Pf.g_din ?_
  | with_reducible refine' Pf.g_star ?_
  | with_reducible refine' g_bm ?_
  | with_reducible refine' g_bm0 ?_
  | with_reducible refine' g_lc ?_
  | with_reducible refine' g_itup ?_
  | with_reducible refine' g_ilist ?_
  | with_reducible refine' g_sl ?_
  | with_reducible refine' g_part ?_
  | with_reducible refine' g_nopart ?_
  | with_reducible refine' g_gcons ?_
  | with_reducible refine' g_gnil ?_
  | with_reducible refine' g_dput ?_
  | with_reducible refine' g_bl ?_
  | ((with_reducible refine' iteSE ?_ ?_); exact rfl)
  | ((with_reducible refine' iteSN ?_ ?_); first | decide +kernel | exact Fm.word_ne (by decide +kernel) _)
  | with_reducible refine' g_int ?_
  | (with_reducible refine' iteNT ?_)
  | (with_reducible refine' iteNF ?_)
  | (with_reducible refine' iteT ?_)
  | (with_reducible refine' iteF ?_))
local macro_rules | `(tactic| walk_at "lw go") => `(tactic| repeat walk_at "lw one")
local macro_rules | `(tactic| walk_at "lw so") => `(tactic| first
  | with_reducible refine' g_asg ?_
  | ((with_reducible refine' g_nameN ?he ?_); case he => (simp only [List.set_cons_succ, List.set_cons_zero]; exact rfl))
  | with_reducible refine' g_name ?_
  | with_reducible refine' g_ret ?_
  | with_reducible refine' g_retN ?_
  | with_reducible refine' g_next ?_
  | with_reducible refine' g_drop ?_
  | with_reducible refine' g_ifS ?_
  | with_reducible refine' g_op ?_
  | with_reducible refine' g_c ?_
  | ((with_reducible refine' g_var ?hv ?_); case hv => exact rfl)
  | with_reducible refine' g_I0 ?_
  | ((with_reducible refine' g_I ?_ ?_); first | (show CMul _ _; first | exact Pf.cmul_mod (by decide) (by decide) | exact Pf.cmul_nn (by assumption) (by assumption) (by decide) | exact Or.inl ⟨by decide, by decide⟩ | exact Or.inl ⟨by omega, by omega⟩ | exact Or.inr ⟨by omega, by omega⟩ | exact Or.inr (Fm.knot_mul _ _ _ _)) | (show CDiv _ _; exact ⟨by omega, by omega⟩) | (show CDivW _ _; exact div_ok (by omega) (by omega)) | (show CPowW _ _; exact pow_ok (by decide +kernel)) | (show CPow _ _; exact ⟨by decide, by decide, by decide⟩) | (show (0 : Int) < _; first | omega | decide +kernel) | (show (0 : Int) ≤ _; omega) | assumption)
  | with_reducible refine' g_test ?_
  | with_reducible refine' g_B ?_
  | with_reducible refine' g_and ?_
  | with_reducible refine' g_or ?_
  | with_reducible refine' g_not ?_
  | with_reducible refine' g_andV ?_
  | with_reducible refine' g_orV ?_
  | with_reducible refine' g_notV ?_
  | with_reducible refine' g_if ?_
  | with_reducible refine' g_chain ?_
  | with_reducible refine' g_un ?_
  | with_reducible refine' g_U ?_
  | with_reducible refine' g_nil ?_
  | with_reducible refine' g_cons ?_
  | with_reducible refine' g_tup ?_
  | with_reducible refine' g_lst ?_
  | with_reducible refine' g_CB ?_
  | with_reducible refine' g_call ?_
  | with_reducible refine' g_callK ?_
  | with_reducible refine' g_bits ?_
  | with_reducible refine' g_sub ?_
  | with_reducible refine' g_for ?_
  | with_reducible refine' g_rng1 ?_
  | ((with_reducible refine' g_eq ?_ ?_); exact rfl)
  | ((with_reducible refine' g_ne ?_ ?_); exact rfl)
  | with_reducible refine' g_dget ?_
  | with_reducible refine' Pf.g_din ?_
  | with_reducible refine' Pf.g_star ?_
  | with_reducible refine' g_bm ?_
  | with_reducible refine' g_bm0 ?_
  | with_reducible refine' g_lc ?_
  | with_reducible refine' g_itup ?_
  | with_reducible refine' g_ilist ?_
  | with_reducible refine' g_sl ?_
  | with_reducible refine' g_part ?_
  | with_reducible refine' g_nopart ?_
  | with_reducible refine' g_gcons ?_
  | with_reducible refine' g_gnil ?_
  | with_reducible refine' g_dput ?_
  | with_reducible refine' g_bl ?_
  | ((with_reducible refine' iteSE ?_ ?_); exact rfl)
  | ((with_reducible refine' iteSN ?_ ?_); first | decide +kernel | exact Fm.word_ne (by decide +kernel) _)
  | with_reducible refine' g_int ?_
  | (with_reducible refine' iteNT ?_)
  | (with_reducible refine' iteNF ?_)
  | (with_reducible refine' iteT ?_)
  | (with_reducible refine' iteF ?_))
local macro_rules | `(tactic| walk_at "lw st") => `(tactic| repeat walk_at "lw so")
local macro_rules | `(tactic| walk_at "lw i0") => `(tactic| refine' g_cast (by (simp only [L2.start, List.map_cons, List.map_nil, List.length_cons, List.length_nil, List.replicate_succ, List.replicate_zero, List.cons_append, List.nil_append, Nat.reduceAdd, Nat.reduceSub, Nat.sub_self]; exact rfl)) ?_)
local macro_rules | `(tactic| walk_at "lw ns") => `(tactic| simp only [List.set_cons_succ, List.set_cons_zero])
abbrev FnP (K : PySem.W.Frag) (x : Str) (st : Stmt) (f : Addr) (fd : FuncData) : Prop := FunD K x x (defArgs st) (defBody st) (defScope st) [] [] f fd
structure Bi (mg : Str → Option Value) : Prop where
  isinstance : mg "isinstance" = none
  int : mg "int" = none
  bool : mg "bool" = none
  str : mg "str" = none
  len : mg "len" = none
  tuple : mg "tuple" = none
  max : mg "max" = none
  min : mg "min" = none
  enumerate : mg "enumerate" = none
  list : mg "list" = none
  range : mg "range" = none
  zip : mg "zip" = none
  reversed : mg "reversed" = none
  abs : mg "abs" = none
  sum : mg "sum" = none
structure Kn (w : World) (K : PySem.W.Frag) (mg : Str → Option Value) : Prop where
  c_EDGE : ∃ t, mg "EDGE" = some (.int (1000000) t)
  g_ALL_POINTS : mg "ALL_POINTS" = some (.ref (He.ga K "ALL_POINTS"))
  v_ALL_POINTS : ∀ H : Hp, SqT K H (He.ga K "ALL_POINTS") [V.int (-1000000), V.int (-1000000), V.int (1000000), V.int (1000000)]
  c_LONGEST_NAME : ∃ t, mg "LONGEST_NAME" = some (.int (8) t)
  c_FAR : ∃ t, mg "FAR" = some (.int (3) t)
  c_FARTHEST : ∃ t, mg "FARTHEST" = some (.int (8) t)
  c_MOST_POINTS : ∃ t, mg "MOST_POINTS" = some (.int (1024) t)
  c_MOST_SQUARES : ∃ t, mg "MOST_SQUARES" = some (.int (64) t)
  c_GREATEST_KNOT : ∃ t, mg "GREATEST_KNOT" = some (.int (65535) t)
  c_MOST_FIELDS : ∃ t, mg "MOST_FIELDS" = some (.int (200) t)
  c_GREATEST_VALUE : ∃ t, mg "GREATEST_VALUE" = some (.int (1000000000000000000000000000000) t)
  c_BEYOND : ∃ t, mg "BEYOND" = some (.int (1000000000000000000000000000001) t)
  g_PAIRS : mg "PAIRS" = some (.ref (He.ga K "PAIRS"))
  v_PAIRS : ∀ H : Hp, SqT K H (He.ga K "PAIRS") [V.str "plus", V.str "less", V.str "times", V.str "least", V.str "most"]
  g_PLACE : mg "PLACE" = some (.ref (He.ga K "PLACE"))
  v_PLACE : ∀ H : Hp, SqT K H (He.ga K "PLACE") [V.int (1), V.int (1200000)]
  g_NOISE : mg "NOISE" = some (.ref (He.ga K "NOISE"))
  v_NOISE : ∀ H : Hp, SqT K H (He.ga K "NOISE") [V.int (1), V.int (65535)]
  c_GREATEST_NUMBER : ∃ t, mg "GREATEST_NUMBER" = some (.int (999999999) t)
  c_FARTHEST_COPY : ∃ t, mg "FARTHEST_COPY" = some (.int (1000) t)
  g_SHAPES_edits : mg "SHAPES_edits" = some (.ref (He.ga K "SHAPES_edits"))
  t_SHAPES_edits : Ki.TabI K w (He.ga K "SHAPES_edits") [("set", (3)), ("raise", (3)), ("least", (3)), ("most", (3)), ("field", (3)), ("copy", (4))] []
  c_MEMORY : ∃ t, mg "MEMORY" = some (.int (64) t)
  c_GREATEST_MEMORY : ∃ t, mg "GREATEST_MEMORY" = some (.int (1000) t)
  c_MOST_EDITS : ∃ t, mg "MOST_EDITS" = some (.int (60) t)
  cl_Land : Cls K (He.ga K "Land")
  na_Land__steps : NoAttr K (He.ga K "Land") "_steps"
  na_Land__rules : NoAttr K (He.ga K "Land") "_rules"
  na_Land__seed : NoAttr K (He.ga K "Land") "_seed"
  na_Land__bound : NoAttr K (He.ga K "Land") "_bound"
  na_Land__standing : NoAttr K (He.ga K "Land") "_standing"
  na_Land__layers : NoAttr K (He.ga K "Land") "_layers"
  na_Land__next : NoAttr K (He.ga K "Land") "_next"
  na_Land__done : NoAttr K (He.ga K "Land") "_done"
  na_Land__undone : NoAttr K (He.ga K "Land") "_undone"
  na_Land__known : NoAttr K (He.ga K "Land") "_known"
  na_Land__tiles : NoAttr K (He.ga K "Land") "_tiles"
  na_Land__squares : NoAttr K (He.ga K "Land") "_squares"
  na_Land__tables : NoAttr K (He.ga K "Land") "_tables"
  cl_Memory : Cls K (He.ga K "Memory")
  na_Memory_bound : NoAttr K (He.ga K "Memory") "bound"
  na_Memory_held : NoAttr K (He.ga K "Memory") "held"
theorem pe_gI {X : Cx} {x : Str} {i : Int} {pos : Pos} (hg : Gl X x) (h : ∃ t, X.mg x = some (.int i t)) (hd : (x == ("__debug__" : Str)) = false := by decide) : PE X (.Name x pos) (tC (.int i)) := by
  obtain ⟨t, e⟩ := h
  exact pe_glob hg e ⟨t, rfl⟩ hd
theorem pe_gR {X : Cx} {x : Str} {a : Addr} {pos : Pos} (hg : Gl X x) (h : X.mg x = some (.ref a)) (hd : (x == ("__debug__" : Str)) = false := by decide) : PE X (.Name x pos) (tC (.ref a)) := pe_glob (v := .ref a) hg h rfl hd

/-! ### knots, drawn numbers -/
theorem bl_of {b : Bool} {Q : VK} {H : Hp} (h : b = true) (q : Q (.bl true) H) : Q (.bl b) H := by
  rw [h]
  exact q
def spKnot : Sp := fun vs H Q _ => ∃ a b c d : Int, vs = [.int a, .int b, .int c, .int d] ∧ Q (.int (knotL a b c d)) H
def spAt (K : PySem.W.Frag) : Sp := fun vs H Q _ => ∃ (a : Addr) (ns : List Int) (k : Int), vs = [.ref a, .int k] ∧ SqL K H a (ns.map V.int) ∧ 0 ≤ k ∧ ∀ n : Int, Q (.int n) H
def spMixed : Sp := fun vs H Q _ => ∃ (a k : Int), vs = [.int a, .int k] ∧ 0 ≤ k ∧ k < 2 ^ 64 ∧ ∀ n : Int, Q (.int n) H
/-- a purse: two numbers and a count of at most m -/
structure Purse (m : Int) (o : HO) : Prop where
  ex : ∃ a b c : Int, o = .lst [.int a, .int b, .int c] ∧ 0 ≤ c ∧ c ≤ m
theorem Purse.mono {m m' : Int} {o : HO} (h : Purse m o) (l : m ≤ m') : Purse m' o := by
  obtain ⟨a, b, c, e, c0, c1⟩ := h.ex
  exact ⟨a, b, c, e, c0, by omega⟩
def spPurse (K : PySem.W.Frag) : Sp := fun vs H Q _ => ∃ (a : Addr) (ns : List Int) (k : Int), vs = [.ref a, .int k] ∧ SqL K H a (ns.map V.int) ∧ 0 ≤ k ∧ k ≤ 64 ∧ ∀ p o, H p = none → Purse 64000 o → Q (.ref p) (upd H p o)
def spDraw : Sp := fun vs H Q _ => ∃ (p : Addr) (n m : Int) (o : HO), vs = [.ref p, .int n] ∧ H p = some o ∧ Purse m o ∧ m ≤ 1000000000000000 ∧ 0 < n ∧ n ≤ 1000000000000000000000000000000 ∧
  ∀ (d : Int) (o' : HO), 0 ≤ d → d < n → Purse (m + 4) o' → Q (.int d) (upd H p o')
def spWhole : Sp := fun vs H Q _ => ∃ n : Int, vs = [.int n] ∧ Q (.bl true) H
/-- a def that draws a number from lo to hi from the purse -/
def spNum (lo hi : Int) : Sp := fun vs H Q _ => ∃ (p : Addr) (m : Int) (o : HO), vs = [.ref p] ∧ H p = some o ∧ Purse m o ∧ m ≤ 100000000000000 ∧
  ∀ (g : Int) (o' : HO) (H' : Hp), lo ≤ g → g ≤ hi → Keep p H H' → H' p = some o' → Purse (m + 12) o' → Q (.int g) H'
/-! ### the program: knots, noise -/
def spFour : Sp := fun vs H Q _ => ∃ g s i j : Int, vs = [.int g, .int s, .int i, .int j] ∧ ∀ p, H p = none → Q (.ref p) (upd H p (.tup (fourV g s i j)))
def spNV : Sp := fun vs H Q _ => ∃ g s l x z : Int, vs = [.int g, .int s, .int l, .int x, .int z, .non] ∧ 0 ≤ l ∧ l ≤ 8 ∧ ∀ H', Same H H' → Q (.int (noiseL g s l x z)) H'
/-! ### the program: values of steps -/
def spRun (K : PySem.W.Frag) : Sp := fun vs H Q _ => ∃ (a : Addr) (ws : List V) (st : List Stp) (g x z : Int), vs = [.ref a, .int g, .int x, .int z, .non] ∧ SqL K H a ws ∧ StepsR H ws st ∧ Ok st ∧ OkSs st ∧ Szd g x z 200000 st ∧ st ≠ [] ∧ st.length ≤ 1000 ∧
  ∀ H', Same H H' → Q (.int (((valA g x z).run st).getD (st.length - 1) 0)) H'
theorem at_ints {xs : List Int} {j : Nat} (h : j < xs.length) : atI (xs.map V.int) (j : Int) = some (.int (xs.getD j 0)) := by
  refine atI_nat ?_
  rw [List.getElem?_map, List.getElem?_eq_getElem h]
  simp [List.getD, List.getElem?_eq_getElem h]
theorem at_last {xs : List Int} {n : Nat} (h : xs.length = n + 1) : atI (xs.map V.int) (-1) = some (.int (xs.getD n 0)) := by
  have e : atI (xs.map V.int) (-1) = (xs.map V.int)[n]? := by
    unfold atI ixN
    rw [List.length_map, h]
    have e2 : ((-1 : Int) + ((n + 1 : Nat) : Int)).toNat = n := by omega
    simp
    rw [if_pos (by omega)]
    have e3 : (-1 + ((n : Int) + 1)).toNat = n := by omega
    simp [e3]
  rw [e, List.getElem?_map, List.getElem?_eq_getElem (by omega)]
  simp [List.getD, List.getElem?_eq_getElem (show n < xs.length by omega)]
/-! ### the program: weights -/
def spFrom : Sp := fun vs H Q _ => ∃ a lo hi : Int, vs = [.int a, .int lo, .int hi] ∧ lo ≤ a ∧ a ≤ hi ∧ Q (.bl true) H
def spName : Sp := fun vs H Q _ => ∃ x : Str, vs = [.str x] ∧ NameOk x ∧ Q (.bl true) H
theorem small_sign : ∀ c : Nat, 97 ≤ c → c ≤ 122 → (Unicode.isAlpha c && (Unicode.isLower c && (!Unicode.isUpper c && (!Unicode.isTitle c && decide (c < 128))))) = true := by
  intro c h0 h1
  rcases (show c = 97 ∨ c = 98 ∨ c = 99 ∨ c = 100 ∨ c = 101 ∨ c = 102 ∨ c = 103 ∨ c = 104 ∨ c = 105 ∨ c = 106 ∨ c = 107 ∨ c = 108 ∨ c = 109 ∨ c = 110 ∨ c = 111 ∨ c = 112 ∨ c = 113 ∨ c = 114 ∨ c = 115 ∨ c = 116 ∨ c = 117 ∨ c = 118 ∨ c = 119 ∨ c = 120 ∨ c = 121 ∨ c = 122 by omega) with rfl | rfl | rfl | rfl | rfl | rfl | rfl | rfl | rfl | rfl | rfl | rfl | rfl | rfl | rfl | rfl | rfl | rfl | rfl | rfl | rfl | rfl | rfl | rfl | rfl | rfl <;> decide +kernel
theorem name_signs {x : Str} (h : NameOk x) : Txt.isascii x = true ∧ Txt.isalpha x = true ∧ Txt.islower x = true := by
  have hs : ∀ c ∈ x.cps, Unicode.isAlpha c = true ∧ Unicode.isLower c = true ∧ Unicode.isUpper c = false ∧ Unicode.isTitle c = false ∧ c < 128 := fun c hc => by
    have b := h.2.2 c (by simpa using hc)
    have e := small_sign c b.1 b.2
    simp only [Bool.and_eq_true, Bool.not_eq_true', decide_eq_true_eq] at e
    exact ⟨e.1, e.2.1, e.2.2.1, e.2.2.2.1, e.2.2.2.2⟩
  have hl : 0 < x.length := h.1
  have hz : 0 < x.cps.size := hl
  refine ⟨?_, ?_, ?_⟩
  · unfold Txt.isascii
    rw [Array.all_eq_true']
    intro c hc
    exact decide_eq_true (hs c hc).2.2.2.2
  · unfold Txt.isalpha
    rw [Bool.and_eq_true]
    refine ⟨decide_eq_true hl, ?_⟩
    rw [Array.all_eq_true']
    intro c hc
    exact (hs c hc).1
  · unfold Txt.islower
    rw [Bool.and_eq_true]
    refine ⟨?_, ?_⟩
    · rw [Array.any_eq_true']
      exact ⟨x.cps[0], Array.getElem_mem hz, (hs _ (Array.getElem_mem hz)).2.1⟩
    · rw [Bool.not_eq_true', Bool.eq_false_iff]
      intro e
      rw [Array.any_eq_true'] at e
      obtain ⟨c, hc, e⟩ := e
      have b := hs c hc
      rw [b.2.2.1, b.2.2.2.1] at e
      cases e
/-- hands back a weight -/
def WTo (K : PySem.W.Frag) (H : Hp) (Q : VK) (e : Ex) : Prop := ∀ p H', Same H H' → SqT K H' p [.int (cn e : Nat), .int (grE e)] → Q (.ref p) H'
def spW (K : PySem.W.Frag) (n : Nat) : Sp := fun vs H Q _ => ∃ (u : V) (F : Fd) (d : Addr) (r : Fm.Env), vs = [u, .ref d] ∧ FRep F H u ∧ dep F + 1 ≤ n ∧ OkF F ∧ Bnd F (r.map (·.1)) ∧ OkR r ∧ WEnv K H d r ∧ Cok F r ∧ cn (expand F r) ≤ 1000000000000000000000000000000 ∧ r.length + n ≤ 1000 ∧ WTo K H Q (expand F r)
def longF : Fd → Prop
  | .bel _ _ _ _ => True
  | .shift _ _ _ => True
  | .lt _ _ _ => True
  | _ => False
def spWL (K : PySem.W.Frag) (n : Nat) : Sp := fun vs H Q _ => ∃ (u : V) (F : Fd) (d : Addr) (r : Fm.Env), vs = [u, .ref d] ∧ longF F ∧ FRep F H u ∧ dep F ≤ n ∧ OkF F ∧ Bnd F (r.map (·.1)) ∧ OkR r ∧ WEnv K H d r ∧ Cok F r ∧ cn (expand F r) ≤ 1000000000000000000000000000000 ∧ r.length + n ≤ 999 ∧ WTo K H Q (expand F r)
theorem WTo.new {K : PySem.W.Frag} {H : Hp} {Q : VK} {e : Ex} {a b : Int} (q : WTo K H Q e) (e1 : a = (cn e : Nat)) (e2 : b = grE e) {H1 : Hp} (s : Same H H1) : [V.int a, V.int b].length ≤ sizeLine ∧ ∀ p, H1 p = none → Q (.ref p) (upd H1 p (.tup [.int a, .int b])) := by
  subst e1 e2
  exact ⟨by show 2 ≤ sizeLine; decide, fun p hp => q p _ (s.trans (same_new hp)) (SqT.of upd_same)⟩
theorem WTo.later {K : PySem.W.Frag} {H H1 : Hp} {Q : VK} {e : Ex} (q : WTo K H Q e) (s : Same H H1) : WTo K H1 Q e := fun p H' s' h => q p H' (s.trans s') h
theorem pairs_word (w : W2) : inV (.str w.word) [V.str "plus", V.str "less", V.str "times", V.str "least", V.str "most"] = true := by cases w <;> decide +kernel
theorem none_back {H H' : Hp} {i i2 : Addr} {o : HO} (hi : H i = none) (s : Same H H') (h : H' i2 = none) : H i2 = none := by
  cases e : H i2 with
  | none => rfl
  | some u => rw [s _ _ e] at h; cases h
theorem sqT_put {K : PySem.W.Frag} {H : Hp} {p a : Addr} {xs : List V} {kvs : List (Key × V)} {o : HO} (h : SqT K H p xs) (ha : H a = some (.dK kvs)) : SqT K (upd H a o) p xs := by
  rcases h with (h | ⟨o', h⟩) | h
  · exact .inl (.inl (by rw [upd_ne (ne_of h ha (by intro z; cases z))]; exact h))
  · exact .inl (.inr ⟨o', by rw [upd_ne (ne_of h ha (by intro z; cases z))]; exact h⟩)
  · exact .inr h
/-! ### the program: steps -/
/-- rules that are told as they are: closed, within their bounds, not too great -/
structure Good (F : Fd) : Prop where
  bnd : Bnd F []
  ok : OkF F
  dep : dep F ≤ 18
  ud : udep F [] ≤ 59
  cok : Cok F []
  cn : cn (expand F []) ≤ 200
  vb : vb (expand F []) 40 ≤ 200000
  rng : ∀ p ∈ allE wideN (expand F []) (-1000000) (-1000000) 1000000 1000000, -1000000000000000000000000000000 ≤ p.1 ∧ p.2 ≤ 1000000000000000000000000000000
def spGr : Sp := fun vs H Q _ => ∃ (u : V) (F : Fd), vs = [u] ∧ FRep F H u ∧ Good F ∧ ∀ H', Same H H' → Q (.int (grE (expand F []))) H'
/-- hands back a step's number; the steps made so far stand at mk -/
def NTo (H : Hp) (Q : VK) (mk : Addr) (R : List Stp × Nat) : Prop := ∀ H', Keep mk H H' → H' mk = some (.dT (mkKV R.1)) → Q (.int (R.2 : Int)) H'
def spPlaced (n : Nat) : Sp := fun vs H Q _ => ∃ (u : V) (F : Fd) (dx dz : Int) (d mk : Addr) (m : Nat) (r : Fm.Env) (δ : List (Str × Nat)) (st : List Stp), vs = [u, .int dx, .int dz, .ref d, .ref mk] ∧ FRep F H u ∧ EnvR m H d r δ ∧ Bnd F (r.map (·.1)) ∧ udep F δ ≤ n ∧
  H mk = some (.dT (mkKV st)) ∧ st.length + cn (expand F r) ≤ 900 ∧ r.length + udep F δ ≤ 900 ∧ NTo H Q mk (into (expand F r) dx dz st)
theorem spPlaced_zero {vs : List V} {H : Hp} {Q : VK} {E : XK} (h : spPlaced 0 vs H Q E) : False := by
  obtain ⟨u, F, dx, dz, d, mk, m, r, δ, st, _, _, _, _, h, _⟩ := h
  have : ∀ (F : Fd) (δ : List (Str × Nat)), 1 ≤ udep F δ := fun F δ => by cases F <;> simp only [udep] <;> omega
  have := this F δ
  omega
/-! ### the program: ranges over all points, the steps of rules -/
/-- a box so wide that noise has many squares in it, also where shifts put it -/
structure WideB (x0 z0 x1 z1 : Int) : Prop where
  wx : 1000000 ≤ x1 - x0
  wz : 1000000 ≤ z1 - z0
  bx : x1 - x0 ≤ 1000000000
theorem x_small {x0 z0 x1 z1 S : Int} (h : WideB x0 z0 x1 z1) (S0 : 0 < S) (S1 : S ≤ 256) : -1000001000 ≤ x1 / S - x0 / S ∧ x1 / S - x0 / S ≤ 1000001000 := by
  have e1 := Int.mul_ediv_add_emod x1 S
  have e2 := Int.mul_ediv_add_emod x0 S
  have m1 := Int.emod_lt_of_pos x1 S0
  have m0 := Int.emod_nonneg x0 (show S ≠ 0 by omega)
  have m2 := Int.emod_lt_of_pos x0 S0
  have m3 := Int.emod_nonneg x1 (show S ≠ 0 by omega)
  have d : S * (x1 / S - x0 / S) = S * (x1 / S) - S * (x0 / S) := Int.mul_sub S _ _
  have hx := h.bx
  have hw := h.wx
  constructor
  · rcases Int.lt_or_le (x1 / S - x0 / S) (-1000001000) with hlt | hge
    · exfalso
      have : S * (x1 / S - x0 / S) ≤ 1 * (-1000001000) := Int.le_trans (Int.mul_le_mul_of_nonneg_left (by omega : x1 / S - x0 / S ≤ -1000001000) (by omega)) (Int.mul_le_mul_of_nonpos_right (by omega) (by decide))
      omega
    · exact hge
  · rcases Int.lt_or_le 1000001000 (x1 / S - x0 / S) with hlt | hge
    · exfalso
      have : 1 * (x1 / S - x0 / S) ≤ S * (x1 / S - x0 / S) := Int.mul_le_mul_of_nonneg_right (by omega) (by omega)
      omega
    · exact hge
abbrev Pr (H : Hp) (p : Addr) (ab : Int × Int) : Prop := H p = some (.tup [.int ab.1, .int ab.2])
def PrTo (H : Hp) (Q : VK) (ab : Int × Int) : Prop := ∀ p H', Same H H' → Pr H' p ab → Q (.ref p) H'
theorem PrTo.new {H : Hp} {Q : VK} {ab : Int × Int} {a b : Int} (q : PrTo H Q ab) (e1 : a = ab.1) (e2 : b = ab.2) {H1 : Hp} (s : Same H H1) : [V.int a, V.int b].length ≤ sizeLine ∧ ∀ p, H1 p = none → Q (.ref p) (upd H1 p (.tup [.int a, .int b])) := by
  subst e1 e2
  exact ⟨by show 2 ≤ sizeLine; decide, fun p hp => q p _ (s.trans (same_new hp)) upd_same⟩
def spNRg : Sp := fun vs H Q _ => ∃ (g s l x0 z0 x1 z1 : Int) (b : Addr), vs = [.int g, .int s, .int l, .ref b] ∧ 0 ≤ l ∧ l ≤ 8 ∧ H b = some (.tup [.int x0, .int z0, .int x1, .int z1]) ∧ WideB x0 z0 x1 z1 ∧ PrTo H Q (0, 65535)
def spJoin : Sp := fun vs H Q _ => ∃ (w : W2) (p1 p2 : Addr) (a b : Int × Int), vs = [.str w.word, .ref p1, .ref p2] ∧ Pr H p1 a ∧ Pr H p2 b ∧ (w = .times → CMulW a.1 b.1 ∧ CMulW a.1 b.2 ∧ CMulW a.2 b.1 ∧ CMulW a.2 b.2) ∧ PrTo H Q (w.rng a b)
def spBelw : Sp := fun vs H Q _ => ∃ (l p1 p2 p3 p4 : Addr) (a b c d : Int × Int), vs = [.ref l] ∧ H l = some (.lst [.ref p1, .ref p2, .ref p3, .ref p4]) ∧ Pr H p1 a ∧ Pr H p2 b ∧ Pr H p3 c ∧ Pr H p4 d ∧ PrTo H Q (belR a b c d)
theorem rng_one (N : NR) (x0 z0 x1 z1 : Int) (s : Stp) (vs : List (Int × Int)) : True := True.intro
/-- all ranges are less than B bits long -/
def SzR (N : NR) (x0 z0 x1 z1 : Int) (B : Nat) (st : List Stp) : Prop := ∀ i, i < st.length → B2 (((rngA N x0 z0 x1 z1).run st).getD i (0, 0)) B
def spRgs (K : PySem.W.Frag) : Sp := fun vs H Q _ => ∃ (a b : Addr) (ws : List V) (st : List Stp) (g x0 z0 x1 z1 : Int), vs = [.ref a, .int g, .ref b] ∧ SqL K H a ws ∧ StepsR H ws st ∧ Ok st ∧ OkSs st ∧ SqT K H b [.int x0, .int z0, .int x1, .int z1] ∧ WideB x0 z0 x1 z1 ∧ SzR wideN x0 z0 x1 z1 200000 st ∧ st.length ≤ 1000 ∧
  ∀ l H' vs', Same H H' → H' l = some (.lst vs') → PairsR H' vs' ((rngA wideN x0 z0 x1 z1).run st) → Q (.ref l) H'
def spMust (K : PySem.W.Frag) : Sp := fun vs H Q _ => ∃ (a : Addr) (ws : List V) (st : List Stp), vs = [.ref a] ∧ SqL K H a ws ∧ StepsR H ws st ∧ Ok st ∧ OkSs st ∧ SzR wideN (-1000000) (-1000000) 1000000 1000000 200000 st ∧ st.length ≤ 1000 ∧
  AllP wideN (-1000000) (-1000000) 1000000 1000000 (fun p => -1000000000000000000000000000000 ≤ p.1 ∧ p.2 ≤ 1000000000000000000000000000000) st ∧ ∀ H', Same H H' → Q .non H'
def spSteps : Sp := fun vs H Q _ => ∃ (u : V) (F : Fd), vs = [u] ∧ FRep F H u ∧ Good F ∧ ∀ l H' ws, H l = none → Same H H' → H' l = some (.lst ws) → StepsR H' ws (stepsE (expand F [])) → Q (.ref l) H'
def spRunS (K : PySem.W.Frag) : Sp := fun vs H Q _ => ∃ (a : Addr) (ws : List V) (st : List Stp) (g x z : Int), vs = [.ref a, .int g, .int x, .int z] ∧ SqL K H a ws ∧ StepsR H ws st ∧ Ok st ∧ OkSs st ∧ Szd g x z 200000 st ∧ st ≠ [] ∧ st.length ≤ 1000 ∧
  ∀ H', Same H H' → Q (.int (((valA g x z).run st).getD (st.length - 1) 0)) H'
/-! ### the program: points, values of rules -/
def spPt : Sp := fun vs H Q _ => ∃ x z : Int, vs = [.int x, .int z] ∧ -1000000 ≤ x ∧ x ≤ 1000000 ∧ -1000000 ≤ z ∧ z ≤ 1000000 ∧ Q (.bl true) H
def spMustPt : Sp := fun vs H Q _ => ∃ x z : Int, vs = [.int x, .int z] ∧ -1000000 ≤ x ∧ x ≤ 1000000 ∧ -1000000 ≤ z ∧ z ≤ 1000000 ∧ Q .non H
/-- the value of rules that are told as they are -/
def spVal : Sp := fun vs H Q _ => ∃ (u : V) (F : Fd) (g x z : Int), vs = [u, .int g, .int x, .int z] ∧ FRep F H u ∧ Good F ∧ -1000000 ≤ x ∧ x ≤ 1000000 ∧ -1000000 ≤ z ∧ z ≤ 1000000 ∧ ∀ H', Same H H' → Q (.int (valE (expand F []) g x z)) H'
theorem small_pt {x : Int} (h : -1000000 ≤ x) (h2 : x ≤ 1000000) : x.natAbs < 2 ^ 40 := by
  have e : (2 : Nat) ^ 40 = 1099511627776 := by decide
  rw [e]
  omega
structure StV (F : Fd) (g x z : Int) (st : List Stp) : Prop where
  ok : Ok st
  oks : OkSs st
  szd : Szd g x z 200000 st
  ne : st ≠ []
  len : st.length ≤ 1000
  val : ((valA g x z).run st).getD (st.length - 1) 0 = valE (expand F []) g x z
theorem stV {F : Fd} (hG : Good F) {g x z : Int} (bx : x.natAbs < 2 ^ 40) (bz : z.natAbs < 2 ^ 40) : StV F g x z (stepsE (expand F [])) := by
  have hcn := hG.cn
  have ok0 : OkE (expand F []) := ok_expand F [] hG.ok okR_nil
  have io := into_ok (expand F []) 0 0 []
  obtain ⟨st, est⟩ : ∃ st, stepsE (expand F []) = st := ⟨_, rfl⟩
  have htop : (into (expand F []) 0 0 []).2 + 1 = st.length := by
    rw [← est]
    rcases into_top (expand F []) 0 0 [] ok_nil with h | h
    · have := io.lt
      rw [h] at this
      exact absurd this (Nat.not_lt_zero _)
    · exact h
  rw [est]
  refine ⟨by rw [← est]; exact io.ok ok_nil, by rw [← est]; exact okS_into _ 0 0 [] ok0 (fun s hs => (nomatch hs)), ?_, ?_, ?_, ?_⟩
  · rw [← est]
    exact szd_into (expand F []) g x z 0 0 40 200000 [] ok0 ok_nil (by decide) (by rw [Int.add_zero]; exact bx) (by rw [Int.add_zero]; exact bz) hG.vb (szd_nil _ _ _ _)
  · intro e
    rw [e] at htop
    simp at htop
  · have := io.len
    simp only [List.length_nil] at this
    rw [← est]
    show (into (expand F []) 0 0 []).1.length ≤ 1000
    omega
  · have := io.val ok_nil (valA g x z)
    rw [fold_val, Int.add_zero, Int.add_zero] at this
    rw [← this, show st.length - 1 = (into (expand F []) 0 0 []).2 by omega, ← est]
    rfl
def onBox (x0 z0 x1 z1 : Int) : Prop := (-1000000 ≤ x0 ∧ x0 ≤ x1 ∧ x1 ≤ 1000000) ∧ (-1000000 ≤ z0 ∧ z0 ≤ z1 ∧ z1 ≤ 1000000)

def spIsBox : Sp := fun vs H Q _ => ∃ (p : Addr) (x0 z0 x1 z1 : Int), vs = [.ref p] ∧ H p = some (.tup [.int x0, .int z0, .int x1, .int z1]) ∧ onBox x0 z0 x1 z1 ∧ Q (.bl true) H
def spMustBox : Sp := fun vs H Q _ => ∃ (p : Addr) (x0 z0 x1 z1 : Int), vs = [.ref p] ∧ H p = some (.tup [.int x0, .int z0, .int x1, .int z1]) ∧ onBox x0 z0 x1 z1 ∧ Q .non H
theorem small_size {n : Nat} (h : n ≤ 3000000) : n ≤ sizeLine := by
  rw [sizeLine_eq]
  omega
def LTo (H : Hp) (Q : VK) (ns : List Int) : Prop := ∀ l H', H l = none → Same H H' → H' l = some (.lst (ns.map V.int)) → Q (.ref l) H'
theorem knot_row_eq (g s i j : Int) : knotL g s i j = ((((((g + 48271 * s + 7) % 2147483647 * ((g + 48271 * s + 7) % 2147483647) + 69621 * i + 1) % 2147483629) * (((g + 48271 * s + 7) % 2147483647 * ((g + 48271 * s + 7) % 2147483647) + 69621 * i + 1) % 2147483629) + 1 + 16807 * j) % 2147483587) * (((((g + 48271 * s + 7) % 2147483647 * ((g + 48271 * s + 7) % 2147483647) + 69621 * i + 1) % 2147483629) * (((g + 48271 * s + 7) % 2147483647 * ((g + 48271 * s + 7) % 2147483647) + 69621 * i + 1) % 2147483629) + 1 + 16807 * j) % 2147483587) + ((((g + 48271 * s + 7) % 2147483647 * ((g + 48271 * s + 7) % 2147483647) + 69621 * i + 1) % 2147483629) * (((g + 48271 * s + 7) % 2147483647 * ((g + 48271 * s + 7) % 2147483647) + 69621 * i + 1) % 2147483629) + 1 + 16807 * j) % 2147483587) % 2147483579 % 65536 := by
  unfold knotL Fm.kD Fm.kC Fm.kB Fm.kA
  generalize ((g + 48271 * s + 7) % 2147483647 * ((g + 48271 * s + 7) % 2147483647) + 69621 * i + 1) % 2147483629 = B
  rw [show B * B + 16807 * j + 1 = B * B + 1 + 16807 * j by omega]
def spKrow : Sp := fun vs H Q _ => ∃ (g s i : Int) (pl : Addr) (ps : List Int), vs = [.int g, .int s, .int i, .ref pl] ∧ H pl = some (.lst (ps.map V.int)) ∧ ps.length ≤ 1000 ∧ LTo H Q (ps.map fun j => knotL g s i j)
/-! ### instances of Memory and Land -/
/-- a Memory that keeps nothing yet -/
def Mem0 (K : PySem.W.Frag) (H : Hp) (a : Addr) (b : Int) : Prop := ∃ dx d, H a = some (.ins (He.ga K "Memory") dx [("bound", .int b), ("held", .ref d)]) ∧ H d = some (.dK [])
def spMem (K : PySem.W.Frag) : Sp := fun vs H Q _ => ∃ (a dx : Addr) (b : Int), vs = [.ref a, .int b] ∧ H a = some (.ins (He.ga K "Memory") dx []) ∧ ∀ H', Keep a H H' → Mem0 K H' a b → Q .non H'
/-- a Land as it is made: no edits, nothing kept -/
structure Land0 (K : PySem.W.Frag) (H : Hp) (a : Addr) (u : V) (F : Fd) (s b : Int) (dx t e1 e2 l1 l2 dk m1 m2 m3 : Addr) (ws : List V) : Prop where
  own : H a = some (.ins (He.ga K "Land") dx [("_steps", .ref t), ("_rules", u), ("_seed", .int s), ("_bound", .int b), ("_standing", .ref e1), ("_layers", .ref e2), ("_next", .int 1), ("_done", .ref l1), ("_undone", .ref l2), ("_known", .ref dk), ("_tiles", .ref m1), ("_squares", .ref m2), ("_tables", .ref m3)])
  st : H t = some (.tup ws)
  hs : StepsR H ws (stepsE (expand F []))
  hF : FRep F H u
  s1 : H e1 = some (.tup [])
  s2 : H e2 = some (.tup [])
  d1 : H l1 = some (.lst [])
  d2 : H l2 = some (.lst [])
  kn : H dk = some (.dK [])
  m1 : Mem0 K H m1 b
  m2 : Mem0 K H m2 b
  m3 : Mem0 K H m3 b
theorem Keep.fresh {a c : Addr} {H H' : Hp} (k : Keep a H H') (n : c ≠ a) (h : H' c = none) : H c = none := by
  cases e : H c with
  | none => rfl
  | some o => rw [k c o n e] at h; cases h
theorem keepA_tup {a : Addr} {H H' : Hp} {C dx : Addr} {fs : List (Str × V)} (k : Keep a H H') (ha : H a = some (.ins C dx fs)) : Tup H H' := fun c xs h => k c _ (ne_of h ha (by intro z; cases z)) h
theorem Mem0.keep {K : PySem.W.Frag} {H H' : Hp} {c m : Addr} {b : Int} {C dx : Addr} {fs : List (Str × V)} (k : Keep c H H') (hc : H c = some (.ins C dx fs)) (n : m ≠ c) (h : Mem0 K H m b) : Mem0 K H' m b := by
  obtain ⟨x, d, h1, h2⟩ := h
  exact ⟨x, d, k _ _ n h1, k _ _ (ne_of h2 hc (by intro z; cases z)) h2⟩
def spLand (K : PySem.W.Frag) : Sp := fun vs H Q _ => ∃ (a dx : Addr) (u : V) (F : Fd) (s b : Int), vs = [.ref a, u, .int s, .int b] ∧ H a = some (.ins (He.ga K "Land") dx []) ∧ FRep F H u ∧ Good F ∧ 0 ≤ b ∧ b ≤ 1000 ∧
  ∀ t e1 e2 l1 l2 dk m1 m2 m3 ws H', Keep a H H' → (H l1 = none ∧ H l2 = none ∧ H m1 = none ∧ H m2 = none ∧ H m3 = none ∧ l1 ≠ l2) → Land0 K H' a u F s b dx t e1 e2 l1 l2 dk m1 m2 m3 ws → Q .non H'
/-! ### things -/
open Th
def spPts : Sp := fun vs H Q _ => ∃ (p : Addr) (x0 z0 x1 z1 : Int), vs = [.ref p] ∧ H p = some (.tup [.int x0, .int z0, .int x1, .int z1]) ∧ -10000000 ≤ x0 ∧ x0 ≤ 10000000 ∧ -10000000 ≤ x1 ∧ x1 ≤ 10000000 ∧ -10000000 ≤ z0 ∧ z0 ≤ 10000000 ∧ -10000000 ≤ z1 ∧ z1 ≤ 10000000 ∧ Q (.int ((x1 - x0 + 1) * (z1 - z0 + 1))) H
def spBoxOf : Sp := fun vs H Q _ => ∃ (p : Addr) (x0 z0 x1 z1 m : Int), vs = [.ref p, .int m] ∧ H p = some (.tup [.int x0, .int z0, .int x1, .int z1]) ∧ onBox x0 z0 x1 z1 ∧ (x1 - x0 + 1) * (z1 - z0 + 1) ≤ m ∧ Q .non H
theorem g_listRg {te : L2.St → Hp → (Int → Int → Hp → Prop) → Prop} {σ : L2.St} {H : Hp} {Q : VK} (q : te σ H fun a b H1 => RgOk a b ∧ ∀ p, H1 p = none → Q (.ref p) (upd H1 p (.lst (rgV a b)))) : tLstRg te σ H Q := q
theorem g_rg2 {ta tb : TE} {σ : L2.St} {H : Hp} {Q : Int → Int → Hp → Prop} (q : ta σ H fun x H1 => tb σ H1 fun y H2 => ∃ i j, x = .int i ∧ y = .int j ∧ Q i j H2) : tRg2 ta tb σ H Q := q
theorem g_rng2 {σ : L2.St} {H : Hp} {ts : TA} {R : It → Hp → Prop} (q : ts σ H fun vs H1 => ∃ i j : Int, vs = [.int i, .int j] ∧ (-(2 ^ 62) ≤ i ∧ i < 2 ^ 62 ∧ -(2 ^ 62) ≤ j ∧ j < 2 ^ 62) ∧ R (Itr i (j - i).toNat) H1) : iRng2 ts σ H R := q
/-- rows of whole numbers -/
def RowsR (H : Hp) (ls : List Addr) (M : List (List Int)) : Prop := Paired (fun l ns => H l = some (.lst (ns.map V.int))) ls M
theorem RowsR.same {H H' : Hp} (s : Same H H') : ∀ {ls : List Addr} {M : List (List Int)}, RowsR H ls M → RowsR H' ls M
  | _, _, .nil => .nil
  | _, _, .cons h r => .cons (s _ _ h) (RowsR.same s r)
theorem RowsR.snoc {H : Hp} {l : Addr} {ns : List Int} (h : H l = some (.lst (ns.map V.int))) : ∀ {ls : List Addr} {M : List (List Int)}, RowsR H ls M → RowsR H (ls ++ [l]) (M ++ [ns])
  | _, _, .nil => .cons h .nil
  | _, _, .cons a r => .cons a (RowsR.snoc h r)
theorem RowsR.at_ {H : Hp} : ∀ {ls : List Addr} {M : List (List Int)} {k : Nat} {l : Addr}, RowsR H ls M → ls[k]? = some l → ∃ ns, M[k]? = some ns ∧ H l = some (.lst (ns.map V.int))
  | _, _, 0, l, .cons h _, e => by
    simp at e
    subst e
    exact ⟨_, rfl, h⟩
  | _, _, k + 1, l, .cons _ r, e => RowsR.at_ (k := k) r (by simpa using e)
  | _, _, k, l, .nil, e => by simp at e
def MatR (H : Hp) (r : Addr) (M : List (List Int)) : Prop := ∃ ls : List Addr, H r = some (.lst (ls.map V.ref)) ∧ RowsR H ls M
theorem MatR.same {H H' : Hp} {r : Addr} {M : List (List Int)} (s : Same H H') (h : MatR H r M) : MatR H' r M := by
  obtain ⟨ls, h1, h2⟩ := h
  exact ⟨ls, s _ _ h1, h2.same s⟩
/-- another list gets more: the rows stay -/
theorem RowsR.put {H : Hp} {r : Addr} {o : HO} {vs : List V} (hr : H r = some (.lst vs)) : ∀ {ls : List Addr} {M : List (List Int)}, (∀ l ∈ ls, l ≠ r) → RowsR H ls M → RowsR (upd H r o) ls M
  | _, _, _, .nil => .nil
  | _, _, n, .cons h t => .cons (by rw [upd_ne (n _ List.mem_cons_self)]; exact h) (RowsR.put hr (fun l hl => n l (List.mem_cons_of_mem _ hl)) t)
theorem rgV_ints (a b : Int) : rgV a b = ((List.range (b - a).toNat).map fun i : Nat => a + i).map V.int := by
  unfold rgV
  rw [List.map_map]
  rfl
theorem rank_eq {g s X0 Z0 : Int} {W D i k : Nat} : ((W : Int) * D) * knotL g s (X0 + (i : Nat)) (Z0 + (k : Nat)) + ((W : Int) * D - (i : Nat) * D) - (1 + (k : Nat)) = rankF g s X0 Z0 D (W * D) (X0 + (i : Nat)) (Z0 + (k : Nat)) := by
  unfold rankF
  rw [show X0 + (i : Int) - X0 = i by omega, show Z0 + (k : Int) - Z0 = k by omega]
  omega
theorem row_take {g s X0 Z0 : Int} {W D i k : Nat} (h : k < D) : (rowF g s X0 Z0 W D i).take (k + 1) = (rowF g s X0 Z0 W D i).take k ++ [rankF g s X0 Z0 D (W * D) (X0 + (i : Nat)) (Z0 + (k : Nat))] := by
  rw [List.take_add_one]
  congr 1
  unfold rowF
  rw [List.getElem?_map, List.getElem?_range h]
  rfl
def spRanks : Sp := fun vs H Q _ => ∃ (g s : Int) (p : Addr) (X0 Z0 X1 Z1 : Int) (W D : Nat), vs = [.int g, .int s, .ref p] ∧ H p = some (.tup [.int X0, .int Z0, .int X1, .int Z1]) ∧ X1 - X0 + 1 = W ∧ Z1 - Z0 + 1 = D ∧ 1 ≤ W ∧ W ≤ 1000 ∧ 1 ≤ D ∧ D ≤ 1000 ∧ -2000000 ≤ X0 ∧ X0 ≤ 2000000 ∧ -2000000 ≤ Z0 ∧ Z0 ≤ 2000000 ∧
  ∀ r H', H r = none → Same H H' → MatR H' r (matF g s X0 Z0 W D) → Q (.ref r) H'
theorem cr_maxK {X : Cx} {K : PySem.W.Frag} (h : X.K = K := by rfl) (hc : X.calm = true := by rfl) : CallR X (.builtin "max") (rMax K) := by subst h; exact cr_max hc
theorem cr_maxTK {X : Cx} {K : PySem.W.Frag} (h : X.K = K := by rfl) (hc : X.calm = true := by rfl) : CallR X (.builtin "max") (Dz.rMaxT K) := by subst h; exact Dz.cr_maxT hc
theorem rowMax_take {far D j : Nat} {row : List Int} (h : j < D - 2 * far) : (rowMax far D row).take (j + 1) = (rowMax far D row).take j ++ [maxL ((row.drop j).take (2 * far + 1))] := by
  rw [List.take_add_one]
  congr 1
  unfold rowMax
  rw [List.getElem?_map, List.getElem?_range h]
  rfl
theorem cut_nat (xs : List V) (j k : Nat) (h : j + k ≤ xs.length) : cutV xs (some (j : Int)) (some ((j : Int) + k)) = (xs.drop j).take k := by
  unfold cutV
  rw [HT.sIx_nat, show (j : Int) + k = ((j + k : Nat) : Int) by omega, HT.sIx_nat, Nat.min_eq_left (show j ≤ xs.length by omega), Nat.min_eq_left h, Nat.add_sub_cancel_left]
def spGreat : Sp := fun vs H Q _ => ∃ (r : Addr) (far : Nat) (M : List (List Int)) (D : Nat), vs = [.ref r, .int far] ∧ MatR H r M ∧ (∀ row ∈ M, row.length = D) ∧ 1 ≤ far ∧ far ≤ 8 ∧ 2 * far + 1 ≤ M.length ∧ M.length ≤ 1000 ∧ 2 * far + 1 ≤ D ∧ D ≤ 1000 ∧
  ∀ r' H', H r' = none → Same H H' → MatR H' r' (nearF M far D) → Q (.ref r') H'
def LandS (K : PySem.W.Frag) (H : Hp) (a : Addr) (sd : Int) : Prop := ∃ dx fs, H a = some (.ins (He.ga K "Land") dx fs) ∧ fs.lookup ("_seed" : Str) = some (.int sd) ∧ fs.lookup ("seed" : Str) = none
theorem LandS.same {K : PySem.W.Frag} {H H' : Hp} {a : Addr} {sd : Int} (s : Same H H') (h : LandS K H a sd) : LandS K H' a sd := by
  obtain ⟨dx, fs, h1, h2⟩ := h
  exact ⟨dx, fs, s _ _ h1, h2⟩
def spSeed (K : PySem.W.Frag) : Sp := fun vs H Q _ => ∃ (a : Addr) (sd : Int), vs = [.ref a] ∧ LandS K H a sd ∧ Q (.int sd) H
/-- points in the heap -/
def PtsR (H : Hp) (ls : List Addr) (ps : List (Int × Int)) : Prop := Paired (fun l p => H l = some (.tup [.int p.1, .int p.2])) ls ps
theorem PtsR.same {H H' : Hp} (s : Same H H') : ∀ {ls : List Addr} {ps : List (Int × Int)}, PtsR H ls ps → PtsR H' ls ps
  | _, _, .nil => .nil
  | _, _, .cons h r => .cons (s _ _ h) (PtsR.same s r)
theorem PtsR.tup {H H' : Hp} (s : Tup H H') : ∀ {ls : List Addr} {ps : List (Int × Int)}, PtsR H ls ps → PtsR H' ls ps
  | _, _, .nil => .nil
  | _, _, .cons h r => .cons (s _ _ h) (PtsR.tup s r)
theorem PtsR.snoc {H : Hp} {l : Addr} {p : Int × Int} (h : H l = some (.tup [.int p.1, .int p.2])) : ∀ {ls : List Addr} {ps : List (Int × Int)}, PtsR H ls ps → PtsR H (ls ++ [l]) (ps ++ [p])
  | _, _, .nil => .cons h .nil
  | _, _, .cons a r => .cons a (PtsR.snoc h r)
/-- a list of points -/
def PtsL (H : Hp) (r : Addr) (ps : List (Int × Int)) : Prop := ∃ ls : List Addr, H r = some (.lst (ls.map V.ref)) ∧ PtsR H ls ps
theorem tup_putL {G : Hp} {p : Addr} {vs : List V} {o : HO} (h : G p = some (.lst vs)) : Tup G (upd G p o) := fun c xs hc => by
  rw [upd_ne (ne_of hc h (by intro z; cases z))]; exact hc
def spThings (K : PySem.W.Frag) : Sp := fun vs H Q _ => ∃ (a p : Addr) (g s least : Int) (far : Nat) (x0 z0 x1 z1 : Int) (w d : Nat), vs = [.ref a, .ref p, .int s, .int far, .int least] ∧ LandS K H a g ∧ H p = some (.tup [.int x0, .int z0, .int x1, .int z1]) ∧ onBox x0 z0 x1 z1 ∧ x1 - x0 + 1 = w ∧ z1 - z0 + 1 = d ∧ w ≤ 32 ∧ d ≤ 32 ∧ 1 ≤ far ∧ far ≤ 8 ∧ 0 ≤ least ∧ least ≤ 65536 ∧
  ∀ r H', H r = none → Same H H' → PtsL H' r (things g s far least x0 z0 w d) → Q (.ref r) H'
/-! ### edits -/
open Eg
theorem iteNY {c A B : Prop} [Decidable c] (hc : c) (h : B) : if (!decide c) = true then A else B := by
  rw [if_neg (by simp [hc])]
  exact h
/-- what an edit may be -/
def EdOk (E : Ed) : Prop := onBox E.box.x0 E.box.z0 E.box.x1 E.box.z1 ∧ match E with
  | .set _ n => -999999999 ≤ n ∧ n ≤ 999999999
  | .chg _ _ n => -999999999 ≤ n ∧ n ≤ 999999999
  | .field _ F => Good F
  | .copy _ dx dz => -1000 ≤ dx ∧ dx ≤ 1000 ∧ -1000 ≤ dz ∧ dz ≤ 1000
theorem EdOk.fok {E : Ed} (h : EdOk E) : FOk E := by
  cases E with
  | field b F => exact ⟨h.2.ok, by have := h.2.dep; omega⟩
  | _ => exact True.intro
def spShape : Sp := fun vs H Q _ => ∃ (e bx : Addr) (E : Ed), vs = [.ref e] ∧ EdAt H e bx E ∧ Q .non H
def spLayer : Sp := fun vs H Q _ => ∃ (e bx : Addr) (E : Ed), vs = [.ref e] ∧ EdAt H e bx E ∧ EdOk E ∧ ∀ ly bl H', Same H H' → LyAt H' ly bl E → Q (.ref ly) H'
theorem fresh_of {H H' : Hp} {p : Addr} (s : Same H H') (h : H' p = none) : H p = none := by
  cases e : H p with
  | none => rfl
  | some o => rw [s p o e] at h; cases h
theorem Keep.of_same {p : Addr} {H H' : Hp} (s : Same H H') : Keep p H H' := fun c v _ h => s c v h
theorem ent_same {H H' : Hp} (s : Same H H') {v : V} (h : EntV H v) : EntV H' v := h.mono (same_tup s)
theorem same_sqT {K : PySem.W.Frag} {H H' : Hp} {p : Addr} {xs : List V} (s : Same H H') (h : SqT K H p xs) : SqT K H' p xs := by
  rcases h with (h | ⟨o, h⟩) | h
  · exact .inl (.inl (s _ _ h))
  · exact .inl (.inr ⟨o, s _ _ h⟩)
  · exact .inr h
def spWith (K : PySem.W.Frag) : Sp := fun vs H Q _ => ∃ (s e bx : Addr) (es : List V) (i : Int) (E : Ed), vs = [.ref s, .int i, .ref e] ∧ SqT K H s es ∧ es.length ≤ 59 ∧ EdAt H e bx E ∧ EdOk E ∧
  ∀ s2 t H', Same H H' → H' s2 = some (.tup (es ++ [.ref t])) → EntAt H' (.ref t) (i, E) → Q (.ref s2) H'
def spSame (K : PySem.W.Frag) : Sp := fun vs H Q _ => ∃ (a b : Addr) (xs ys : List V), vs = [.ref a, .ref b] ∧ SqT K H a xs ∧ SqT K H b ys ∧ (∀ v ∈ xs, EntV H v) ∧ (∀ v ∈ ys, EntV H v) ∧ ∀ (n : Nat) H', Same H H' → n ≤ xs.length → n ≤ ys.length → Q (.int n) H'
/-- a list of boxes -/
def BoxV (H : Hp) (v : V) : Prop := ∃ bx b, v = .ref bx ∧ BoxR H bx b
theorem BoxV.mono {H H' : Hp} (t : Tup H H') {v : V} (h : BoxV H v) : BoxV H' v := by
  obtain ⟨bx, b, e, h⟩ := h
  exact ⟨bx, b, e, t _ _ h⟩
def spMet (K : PySem.W.Frag) : Sp := fun vs H Q _ => ∃ (p l : Addr) (b : Box) (us : List V), vs = [.ref p, .ref l] ∧ BoxR H p b ∧ H l = some (.lst us) ∧ (∀ v ∈ us, BoxV H v) ∧ ∀ r : Bool, Q (.bl r) H
def spRead : Sp := fun vs H Q _ => ∃ (e bx : Addr) (b : Box) (dx dz : Int), vs = [.ref e] ∧ EdAt H e bx (.copy b dx dz) ∧ ∀ r H', Same H H' → BoxR H' r ⟨b.x0 + dx, b.z0 + dz, b.x1 + dx, b.z1 + dz⟩ → Q (.ref r) H'
/-- what is cut out of what stands, and two of them together -/
theorem cut_ent {K : PySem.W.Frag} {H : Hp} {T : Addr} {xs : List V} {lo hi : Option Int} {Q : VK} (h : SqT K H T xs) (hx : ∀ v ∈ xs, EntV H v)
    (q : ∀ T' zs H', Same H H' → SqT K H' T' zs → (∀ v ∈ zs, EntV H' v) → zs.length ≤ xs.length → Q (.ref T') H') : rSlA K (.ref T) lo hi H Q :=
  Ec.sl_both (fun T' H' => ∃ zs, Same H H' ∧ SqT K H' T' zs ∧ (∀ v ∈ zs, EntV H' v) ∧ zs.length ≤ xs.length) h ⟨xs, Same.refl H, h, hx, Nat.le_refl _⟩
    (fun p hp => ⟨_, same_new hp, SqT.of upd_same, fun v hv => ent_same (same_new hp) (hx v (List.mem_of_mem_drop (List.mem_of_mem_take hv))), cutV_length _ _ _⟩)
    fun T' H' ⟨zs, a, b, c, d⟩ => q T' zs H' a b c d
theorem cat_ent {K : PySem.W.Frag} {H : Hp} {a b : Addr} {xs ys : List V} {Q : VK} (h1 : SqT K H a xs) (h2 : SqT K H b ys) (hx : ∀ v ∈ xs, EntV H v) (hy : ∀ v ∈ ys, EntV H v) (hl : xs.length + ys.length ≤ 1000)
    (q : ∀ T' zs H', Same H H' → SqT K H' T' zs → (∀ v ∈ zs, EntV H' v) → zs.length ≤ 1000 → Q (.ref T') H') : rCatA K (.ref a) (.ref b) H Q :=
  ⟨a, b, xs, ys, rfl, rfl, h1, h2, small_size (by omega), fun _ => q b ys H (Same.refl H) h2 hy (by omega), fun _ _ => q a xs H (Same.refl H) h1 hx (by omega), fun _ _ p hp => q p _ _ (same_new hp) (SqT.of upd_same)
    (fun v hv => by
      rcases List.mem_append.mp hv with hv | hv
      · exact ent_same (same_new hp) (hx v hv)
      · exact ent_same (same_new hp) (hy v hv)) (by rw [List.length_append]; exact hl)⟩
theorem word_copy {E : Ed} (h : E.word = ("copy" : Str)) : ∃ b dx dz, E = .copy b dx dz := by
  cases E with
  | copy b dx dz => exact ⟨b, dx, dz, rfl⟩
  | set b n => exact absurd h (by show ¬ ("set" : Str) = "copy"; decide +kernel)
  | field b F => exact absurd h (by show ¬ ("field" : Str) = "copy"; decide +kernel)
  | chg w b n =>
    cases w with
    | raise => exact absurd h (by show ¬ ("raise" : Str) = "copy"; decide +kernel)
    | least => exact absurd h (by show ¬ ("least" : Str) = "copy"; decide +kernel)
    | most => exact absurd h (by show ¬ ("most" : Str) = "copy"; decide +kernel)
theorem sq_keep {K : PySem.W.Frag} {H H' : Hp} {p D : Addr} {xs us : List V} (k : Keep D H H') (hD : H D = some (.lst us)) (h : SqT K H p xs) : SqT K H' p xs := by
  rcases h with (h | ⟨o, h⟩) | h
  · exact .inl (.inl (k _ _ (ne_of h hD (by intro z; cases z)) h))
  · exact .inl (.inr ⟨o, k _ _ (ne_of h hD (by intro z; cases z)) h⟩)
  · exact .inr h
def spTouch (K : PySem.W.Frag) : Sp := fun vs H Q _ => ∃ (a b : Addr) (xs ys : List V), vs = [.ref a, .ref b] ∧ SqT K H a xs ∧ SqT K H b ys ∧ (∀ v ∈ xs, EntV H v) ∧ (∀ v ∈ ys, EntV H v) ∧ xs.length ≤ 100 ∧ ys.length ≤ 100 ∧ ∀ r us H', H r = none → Same H H' → H' r = some (.lst us) → Q (.ref r) H'
theorem g_items {td : TE} {σ : L2.St} {H : Hp} {R : It → Hp → Prop} (q : td σ H fun x H1 => ∃ d o kvs, x = .ref d ∧ H1 d = some (.frz o (.dK kvs)) ∧ R (Iti d o kvs) H1) : iItems td σ H R := q
theorem upd_back {H : Hp} {d : Addr} {o x : HO} (h : H d = some o) : upd (upd H d x) d o = H := by
  funext c
  by_cases e : c = d
  · subst e
    rw [upd_same, h]
  · rw [upd_ne e, upd_ne e]
def spForget (K : PySem.W.Frag) : Sp := fun vs H Q _ => ∃ (a : Addr) (b : Int) (bs : V), vs = [.ref a, bs] ∧ Mem0 K H a b ∧ ∀ H', Keep a H H' → Mem0 K H' a b → Q .non H'
/-- what is kept but for some places -/
def Kp (S : List Addr) (H H' : Hp) : Prop := ∀ c v, c ∉ S → H c = some v → H' c = some v
theorem Kp.of_same {S : List Addr} {H H' : Hp} (s : Same H H') : Kp S H H' := fun c v _ h => s c v h
theorem Kp.of_keep {S : List Addr} {a : Addr} {H H' : Hp} (k : Keep a H H') (m : a ∈ S) : Kp S H H' := fun c v n h => k c v (fun e => n (e ▸ m)) h
theorem Kp.trans {S : List Addr} {H H1 H2 : Hp} (a : Kp S H H1) (b : Kp S H1 H2) : Kp S H H2 := fun c v n h => b c v n (a c v n h)
theorem Kp.mono {S S' : List Addr} {H H' : Hp} (k : Kp S H H') (h : ∀ c ∈ S, c ∈ S') : Kp S' H H' := fun c v n e => k c v (fun z => n (h c z)) e
/-- the fields of a Land -/
@[reducible] def lfs (t : Addr) (u : V) (s b : Int) (e1 e2 : Addr) (nx : Int) (l1 l2 dk m1 m2 m3 : Addr) : List (Str × V) := [("_steps", .ref t), ("_rules", u), ("_seed", .int s), ("_bound", .int b), ("_standing", .ref e1), ("_layers", .ref e2), ("_next", .int nx), ("_done", .ref l1), ("_undone", .ref l2), ("_known", .ref dk), ("_tiles", .ref m1), ("_squares", .ref m2), ("_tables", .ref m3)]
/-- a Land and its memories, which keep nothing -/
structure Md (K : PySem.W.Frag) (H : Hp) (a dx : Addr) (fs : List (Str × V)) (m1 m2 m3 : Addr) (b : Int) : Prop where
  own : H a = some (.ins (He.ga K "Land") dx fs)
  i1 : Mem0 K H m1 b
  i2 : Mem0 K H m2 b
  i3 : Mem0 K H m3 b
  n1 : a ≠ m1
  n2 : a ≠ m2
  n3 : a ≠ m3
theorem Mem0.same {K : PySem.W.Frag} {H H' : Hp} {m : Addr} {b : Int} (s : Same H H') (h : Mem0 K H m b) : Mem0 K H' m b := by
  obtain ⟨x, d, h1, h2⟩ := h
  exact ⟨x, d, s _ _ h1, s _ _ h2⟩
/-- another memory forgets: this one keeps what it has, or is that one -/
theorem Mem0.other {K : PySem.W.Frag} {H H' : Hp} {m c : Addr} {b : Int} (k : Keep c H H') (hc : Mem0 K H c b) (hc' : Mem0 K H' c b) (h : Mem0 K H m b) : Mem0 K H' m b := by
  by_cases e : m = c
  · exact e ▸ hc'
  · obtain ⟨x, d, h1, _⟩ := hc
    exact Mem0.keep k h1 e h
theorem Md.same {K : PySem.W.Frag} {H H' : Hp} {a dx m1 m2 m3 : Addr} {fs : List (Str × V)} {b : Int} (s : Same H H') (h : Md K H a dx fs m1 m2 m3 b) : Md K H' a dx fs m1 m2 m3 b := ⟨s _ _ h.own, h.i1.same s, h.i2.same s, h.i3.same s, h.n1, h.n2, h.n3⟩
theorem Md.forget {K : PySem.W.Frag} {H H' : Hp} {a dx m1 m2 m3 c : Addr} {fs : List (Str × V)} {b : Int} (h : Md K H a dx fs m1 m2 m3 b) (n : a ≠ c) (k : Keep c H H') (hc : Mem0 K H c b) (hc' : Mem0 K H' c b) : Md K H' a dx fs m1 m2 m3 b :=
  ⟨k _ _ n h.own, Mem0.other k hc hc' h.i1, Mem0.other k hc hc' h.i2, Mem0.other k hc hc' h.i3, h.n1, h.n2, h.n3⟩
theorem Md.put {K : PySem.W.Frag} {H : Hp} {a dx m1 m2 m3 : Addr} {fs fs' : List (Str × V)} {b : Int} (h : Md K H a dx fs m1 m2 m3 b) : Md K (upd H a (.ins (He.ga K "Land") dx fs')) a dx fs' m1 m2 m3 b :=
  ⟨upd_same, Mem0.keep Keep.refl.put h.own h.n1.symm h.i1, Mem0.keep Keep.refl.put h.own h.n2.symm h.i2, Mem0.keep Keep.refl.put h.own h.n3.symm h.i3, h.n1, h.n2, h.n3⟩
theorem Mem0.tup {K : PySem.W.Frag} {H H' : Hp} {m : Addr} {b : Int} (h : Mem0 K H m b) (k : Keep m H H') : Tup H H' := by
  obtain ⟨x, d, h1, _⟩ := h
  exact fun c xs e => k _ _ (ne_of e h1 (by intro z; cases z)) e
def spStand (K : PySem.W.Frag) : Sp := fun vs H Q _ => ∃ (a sn dx t e1 e2 l1 l2 dk m1 m2 m3 : Addr) (u : V) (s b nx : Int) (es ss : List V) (qs : List (Int × Ed)), vs = [.ref a, .ref sn] ∧ Md K H a dx (lfs t u s b e1 e2 nx l1 l2 dk m1 m2 m3) m1 m2 m3 b ∧
  H e1 = some (.tup es) ∧ (∀ v ∈ es, EntV H v) ∧ es.length ≤ 100 ∧ H sn = some (.tup ss) ∧ EntsR H ss qs ∧ (∀ p ∈ qs, FOk p.2) ∧ ss.length ≤ 100 ∧
  ∀ e2' ls H', Kp [a, m1, m2, m3] H H' → Md K H' a dx (lfs t u s b sn e2' nx l1 l2 dk m1 m2 m3) m1 m2 m3 b → H' e2' = some (.tup ls) → LysR H' ls (qs.map (·.2)) → Q .non H'
theorem Md.not {K : PySem.W.Frag} {H : Hp} {a dx m1 m2 m3 c : Addr} {fs : List (Str × V)} {b : Int} (h : Md K H a dx fs m1 m2 m3 b) {o : HO} (e : H c = some o) (n : ∀ C x fs, o ≠ .ins C x fs) : c ∉ [a, m1, m2, m3] := fun z => by
  obtain ⟨x1, d1, h1, _⟩ := h.i1
  obtain ⟨x2, d2, h2, _⟩ := h.i2
  obtain ⟨x3, d3, h3, _⟩ := h.i3
  have z' : c = a ∨ c = m1 ∨ c = m2 ∨ c = m3 := by simpa using z
  rcases z' with q | q | q | q
  · rw [q, h.own] at e; cases e; exact n _ _ _ rfl
  · rw [q, h1] at e; cases e; exact n _ _ _ rfl
  · rw [q, h2] at e; cases e; exact n _ _ _ rfl
  · rw [q, h3] at e; cases e; exact n _ _ _ rfl
theorem Md.tup {K : PySem.W.Frag} {H H' : Hp} {a dx m1 m2 m3 : Addr} {fs : List (Str × V)} {b : Int} (h : Md K H a dx fs m1 m2 m3 b) (k : Kp [a, m1, m2, m3] H H') : Tup H H' := fun c xs e => k c _ (h.not e (by intro C x fs z; cases z)) e
/-- something else is written that is no instance -/
theorem Md.keep {K : PySem.W.Frag} {H H' : Hp} {a dx m1 m2 m3 l : Addr} {fs : List (Str × V)} {b : Int} {xs : List V} (h : Md K H a dx fs m1 m2 m3 b) (hl : H l = some (.lst xs)) (k : Keep l H H') : Md K H' a dx fs m1 m2 m3 b := by
  have hm : ∀ {m}, Mem0 K H m b → Mem0 K H' m b := fun {m} hm => by
    obtain ⟨x, d, h1, h2⟩ := hm
    exact ⟨x, d, k _ _ (ne_of h1 hl (by intro z; cases z)) h1, k _ _ (ne_of h2 hl (by intro z; cases z)) h2⟩
  exact ⟨k _ _ (ne_of h.own hl (by intro z; cases z)) h.own, hm h.i1, hm h.i2, hm h.i3, h.n1, h.n2, h.n3⟩
def spDo (K : PySem.W.Frag) : Sp := fun vs H Q _ => ∃ (a sn dx t e1 e2 l1 l2 dk m1 m2 m3 : Addr) (u : V) (s b nx n : Int) (es ss ds : List V) (qs : List (Int × Ed)), vs = [.ref a, .ref sn, .int n] ∧ Md K H a dx (lfs t u s b e1 e2 nx l1 l2 dk m1 m2 m3) m1 m2 m3 b ∧
  H e1 = some (.tup es) ∧ (∀ v ∈ es, EntV H v) ∧ es.length ≤ 100 ∧ H sn = some (.tup ss) ∧ EntsR H ss qs ∧ (∀ p ∈ qs, FOk p.2) ∧ ss.length ≤ 100 ∧ H l1 = some (.lst ds) ∧ ds.length ≤ 1000 ∧
  ∀ tp l2' e2' ls H', Kp [l1, a, m1, m2, m3] H H' → Tup H H' → H l2' = none → H' l1 = some (.lst (ds ++ [.ref tp])) → H' tp = some (.tup [.ref e1, .ref sn]) → H' l2' = some (.lst []) → Md K H' a dx (lfs t u s b sn e2' n l1 l2' dk m1 m2 m3) m1 m2 m3 b → H' e2' = some (.tup ls) → LysR H' ls (qs.map (·.2)) → Q .non H'
/-- a Land: its rules and edits, its memories empty -/
structure LandG (K : PySem.W.Frag) (H : Hp) (a dx t l1 dk m1 m2 m3 : Addr) (u : V) (F : Fd) (s b : Int) (kd : HO) (e1 e2 l2 : Addr) (nx : Int) (ps : List (Int × Ed)) (ds : List V) : Prop where
  md : Md K H a dx (lfs t u s b e1 e2 nx l1 l2 dk m1 m2 m3) m1 m2 m3 b
  hF : FRep F H u
  st : ∃ ws, H t = some (.tup ws) ∧ StepsR H ws (stepsE (expand F []))
  sE : ∃ es, H e1 = some (.tup es) ∧ EntsR H es ps
  sL : ∃ ls, H e2 = some (.tup ls) ∧ LysR H ls (ps.map (·.2))
  dn : H l1 = some (.lst ds)
  un : ∃ us, H l2 = some (.lst us)
  nl : l1 ≠ l2
  kn : H dk = some kd
  kd : (∀ C x fs, kd ≠ .ins C x fs) ∧ ∀ xs, kd ≠ .lst xs
  ok : ∀ p ∈ ps, FOk p.2
theorem LandG.same {K : PySem.W.Frag} {H H' : Hp} {a dx t l1 dk m1 m2 m3 : Addr} {u : V} {F : Fd} {s b : Int} {kd : HO} {e1 e2 l2 : Addr} {nx : Int} {ps : List (Int × Ed)} {ds : List V} (h : LandG K H a dx t l1 dk m1 m2 m3 u F s b kd e1 e2 l2 nx ps ds) (sm : Same H H') :
    LandG K H' a dx t l1 dk m1 m2 m3 u F s b kd e1 e2 l2 nx ps ds := by
  obtain ⟨md, hF, ⟨ws, a1, a2⟩, ⟨es, b1, b2⟩, ⟨ls, c1, c2⟩, dn, ⟨us, d1⟩, nl, kn, kk, ok⟩ := h
  have t := same_tup sm
  exact ⟨md.same sm, hF.mono t, ⟨ws, t _ _ a1, a2.mono t⟩, ⟨es, t _ _ b1, b2.mono t⟩, ⟨ls, t _ _ c1, LysR.mono t c2⟩, sm _ _ dn, ⟨us, sm _ _ d1⟩, nl, sm _ _ kn, kk, ok⟩
def spEdit (K : PySem.W.Frag) : Sp := fun vs H Q _ => ∃ (a dx t l1 dk m1 m2 m3 : Addr) (u : V) (F : Fd) (s b : Int) (kd : HO) (e1 e2 l2 : Addr) (nx : Int) (ps : List (Int × Ed)) (ds : List V) (e bx : Addr) (E : Ed), vs = [.ref a, .ref e] ∧
  LandG K H a dx t l1 dk m1 m2 m3 u F s b kd e1 e2 l2 nx ps ds ∧ ps.length ≤ 50 ∧ ds.length ≤ 1000 ∧ EdAt H e bx E ∧ EdOk E ∧
  ∀ (e1' e2' l2' : Addr) (d : V) H', Kp [l1, a, m1, m2, m3] H H' → Tup H H' → H l2' = none → LandG K H' a dx t l1 dk m1 m2 m3 u F s b kd e1' e2' l2' (nx + 1) (ps ++ [(nx, E)]) (ds ++ [d]) → Q (.int nx) H'
/-! ### the law -/
open Tl
def pD (p : Int × Int) : PyData := .tuple [.int p.1, .int p.2]
theorem shaped_pD (p : Int × Int) : SeqAt.shaped (pD p) = true := by simp [pD, SeqAt.shaped, PyData.canLay0, PyData.canLayAll0, PyData.depth, PyData.depthAll]
theorem dp_pD {K : PySem.W.Frag} {H : Hp} {t : Addr} {p : Int × Int} (h : H t = some (.tup [.int p.1, .int p.2])) : Dp K H (.ref t) (pD p) := .tup (SqT.of h) (.cons (.int _) (.cons (.int _) .nil))
theorem eqv_pD (p q : Int × Int) : PyData.eqv (pD p) (pD q) = decide (p = q) := by
  obtain ⟨a, b⟩ := p
  obtain ⟨c, d⟩ := q
  unfold pD
  simp only [PyData.eqv, PyData.eqvAll, Bool.and_true]
  rw [Bool.eq_iff_iff]
  simp
def TilR (H : Hp) (ls : List Addr) (ts : List Bq) : Prop := Paired (fun l t => H l = some (.tup [.int t.1, .int t.2.1, .int t.2.2.1, .int t.2.2.2])) ls ts
theorem TilR.tup {H H' : Hp} (s : Tup H H') : ∀ {ls : List Addr} {ps : List Bq}, TilR H ls ps → TilR H' ls ps
  | _, _, .nil => .nil
  | _, _, .cons h r => .cons (s _ _ h) (TilR.tup s r)
theorem TilR.snoc {H : Hp} {l : Addr} {p : Bq} (h : H l = some (.tup [.int p.1, .int p.2.1, .int p.2.2.1, .int p.2.2.2])) : ∀ {ls : List Addr} {ps : List Bq}, TilR H ls ps → TilR H (ls ++ [l]) (ps ++ [p])
  | _, _, .nil => .cons h .nil
  | _, _, .cons a r => .cons a (TilR.snoc h r)
theorem TilR.at_ {H : Hp} : ∀ {ls : List Addr} {M : List Bq} {k : Nat} {l : Addr}, TilR H ls M → ls[k]? = some l → ∃ p, M[k]? = some p ∧ H l = some (.tup [.int p.1, .int p.2.1, .int p.2.2.1, .int p.2.2.2])
  | _, _, 0, l, .cons h _, e => by
    simp at e
    subst e
    exact ⟨_, rfl, h⟩
  | _, _, k + 1, l, .cons _ r, e => TilR.at_ (k := k) r (by simpa using e)
  | _, _, k, l, .nil, e => by simp at e
theorem op_notInDK {X : Cx} {K : PySem.W.Frag} (hu : X.A.units + 65 < cLine) (h : X.K = K := by rfl) : OpR X (compareOp .NotIn) (rNotInD K) := by subst h; exact op_notInD hu
theorem purse_tup {p : Addr} {H H' : Hp} {o : HO} {m : Int} (k : Keep p H H') (hp : H p = some o) (hP : Purse m o) : Tup H H' := by
  obtain ⟨a, b, c, rfl, _⟩ := hP.ex
  exact keep_tup k hp
/-- what stands beside the purse -/
structure Wp (p : Addr) (H Hn : Hp) (m : Int) : Prop where
  kp : Keep p H Hn
  hp : ∃ o, Hn p = some o ∧ Purse m o
theorem Wp.same {p : Addr} {H Hn Hm : Hp} {m : Int} (W : Wp p H Hn m) (s : Same Hn Hm) : Wp p H Hm m := by
  obtain ⟨o, h1, h2⟩ := W.hp
  exact ⟨W.kp.trans (Keep.of_same s), o, s _ _ h1, h2⟩
theorem Wp.draw {p : Addr} {H Hn : Hp} {m m' : Int} {o : HO} (W : Wp p H Hn m) (h : Purse m' o) : Wp p H (upd Hn p o) m' := ⟨W.kp.trans Keep.refl.put, o, upd_same, h⟩
theorem Wp.ne {p l : Addr} {H Hn : Hp} {m : Int} (W : Wp p H Hn m) (h : Hn l = none) : l ≠ p := by
  obtain ⟨o, h1, _⟩ := W.hp
  exact (ne_of_none h1 h).symm
theorem Wp.tup {p : Addr} {H Hn : Hp} {m : Int} {o : HO} (W : Wp p H Hn m) : Tup Hn (upd Hn p o) := by
  obtain ⟨o', h1, h2⟩ := W.hp
  exact purse_tup Keep.refl.put h1 h2
theorem Wp.neT {p l : Addr} {H Hn : Hp} {m : Int} {xs : List V} (W : Wp p H Hn m) (h : Hn l = some (.tup xs)) : l ≠ p := by
  obtain ⟨o', g1, g2⟩ := W.hp
  obtain ⟨_, _, _, rfl, _⟩ := g2.ex
  exact ne_of h g1 (by intro z; cases z)
theorem LandS.keep {K : PySem.W.Frag} {p : Addr} {H Hn : Hp} {m : Int} {o : HO} {a : Addr} {g : Int} (W : Wp p H Hn m) (h : LandS K Hn a g) : LandS K (upd Hn p o) a g := by
  obtain ⟨dx, fs, h1, h2⟩ := h
  obtain ⟨o', g1, g2⟩ := W.hp
  obtain ⟨_, _, _, rfl, _⟩ := g2.ex
  exact ⟨dx, fs, by rw [upd_ne (ne_of h1 g1 (by intro z; cases z))]; exact h1, h2⟩
theorem PtsL.same {H H' : Hp} {r : Addr} {ps : List (Int × Int)} (s : Same H H') (h : PtsL H r ps) : PtsL H' r ps := by
  obtain ⟨ls, h1, h2⟩ := h
  exact ⟨ls, s _ _ h1, h2.same s⟩
theorem PtsL.draw {p : Addr} {H Hn : Hp} {m : Int} {o : HO} {r : Addr} {ps : List (Int × Int)} (W : Wp p H Hn m) (n : r ≠ p) (h : PtsL Hn r ps) : PtsL (upd Hn p o) r ps := by
  obtain ⟨ls, h1, h2⟩ := h
  exact ⟨ls, by rw [upd_ne n]; exact h1, h2.tup W.tup⟩
theorem dpAll_pts {K : PySem.W.Frag} {H : Hp} : ∀ {ls : List Addr} {ps : List (Int × Int)}, PtsR H ls ps → DpAll K H (ls.map V.ref) (ps.map pD)
  | _, _, .nil => .nil
  | _, _, .cons h r => .cons (dp_pD h) (dpAll_pts r)
theorem dp_pts {K : PySem.W.Frag} {H : Hp} {r : Addr} {ps : List (Int × Int)} (h : PtsL H r ps) : Dp K H (.ref r) (.list (ps.map pD)) := by
  obtain ⟨ls, h1, h2⟩ := h
  exact .lst (SqL.of h1) (dpAll_pts h2)
theorem canLay_pts : ∀ ps : List (Int × Int), PyData.canLayAll0 (ps.map pD) = true
  | [] => by simp [PyData.canLayAll0]
  | p :: ps => by
    rw [List.map_cons]
    simp only [PyData.canLayAll0, canLay_pts ps, Bool.and_true]
    exact SeqAt.canLay_of_shaped (shaped_pD p)
theorem depth_pts : ∀ ps : List (Int × Int), PyData.depthAll (ps.map pD) ≤ 2
  | [] => by simp [PyData.depthAll]
  | p :: ps => by
    rw [List.map_cons]
    simp only [PyData.depthAll]
    have := depth_pts ps
    have h2 : (pD p).depth ≤ 2 := by simp [pD, PyData.depth, PyData.depthAll]
    omega
theorem shaped_pts (ps : List (Int × Int)) : SeqAt.shaped (.list (ps.map pD)) = true := by
  unfold SeqAt.shaped
  rw [Bool.and_eq_true, decide_eq_true_eq]
  refine ⟨?_, ?_⟩
  · simp only [PyData.canLay0]
    exact canLay_pts ps
  · simp only [PyData.depth]
    have := depth_pts ps
    omega
theorem eqv_ptsA : ∀ ps qs : List (Int × Int), PyData.eqvAll (ps.map pD) (qs.map pD) = decide (ps = qs)
  | [], [] => by simp [PyData.eqvAll]
  | [], q :: qs => by simp [PyData.eqvAll]
  | p :: ps, [] => by simp [PyData.eqvAll]
  | p :: ps, q :: qs => by
    rw [List.map_cons, List.map_cons]
    simp only [PyData.eqvAll]
    rw [eqv_pD, eqv_ptsA ps qs, Bool.eq_iff_iff]
    simp
theorem eqv_pts (ps qs : List (Int × Int)) : PyData.eqv (.list (ps.map pD)) (.list (qs.map pD)) = decide (ps = qs) := by
  simp only [PyData.eqv]
  exact eqv_ptsA ps qs
theorem any_pts (ps : List (Int × Int)) (p : Int × Int) : ((ps.map pD).any fun z => PyData.eqv z (pD p)) = decide (p ∈ ps) := by
  rw [List.any_map, Bool.eq_iff_iff, List.any_eq_true, decide_eq_true_eq]
  constructor
  · rintro ⟨q, hq, h⟩
    simp only [Function.comp, eqv_pD, decide_eq_true_eq] at h
    rw [← h]; exact hq
  · intro h
    exact ⟨p, h, by simp only [Function.comp, eqv_pD, decide_eq_true_eq]⟩
theorem Land0.toS {K : PySem.W.Frag} {H : Hp} {a dx t e1 e2 l1 l2 dk m1 m2 m3 : Addr} {u : V} {F : Fd} {s b : Int} {ws : List V} (L : Land0 K H a u F s b dx t e1 e2 l1 l2 dk m1 m2 m3 ws) : LandS K H a s := ⟨_, _, L.own, rfl, rfl⟩
theorem g_glst {K : PySem.W.Frag} {n : Nat} {t : TGs} {σ : L2.St} {H : Hp} {Q : L2.St → Hp → Prop} {a : Addr} {xs : List V} (h : SqL K H a xs) (hn : xs.length = n) (q : t xs σ H Q) : gLst K n t (.ref a) σ H Q := ⟨a, xs, rfl, h, hn, q⟩
section
variable {K : PySem.W.Frag} {H : Hp} {Q : VK} {x y : V} {d : PyData}
theorem ne_same (hd : SeqAt.shaped d = true) (h1 : Dp K H x d) (h2 : Dp K H y d) (q : Q (.bl false) H) : rNeD K x y H Q := ⟨d, d, h1, h2, hd, hd, by
  rw [PySem.SeqAt.eqv_refl d (SeqAt.canLay_of_shaped hd)]
  exact q⟩
theorem eq_same (hd : SeqAt.shaped d = true) (h1 : Dp K H x d) (h2 : Dp K H y d) (q : Q (.bl true) H) : rEqD K x y H Q := ⟨d, d, h1, h2, hd, hd, by
  rw [PySem.SeqAt.eqv_refl d (SeqAt.canLay_of_shaped hd)]
  exact q⟩
end
theorem Wp.put {p l : Addr} {H Hn : Hp} {m : Int} {o : HO} (W : Wp p H Hn m) (x : H l = none) (n : l ≠ p) : Wp p H (upd Hn l o) m := by
  obtain ⟨o', h1, h2⟩ := W.hp
  exact ⟨fun c v nc e => by rw [upd_ne (ne_of_none e x)]; exact W.kp c v nc e, o', by rw [upd_ne n.symm]; exact h1, h2⟩
theorem Wp.nn {p l : Addr} {H Hn : Hp} {m : Int} (W : Wp p H Hn m) (h : Hn l = none) : H l = none := by
  cases e : H l with
  | none => rfl
  | some o => rw [W.kp _ _ (W.ne h) e] at h; cases h
theorem PtsR.app {H : Hp} : ∀ {ls : List Addr} {ps : List (Int × Int)} {ls' : List Addr} {ps' : List (Int × Int)}, PtsR H ls ps → PtsR H ls' ps' → PtsR H (ls ++ ls') (ps ++ ps')
  | _, _, _, _, .nil, h => h
  | _, _, _, _, .cons a r, h => .cons a (PtsR.app r h)
theorem g_dbl {K : PySem.W.Frag} {H : Hp} {Q : VK} {p : Addr} {x z : Int} (h : H p = some (.tup [.int x, .int z])) (q : ∀ t, H t = none → Q (.ref t) (upd H t (.tup [.int x, .int z, .int x, .int z]))) : rCatA K (.ref p) (.ref p) H Q :=
  ⟨p, p, _, _, rfl, rfl, SqT.of h, SqT.of h, by show 4 ≤ sizeLine; decide, (fun e => nomatch e), (fun _ e => nomatch e), fun _ _ t ht => q t ht⟩
theorem told_iff {g s : Int} {far : Nat} {x0 z0 x z : Int} {w d : Nat} (h1 : x0 ≤ x) (h2 : x < x0 + w) (h3 : z0 ≤ z) (h4 : z < z0 + d) : decide ((x, z) ∈ things g s far 0 x0 z0 w d) = bears g s far 0 x z := by
  rw [Bool.eq_iff_iff, decide_eq_true_eq, mem_things]
  exact ⟨fun h => h.2, fun h => ⟨⟨h1, h2, h3, h4⟩, h⟩⟩
theorem iteNS {c A B : Prop} [Decidable c] (hc : c) (h : B) : if (!decide c) = true then A else B := by
  rw [if_neg (by simp [hc])]
  exact h
theorem iteNP {c A B : Prop} [Decidable c] (hc : ¬ c) (h : A) : if (!decide c) = true then A else B := by
  rw [if_pos (by simp [hc])]
  exact h
theorem abs_if (x : Int) : (if x < 0 then -x else x) = (x.natAbs : Int) := by split <;> omega
theorem max_if2 (i j : Int) : (if j > i then j else i) = max i j := by split <;> omega
theorem PtsR.at_ {H : Hp} : ∀ {ls : List Addr} {M : List (Int × Int)} {k : Nat} {l : Addr}, PtsR H ls M → ls[k]? = some l → ∃ p, M[k]? = some p ∧ H l = some (.tup [.int p.1, .int p.2])
  | _, _, 0, l, .cons h _, e => by
    simp at e
    subst e
    exact ⟨_, rfl, h⟩
  | _, _, k + 1, l, .cons _ r, e => PtsR.at_ (k := k) r (by simpa using e)
  | _, _, k, l, .nil, e => by simp at e
def unR : V → Addr
  | .ref t => t
  | _ => 0
def kf (H : Hp) (v : V) : Int × Int := match v with
  | .ref t => match H t with
    | some (.tup [.int x, .int z]) => (x, z)
    | _ => (0, 0)
  | _ => (0, 0)
theorem kf_at {H : Hp} {t : Addr} {p : Int × Int} (h : H t = some (.tup [.int p.1, .int p.2])) : kf H (.ref t) = p := by
  unfold kf
  dsimp only
  rw [h]
theorem kf_map {H : Hp} : ∀ {ls : List Addr} {ps : List (Int × Int)}, PtsR H ls ps → ps = ls.map fun l => kf H (.ref l)
  | _, _, .nil => rfl
  | _, _, .cons h r => by rw [List.map_cons, kf_at h, ← kf_map r]
theorem pts_mem {H : Hp} : ∀ {ls : List Addr} {ps : List (Int × Int)}, PtsR H ls ps → ∀ l ∈ ls, H l = some (.tup [.int (kf H (.ref l)).1, .int (kf H (.ref l)).2])
  | _, _, .nil, l, hl => nomatch hl
  | _, _, .cons h r, l, hl => by
    rcases List.mem_cons.mp hl with rfl | hl
    · rw [kf_at h]; exact h
    · exact pts_mem r l hl
theorem pts_of {H : Hp} : ∀ {ls : List Addr}, (∀ l ∈ ls, H l = some (.tup [.int (kf H (.ref l)).1, .int (kf H (.ref l)).2])) → PtsR H ls (ls.map fun l => kf H (.ref l))
  | [], _ => .nil
  | l :: ls, h => .cons (h l List.mem_cons_self) (pts_of fun x hx => h x (List.mem_cons_of_mem _ hx))
theorem unR_map : ∀ ls : List Addr, (ls.map V.ref).map unR = ls
  | [] => rfl
  | l :: ls => by rw [List.map_cons, List.map_cons, unR_map ls]; rfl
theorem unR_back : ∀ ys : List V, (∀ y ∈ ys, ∃ l, y = .ref l) → ys = (ys.map unR).map V.ref
  | [], _ => rfl
  | y :: ys, h => by
    obtain ⟨l, rfl⟩ := h y List.mem_cons_self
    rw [List.map_cons, List.map_cons, ← unR_back ys fun z hz => h z (List.mem_cons_of_mem _ hz)]
    rfl
/-- what sorted makes of a list of points -/
theorem sorted_pts {H : Hp} {ls : List Addr} {ps : List (Int × Int)} {ys : List V} (hP : PtsR H ls ps) (h1 : SrtO.Srtd (ltP (kf H)) ys) (h2 : SrtO.Stb (ltP (kf H)) ys (ls.map V.ref)) :
    ∃ ls' ps', ys = ls'.map V.ref ∧ PtsR H ls' ps' ∧ ps'.Perm ps ∧ ps'.Pairwise fun a b => ¬ ltp b a := by
  have hy : ∀ y ∈ ys, ∃ l, y = .ref l := fun y hy => by
    obtain ⟨l, _, rfl⟩ := List.mem_map.mp (h2.perm.mem_iff.mp hy)
    exact ⟨l, rfl⟩
  have e := unR_back ys hy
  have hp : (ys.map unR).Perm ls := by
    have := h2.perm.map unR
    rwa [unR_map] at this
  refine ⟨ys.map unR, (ys.map unR).map fun l => kf H (.ref l), e, pts_of fun l hl => pts_mem hP l (hp.mem_iff.mp hl), ?_, ?_⟩
  · rw [kf_map hP]
    exact hp.map _
  · rw [List.pairwise_map]
    rw [e] at h1
    have h3 : ((ys.map unR).map V.ref).Pairwise (fun x y => ltP (kf H) y x = false) := h1
    rw [List.pairwise_map] at h3
    refine List.Pairwise.imp (fun {a b} h => ?_) h3
    have h4 := SrtO.lexB_no.mp h
    exact h4
/-- what stands once the Land is made -/
structure Sx (K : PySem.W.Frag) (p : Addr) (H Hn : Hp) (m : Int) (a ar : Addr) (g x0 z0 x1 z1 : Int) : Prop where
  W : Wp p H Hn m
  L : LandS K Hn a g
  A : Hn ar = some (.tup [.int x0, .int z0, .int x1, .int z1])
section
variable {K : PySem.W.Frag} {p : Addr} {H Hn Hm : Hp} {m m' : Int} {a ar : Addr} {g x0 z0 x1 z1 : Int}
theorem Sx.same (S : Sx K p H Hn m a ar g x0 z0 x1 z1) (s : Same Hn Hm) : Sx K p H Hm m a ar g x0 z0 x1 z1 := ⟨S.W.same s, S.L.same s, s _ _ S.A⟩
theorem Sx.draw (S : Sx K p H Hn m a ar g x0 z0 x1 z1) {o : HO} (h : Purse m' o) : Sx K p H (upd Hn p o) m' a ar g x0 z0 x1 z1 := ⟨S.W.draw h, S.L.keep S.W, S.W.tup _ _ S.A⟩
end
theorem good_zero : Good (.whole 0) := ⟨True.intro, ⟨by omega, by omega⟩, by decide, by decide, True.intro, by decide, by decide, fun p hp => by simp [expand, allE] at hp; subst hp; exact ⟨by decide, by decide⟩⟩
theorem none_upd2 {H : Hp} {a d c : Addr} {o o' : HO} (h : upd (upd H d o) a o' c = none) : H c = none := by
  by_cases e : c = a
  · rw [e, upd_same] at h; cases h
  · rw [upd_ne e] at h
    by_cases e2 : c = d
    · rw [e2, upd_same] at h; cases h
    · rwa [upd_ne e2] at h
theorem land_ne {K : PySem.W.Frag} {H : Hp} {a m dx : Addr} {b : Int} {t : V} {fs : List (Str × V)} (h : H a = some (.ins (He.ga K "Land") dx (("_steps", t) :: fs))) (hm : Mem0 K H m b) : a ≠ m := fun e => by
  obtain ⟨x, d, h1, _⟩ := hm
  rw [← e, h] at h1
  simp at h1
  exact absurd h1.2.2.1.1 (by decide +kernel)
theorem Land0.toG {K : PySem.W.Frag} {H : Hp} {a dx t e1 e2 l1 l2 dk m1 m2 m3 : Addr} {u : V} {F : Fd} {s b : Int} {ws : List V} (L : Land0 K H a u F s b dx t e1 e2 l1 l2 dk m1 m2 m3 ws) (n : l1 ≠ l2) : LandG K H a dx t l1 dk m1 m2 m3 u F s b (.dK []) e1 e2 l2 1 [] [] :=
  ⟨⟨L.own, L.m1, L.m2, L.m3, land_ne L.own L.m1, land_ne L.own L.m2, land_ne L.own L.m3⟩, L.hF, ⟨ws, L.st, L.hs⟩, ⟨[], L.s1, .nil⟩, ⟨[], L.s2, .nil⟩, L.d1, ⟨[], L.d2⟩, n, L.kn, ⟨(fun C x fs z => by cases z), (fun xs z => by cases z)⟩, fun p hp => nomatch hp⟩
theorem LandS.keepP {K : PySem.W.Frag} {p : Addr} {H H' : Hp} {m : Int} {o : HO} {a : Addr} {g : Int} (h : LandS K H a g) (hp : H p = some o) (hP : Purse m o) (k : Keep p H H') : LandS K H' a g := by
  obtain ⟨dx, fs, h1, h2⟩ := h
  obtain ⟨_, _, _, rfl, _⟩ := hP.ex
  exact ⟨dx, fs, k _ _ (ne_of h1 hp (by intro z; cases z)) h1, h2⟩
section
variable {K : PySem.W.Frag} {H H' : Hp} {a dx t l1 dk m1 m2 m3 p : Addr} {u : V} {F : Fd} {s b : Int} {kd : HO} {e1 e2 l2 : Addr} {nx : Int} {ps : List (Int × Ed)} {ds xs : List V}
theorem LandG.toS (L : LandG K H a dx t l1 dk m1 m2 m3 u F s b kd e1 e2 l2 nx ps ds) : LandS K H a s := ⟨dx, _, L.md.own, rfl, rfl⟩
theorem LandG.keepL (h : LandG K H a dx t l1 dk m1 m2 m3 u F s b kd e1 e2 l2 nx ps ds) (hp : H p = some (.lst xs)) (n1 : l1 ≠ p) (n2 : l2 ≠ p) (k : Keep p H H') : LandG K H' a dx t l1 dk m1 m2 m3 u F s b kd e1 e2 l2 nx ps ds := by
  obtain ⟨md, hF, ⟨ws, a1, a2⟩, ⟨es, b1, b2⟩, ⟨ls, c1, c2⟩, dn, ⟨us, d1⟩, nl, kn, kk, ok⟩ := h
  have t := keep_tup k hp
  exact ⟨md.keep hp k, hF.mono t, ⟨ws, t _ _ a1, a2.mono t⟩, ⟨es, t _ _ b1, b2.mono t⟩, ⟨ls, t _ _ c1, LysR.mono t c2⟩, k _ _ n1 dn, ⟨us, k _ _ n2 d1⟩, nl, k _ _ (ne_of kn hp (fun z => kk.2 _ z)) kn, kk, ok⟩
theorem LandG.ne {d : Addr} (h : LandG K H a dx t l1 dk m1 m2 m3 u F s b kd e1 e2 l2 nx ps ds) (hd : H d = none) : ∀ c ∈ [l1, l2, a, m1, m2, m3], c ≠ d := by
  obtain ⟨us, hu⟩ := h.un
  obtain ⟨_, _, g1, _⟩ := h.md.i1
  obtain ⟨_, _, g2, _⟩ := h.md.i2
  obtain ⟨_, _, g3, _⟩ := h.md.i3
  intro c hc
  simp only [List.mem_cons, List.not_mem_nil, or_false] at hc
  rcases hc with rfl | rfl | rfl | rfl | rfl | rfl
  · exact ne_of_none h.dn hd
  · exact ne_of_none hu hd
  · exact ne_of_none h.md.own hd
  · exact ne_of_none g1 hd
  · exact ne_of_none g2 hd
  · exact ne_of_none g3 hd
end
theorem things_ne {g s : Int} {far : Nat} {least x0 z0 : Int} {w d k m : Nat} {p q : Int × Int} (h : m < k) (h1 : (things g s far least x0 z0 w d)[k]? = some p) (h2 : (things g s far least x0 z0 w d)[m]? = some q) (e : p = q) : False := by
  have hs := things_sorted (g := g) (s := s) (far := far) (least := least) (x0 := x0) (z0 := z0) (w := w) (d := d)
  rw [List.pairwise_iff_getElem] at hs
  obtain ⟨hk, ek⟩ := List.getElem?_eq_some_iff.mp h1
  obtain ⟨hm, em⟩ := List.getElem?_eq_some_iff.mp h2
  have := hs m k hm hk h
  rw [ek, em, e] at this
  exact ltp_ne this rfl
def spBoxW : Sp := fun vs H Q _ => ∃ (p : Addr) (wd m : Int) (o : HO), vs = [.ref p, .int wd] ∧ H p = some o ∧ Purse m o ∧ m ≤ 1000000000000 ∧ 1 ≤ wd ∧ wd ≤ 30 ∧
  ∀ (x0 z0 a b : Int) (t : Addr) (H' : Hp), Wp p H H' (m + 4 + 4 + 4 + 4) → H t = none → H' t = some (.tup [.int x0, .int z0, .int (x0 + a), .int (z0 + b)]) → onBox x0 z0 (x0 + a) (z0 + b) → 0 ≤ a → a < wd → 0 ≤ b → b < wd → Q (.ref t) H'
def spPoints : Sp := fun vs H Q _ => ∃ (p : Addr) (x0 z0 x1 z1 : Int) (w d : Nat), vs = [.ref p] ∧ H p = some (.tup [.int x0, .int z0, .int x1, .int z1]) ∧ onBox x0 z0 x1 z1 ∧ x1 - x0 + 1 = w ∧ z1 - z0 + 1 = d ∧ w ≤ 64 ∧ d ≤ 64 ∧ ∀ r H', H r = none → Same H H' → PtsL H' r (boxP x0 z0 w d) → Q (.ref r) H'
theorem bears_no {g s : Int} {far : Nat} {x z x' z' : Int} (h1 : x - far ≤ x') (h2 : x' ≤ x + far) (h3 : z - far ≤ z') (h4 : z' ≤ z + far) (hB : Bt g s x' z' x z) : bears g s far 0 x z = false := by
  cases e : bears g s far 0 x z with
  | false => rfl
  | true => exact absurd hB ((bears_iff.mp e).2 x' z' h1 h2 h3 h4)
def spBears : Sp := fun vs H Q _ => ∃ (g s : Int) (p : Addr) (x z : Int) (far : Nat), vs = [.int g, .int s, .ref p, .int far] ∧ H p = some (.tup [.int x, .int z]) ∧ far ≤ 9 ∧ -10000000 ≤ x ∧ x ≤ 10000000 ∧ -10000000 ≤ z ∧ z ≤ 10000000 ∧ ∀ H', Same H H' → Q (.bl (bears g s far 0 x z)) H'
def spThingsL : Sp := fun vs H Q _ => ∃ (g s few : Int) (p : Addr) (far : Nat) (x0 z0 x1 z1 : Int) (w d : Nat), vs = [.int g, .int s, .ref p, .int far, .int few] ∧ H p = some (.tup [.int x0, .int z0, .int x1, .int z1]) ∧ onBox x0 z0 x1 z1 ∧ x1 - x0 + 1 = w ∧ z1 - z0 + 1 = d ∧ w ≤ 32 ∧ d ≤ 32 ∧ far ≤ 9 ∧
  ∀ r H', H r = none → Same H H' → PtsL H' r (things g s far few x0 z0 w d) → Q (.ref r) H'
def spParts : Sp := fun vs H Q _ => ∃ (p ar : Addr) (m : Int) (o : HO) (x0 z0 x1 z1 : Int), vs = [.ref p, .ref ar] ∧ H p = some o ∧ Purse m o ∧ m ≤ 1000000000000 ∧ H ar = some (.tup [.int x0, .int z0, .int x1, .int z1]) ∧ onBox x0 z0 x1 z1 ∧
  ∀ (r : Addr) (ls : List Addr) (bs : List Bq) (H' : Hp), Wp p H H' (m + 4) → H r = none → H' r = some (.lst (ls.map V.ref)) → TilR H' ls bs → ((x0 = x1 ∧ bs = [(x0, z0, x1, z1)]) ∨ ∃ a, x0 ≤ a ∧ a < x1 ∧ bs = [(x0, z0, a, z1), (a + 1, z0, x1, z1)]) → Q (.ref r) H'
def spApart : Sp := fun vs H Q _ => ∃ (l : Addr) (far : Int) (ps : List (Int × Int)), vs = [.ref l, .int far] ∧ PtsL H l ps ∧ ps.length ≤ 1024 ∧ (∀ (k m : Nat) (a b : Int × Int), m < k → ps[k]? = some a → ps[m]? = some b → ¬ max ((b.1 - a.1).natAbs : Int) ((b.2 - a.2).natAbs : Int) ≤ far) ∧ ∀ H', Same H H' → Q (.bl true) H'
theorem cut_take (xs : List V) {i : Nat} (h : i ≤ xs.length) : cutV xs none (some (i : Int)) = xs.take i := by
  unfold cutV
  rw [HT.sIx_nat, Nat.min_eq_left h, show HT.sIx xs.length 0 none = 0 from rfl, Nat.sub_zero, List.drop_zero]
theorem cut4 (xs : List V) : (cutV xs none (some 4)).length ≤ 4 := by
  unfold cutV
  rw [List.length_take]
  refine Nat.le_trans (Nat.min_le_left _ _) ?_
  unfold HT.sIx
  simp
  omega
theorem same_sqL {K : PySem.W.Frag} {H H' : Hp} {p : Addr} {xs : List V} (s : Same H H') (h : SqL K H p xs) : SqL K H' p xs := by
  rcases h with (h | ⟨o, h⟩) | h
  · exact .inl (.inl (s _ _ h))
  · exact .inl (.inr ⟨o, s _ _ h⟩)
  · exact .inr h
def spLaw (K : PySem.W.Frag) : Sp := fun vs H Q _ => ∃ (a : Addr) (ns : List Int), vs = [.ref a] ∧ SqL K H a (ns.map V.int) ∧ ∀ H', Q (.bl true) H'
section
variable {P : Program} {w : World} {K : PySem.W.Frag} {mg : Str → Option Value} {base : Heap} {f : Addr} {fd : FuncData}
abbrev N_is_from : List Str := ["thing", "low", "high"]
theorem sc_is_from : FnScope N_is_from ["thing", "low", "high"] (defScope s_is_from) := ⟨rfl, rfl, rfl, by decide +kernel, rfl, by decide +kernel, by decide +kernel⟩
theorem ok_is_from (F : FnP K "is_from" s_is_from f fd) (T : Bi mg) (G : Kn w K mg)  : FnOk P w K mg base CX0 1 f fd ["thing", "low", "high"] spFrom := by
  refine F.ok sc_is_from (fun vs H Q E h => ?_) (fun cdv A outer s H vs Q E hr h => ⟨_, PSs.nox
(pss_one (ps_ret (pe_and (pe_callB call_isi (by rfl) T.isinstance (by decide +kernel) (pa_cons (pv 0) (pa_cons (pe_bltn (v := .ty "int") (by rfl) T.int boot_int rfl) pa_nil))) (pe_and (pe_chain op_le op_le (pv 1) (pv 0) (pv 2)) (pe_one (pe_not (pe_callB call_isi (by rfl) T.isinstance (by decide +kernel) (pa_cons (pv 0) (pa_cons (pe_bltn (v := .ty "bool") (by rfl) T.bool boot_bool rfl) pa_nil))))))))), ?_⟩)
  · obtain ⟨a, lo, hi, rfl, _⟩ := h
    rfl
  · obtain ⟨a, lo, hi, rfl, h0, h1, q⟩ := h
    walk_at "lw i0"
    walk_at "lw go"
    refine ⟨_, _, _, _, true, rfl, .ty "int", .base (.int _), kit_ty (by decide +kernel), ?_⟩
    walk_at "lw go"
    refine iteS h0 ?_
    walk_at "lw go"
    rw [decide_eq_true h1]
    walk_at "lw go"
    refine ⟨_, _, _, _, false, rfl, .ty "bool", .base (.int _), kit_ty (by decide +kernel), ?_⟩
    walk_at "lw go"
    exact q
abbrev N_is_name : List Str := ["thing"]
theorem sc_is_name : FnScope N_is_name ["thing"] (defScope s_is_name) := ⟨rfl, rfl, rfl, by decide +kernel, rfl, by decide +kernel, by decide +kernel⟩
theorem ok_is_name (F : FnP K "is_name" s_is_name f fd) (T : Bi mg) (G : Kn w K mg)  : FnOk P w K mg base CX0 1 f fd ["thing"] spName := by
  refine F.ok sc_is_name (fun vs H Q E h => ?_) (fun cdv A outer s H vs Q E hr h => ⟨_, PSs.nox
(pss_one (ps_ret (pe_and (pe_callB call_isi (by rfl) T.isinstance (by decide +kernel) (pa_cons (pv 0) (pa_cons (pe_bltn (v := .ty "str") (by rfl) T.str boot_str rfl) pa_nil))) (pe_and (pe_bm0 PySem.F.plainAttrs_str PySem.F.slot_str_isascii PySem.F.type_str_isascii mt_isascii (pv 0)) (pe_and (pe_bm0 PySem.F.plainAttrs_str PySem.F.slot_str_isalpha PySem.F.type_str_isalpha mt_isalpha (pv 0)) (pe_and (pe_bm0 PySem.F.plainAttrs_str PySem.F.slot_str_islower PySem.F.type_str_islower mt_islower (pv 0)) (pe_one (pe_cmpR op_le (pe_callB call_len_str (by rfl) T.len (by decide +kernel) (pa_cons (pv 0) pa_nil)) (pe_gI (by rfl) G.c_LONGEST_NAME) (nomark _))))))))), ?_⟩)
  · obtain ⟨x, rfl, _⟩ := h
    rfl
  · obtain ⟨x, rfl, hx, q⟩ := h
    walk_at "lw i0"
    obtain ⟨n1, n2, n3⟩ := name_signs hx
    walk_at "lw go"
    refine ⟨_, _, _, _, true, rfl, .ty "str", .base (.str _), kit_ty (by decide +kernel), ?_⟩
    walk_at "lw go"
    refine ⟨rfl, x, rfl, rfl, True.intro, true, by rw [n1], ?_⟩
    walk_at "lw go"
    refine ⟨rfl, x, rfl, rfl, True.intro, true, by rw [n2], ?_⟩
    walk_at "lw go"
    refine ⟨rfl, x, rfl, rfl, True.intro, true, by rw [n3], ?_⟩
    walk_at "lw go"
    refine ⟨x, rfl, by have := hx.2.1; rw [sizeLine_eq]; omega, ?_⟩
    walk_at "lw go"
    rw [decide_eq_true (show ((x.length : Nat) : Int) ≤ 8 by have := hx.2.1; omega)]
    exact q
abbrev N_is_point : List Str := ["x", "z"]
theorem sc_is_point : FnScope N_is_point ["x", "z"] (defScope s_is_point) := ⟨rfl, rfl, rfl, by decide +kernel, rfl, by decide +kernel, by decide +kernel⟩
theorem ok_is_point (F : FnP K "is_point" s_is_point f fd) (T : Bi mg) (G : Kn w K mg)  : FnOk P w K mg base CX0 1 f fd ["x", "z"] spPt := by
  refine F.ok sc_is_point (fun vs H Q E h => ?_) (fun cdv A outer s H vs Q E hr h => ⟨_, PSs.nox
(pss_one (ps_ret (pe_and (pe_callB call_isi (by rfl) T.isinstance (by decide +kernel) (pa_cons (pv 0) (pa_cons (pe_bltn (v := .ty "int") (by rfl) T.int boot_int rfl) pa_nil))) (pe_and (pe_callB call_isi (by rfl) T.isinstance (by decide +kernel) (pa_cons (pv 1) (pa_cons (pe_bltn (v := .ty "int") (by rfl) T.int boot_int rfl) pa_nil))) (pe_and (pe_chain op_le op_le (pe_un un_neg (pe_gI (by rfl) G.c_EDGE)) (pv 0) (pe_gI (by rfl) G.c_EDGE)) (pe_and (pe_chain op_le op_le (pe_un un_neg (pe_gI (by rfl) G.c_EDGE)) (pv 1) (pe_gI (by rfl) G.c_EDGE)) (pe_and (pe_not (pe_callB call_isi (by rfl) T.isinstance (by decide +kernel) (pa_cons (pv 0) (pa_cons (pe_bltn (v := .ty "bool") (by rfl) T.bool boot_bool rfl) pa_nil)))) (pe_one (pe_not (pe_callB call_isi (by rfl) T.isinstance (by decide +kernel) (pa_cons (pv 1) (pa_cons (pe_bltn (v := .ty "bool") (by rfl) T.bool boot_bool rfl) pa_nil)))))))))))), ?_⟩)
  · obtain ⟨x, z, rfl, _⟩ := h
    rfl
  · obtain ⟨x, z, rfl, x0, x1, z0, z1, q⟩ := h
    walk_at "lw i0"
    walk_at "lw go"
    refine ⟨_, _, _, _, true, rfl, .ty "int", .base (.int _), kit_ty (by decide +kernel), ?_⟩
    walk_at "lw go"
    refine ⟨_, _, _, _, true, rfl, .ty "int", .base (.int _), kit_ty (by decide +kernel), ?_⟩
    walk_at "lw go"
    refine iteS x0 ?_
    walk_at "lw go"
    rw [decide_eq_true x1]
    walk_at "lw go"
    refine iteS z0 ?_
    walk_at "lw go"
    rw [decide_eq_true z1]
    walk_at "lw go"
    refine ⟨_, _, _, _, false, rfl, .ty "bool", .base (.int _), kit_ty (by decide +kernel), ?_⟩
    walk_at "lw go"
    refine ⟨_, _, _, _, false, rfl, .ty "bool", .base (.int _), kit_ty (by decide +kernel), ?_⟩
    walk_at "lw go"
    exact q
abbrev N_must_point : List Str := ["x", "z"]
theorem sc_must_point : FnScope N_must_point ["x", "z"] (defScope s_must_point) := ⟨rfl, rfl, rfl, by decide +kernel, rfl, by decide +kernel, by decide +kernel⟩
theorem ok_must_point (F : FnP K "must_point" s_must_point f fd) (T : Bi mg) (G : Kn w K mg) (D_is_point : Df P w K mg base "is_point" ["x", "z"] 1 spPt) : FnOk P w K mg base CX0 2 f fd ["x", "z"] spMustPt := by
  refine F.ok sc_must_point (fun vs H Q E h => ?_) (fun cdv A outer s H vs Q E hr h => ⟨_, PSs.nox
(pss_one (ps_if (pt_not (pt_val (pe_df D_is_point (hr.mono (by first | decide | omega)) (pa_cons (pv 0) (pa_cons (pv 1) pa_nil)))))
  pss_never
  pss_nil)), ?_⟩)
  · obtain ⟨x, z, rfl, _⟩ := h
    rfl
  · obtain ⟨x, z, rfl, x0, x1, z0, z1, q⟩ := h
    walk_at "lw i0"
    walk_at "lw go"
    refine ⟨x, z, rfl, x0, x1, z0, z1, ?_⟩
    walk_at "lw go"
    exact q
abbrev N_is_box : List Str := ["thing"]
theorem sc_is_box : FnScope N_is_box ["thing"] (defScope s_is_box) := ⟨rfl, rfl, rfl, by decide +kernel, rfl, by decide +kernel, by decide +kernel⟩
theorem ok_is_box (F : FnP K "is_box" s_is_box f fd) (T : Bi mg) (G : Kn w K mg) (D_is_point : Df P w K mg base "is_point" ["x", "z"] 1 spPt) : FnOk P w K mg base CX0 2 f fd ["thing"] spIsBox := by
  refine F.ok sc_is_box (fun vs H Q E h => ?_) (fun cdv A outer s H vs Q E hr h => ⟨_, PSs.nox
(pss_cons (ps_if (PW.pt (pw_or (pt_not (pt_val (pe_callB call_isi (by rfl) T.isinstance (by decide +kernel) (pa_cons (pv 0) (pa_cons (pe_bltn (v := .ty "tuple") (by rfl) T.tuple boot_tuple rfl) pa_nil))))) (pw_or1 (pt_cmpR op_ne (pe_callB call_len_seq (by rfl) T.len (by decide +kernel) (pa_cons (pv 0) pa_nil)) pe_int (nomark _)))))
  (pss_one (ps_ret pe_bl))
  pss_nil)
  (pss_cons (ps_if (PW.pt (pw_or (pt_not (pt_val (pe_df D_is_point (hr.mono (by first | decide | omega)) (pa_cons (pe_ix ix_tup (pv 0) pe_int (fun _ _ => rfl)) (pa_cons (pe_ix ix_tup (pv 0) pe_int (fun _ _ => rfl)) pa_nil))))) (pw_or1 (pt_not (pt_val (pe_df D_is_point (hr.mono (by first | decide | omega)) (pa_cons (pe_ix ix_tup (pv 0) pe_int (fun _ _ => rfl)) (pa_cons (pe_ix ix_tup (pv 0) pe_int (fun _ _ => rfl)) pa_nil))))))))
  (pss_one (ps_ret pe_bl))
  pss_nil)
  (pss_one (ps_ret (pe_and (pe_cmpR op_le (pe_ix ix_tup (pv 0) pe_int (fun _ _ => rfl)) (pe_ix ix_tup (pv 0) pe_int (fun _ _ => rfl)) (nomark _)) (pe_one (pe_cmpR op_le (pe_ix ix_tup (pv 0) pe_int (fun _ _ => rfl)) (pe_ix ix_tup (pv 0) pe_int (fun _ _ => rfl)) (nomark _)))))))), ?_⟩)
  · obtain ⟨p, x0, z0, x1, z1, rfl, _⟩ := h
    rfl
  · obtain ⟨p, x0, z0, x1, z1, rfl, hp, ⟨hx, hz⟩, q⟩ := h
    walk_at "lw i0"
    walk_at "lw go"
    refine ⟨_, _, _, _, true, rfl, .ty "tuple", .base (.tup hp), kit_ty (by decide +kernel), ?_⟩
    walk_at "lw go"
    refine ⟨p, _, rfl, .inr (SqT.of hp), ?_⟩
    walk_at "lw go"
    refine iteNS rfl ?_
    walk_at "lw go"
    refine g_ixT (SqT.of hp) (v := .int x0) (atI_nat (j := 0) (by rfl)) ?_
    walk_at "lw go"
    refine g_ixT (SqT.of hp) (v := .int z0) (atI_nat (j := 1) (by rfl)) ?_
    walk_at "lw go"
    refine ⟨x0, z0, rfl, by omega, by omega, by omega, by omega, ?_⟩
    walk_at "lw go"
    refine g_ixT (SqT.of hp) (v := .int x1) (atI_nat (j := 2) (by rfl)) ?_
    walk_at "lw go"
    refine g_ixT (SqT.of hp) (v := .int z1) (atI_nat (j := 3) (by rfl)) ?_
    walk_at "lw go"
    refine ⟨x1, z1, rfl, by omega, by omega, by omega, by omega, ?_⟩
    walk_at "lw go"
    refine g_ixT (SqT.of hp) (v := .int x0) (atI_nat (j := 0) (by rfl)) ?_
    walk_at "lw go"
    refine g_ixT (SqT.of hp) (v := .int x1) (atI_nat (j := 2) (by rfl)) ?_
    walk_at "lw go"
    refine iteS hx.2.1 ?_
    walk_at "lw go"
    refine g_ixT (SqT.of hp) (v := .int z0) (atI_nat (j := 1) (by rfl)) ?_
    walk_at "lw go"
    refine g_ixT (SqT.of hp) (v := .int z1) (atI_nat (j := 3) (by rfl)) ?_
    walk_at "lw go"
    rw [decide_eq_true hz.2.1]
    exact q
abbrev N_must_box : List Str := ["box"]
theorem sc_must_box : FnScope N_must_box ["box"] (defScope s_must_box) := ⟨rfl, rfl, rfl, by decide +kernel, rfl, by decide +kernel, by decide +kernel⟩
theorem ok_must_box (F : FnP K "must_box" s_must_box f fd) (T : Bi mg) (G : Kn w K mg) (D_is_box : Df P w K mg base "is_box" ["thing"] 2 spIsBox) : FnOk P w K mg base CX0 3 f fd ["box"] spMustBox := by
  refine F.ok sc_must_box (fun vs H Q E h => ?_) (fun cdv A outer s H vs Q E hr h => ⟨_, PSs.nox
(pss_one (ps_if (pt_not (pt_val (pe_df D_is_box (hr.mono (by first | decide | omega)) (pa_cons (pv 0) pa_nil))))
  pss_never
  pss_nil)), ?_⟩)
  · obtain ⟨p, x0, z0, x1, z1, rfl, _⟩ := h
    rfl
  · obtain ⟨p, x0, z0, x1, z1, rfl, hp, ho, q⟩ := h
    walk_at "lw i0"
    walk_at "lw go"
    refine ⟨p, x0, z0, x1, z1, rfl, hp, ho, ?_⟩
    walk_at "lw go"
    exact q
abbrev N_must_box_of : List Str := ["box", "most"]
theorem sc_must_box_of : FnScope N_must_box_of ["box", "most"] (defScope s_must_box_of) := ⟨rfl, rfl, rfl, by decide +kernel, rfl, by decide +kernel, by decide +kernel⟩
theorem ok_must_box_of (F : FnP K "must_box_of" s_must_box_of f fd) (T : Bi mg) (G : Kn w K mg) (D_must_box : Df P w K mg base "must_box" ["box"] 3 spMustBox) : FnOk P w K mg base CX0 4 f fd ["box", "most"] spBoxOf := by
  refine F.ok sc_must_box_of (fun vs H Q E h => ?_) (fun cdv A outer s H vs Q E hr h => ⟨_, PSs.nox
(pss_cons (ps_expr (pe_df D_must_box (hr.mono (by first | decide | omega)) (pa_cons (pv 0) pa_nil)))
  (pss_one (ps_if (pt_cmpR op_gt (pe_op op_mul (pe_op op_add (pe_op op_sub (pe_ix ix_tup (pv 0) pe_int (fun _ _ => rfl)) (pe_ix ix_tup (pv 0) pe_int (fun _ _ => rfl))) pe_int) (pe_op op_add (pe_op op_sub (pe_ix ix_tup (pv 0) pe_int (fun _ _ => rfl)) (pe_ix ix_tup (pv 0) pe_int (fun _ _ => rfl))) pe_int)) (pv 1) (nomark _))
  pss_never
  pss_nil))), ?_⟩)
  · obtain ⟨p, x0, z0, x1, z1, m, rfl, _⟩ := h
    rfl
  · obtain ⟨p, x0, z0, x1, z1, m, rfl, hp, ob, hm, q⟩ := h
    walk_at "lw i0"
    have ob' := ob
    obtain ⟨⟨a1, a2, a3⟩, a4, a5, a6⟩ := ob'
    walk_at "lw go"
    refine ⟨p, x0, z0, x1, z1, rfl, hp, ob, ?_⟩
    walk_at "lw go"
    refine g_ixT (SqT.of hp) (v := .int x1) (atI_nat (j := 2) (by rfl)) ?_
    walk_at "lw go"
    refine g_ixT (SqT.of hp) (v := .int x0) (atI_nat (j := 0) (by rfl)) ?_
    walk_at "lw go"
    refine g_ixT (SqT.of hp) (v := .int z1) (atI_nat (j := 3) (by rfl)) ?_
    walk_at "lw go"
    refine g_ixT (SqT.of hp) (v := .int z0) (atI_nat (j := 1) (by rfl)) ?_
    walk_at "lw go"
    refine iteNo (by omega) (g_next ?_)
    walk_at "lw go"
    exact q
abbrev N_points_of : List Str := ["box"]
theorem sc_points_of : FnScope N_points_of ["box"] (defScope s_points_of) := ⟨rfl, rfl, rfl, by decide +kernel, rfl, by decide +kernel, by decide +kernel⟩
theorem ok_points_of (F : FnP K "points_of" s_points_of f fd) (T : Bi mg) (G : Kn w K mg)  : FnOk P w K mg base CX0 1 f fd ["box"] spPts := by
  refine F.ok sc_points_of (fun vs H Q E h => ?_) (fun cdv A outer s H vs Q E hr h => ⟨_, PSs.nox
(pss_one (ps_ret (pe_op op_mul (pe_op op_add (pe_op op_sub (pe_ix ix_tup (pv 0) pe_int (fun _ _ => rfl)) (pe_ix ix_tup (pv 0) pe_int (fun _ _ => rfl))) pe_int) (pe_op op_add (pe_op op_sub (pe_ix ix_tup (pv 0) pe_int (fun _ _ => rfl)) (pe_ix ix_tup (pv 0) pe_int (fun _ _ => rfl))) pe_int)))), ?_⟩)
  · obtain ⟨p, x0, z0, x1, z1, rfl, _⟩ := h
    rfl
  · obtain ⟨p, x0, z0, x1, z1, rfl, hp, a1, a2, a3, a4, a5, a6, a7, a8, q⟩ := h
    walk_at "lw i0"
    walk_at "lw go"
    refine g_ixT (SqT.of hp) (v := .int x1) (atI_nat (j := 2) (by rfl)) ?_
    walk_at "lw go"
    refine g_ixT (SqT.of hp) (v := .int x0) (atI_nat (j := 0) (by rfl)) ?_
    walk_at "lw go"
    refine g_ixT (SqT.of hp) (v := .int z1) (atI_nat (j := 3) (by rfl)) ?_
    walk_at "lw go"
    refine g_ixT (SqT.of hp) (v := .int z0) (atI_nat (j := 1) (by rfl)) ?_
    walk_at "lw go"
    exact q
abbrev N_knot : List Str := ["seed", "salt", "i", "j", "first", "second", "third"]
theorem sc_knot : FnScope N_knot ["seed", "salt", "i", "j"] (defScope s_knot) := ⟨rfl, rfl, rfl, by decide +kernel, rfl, by decide +kernel, by decide +kernel⟩
theorem ok_knot (F : FnP K "knot" s_knot f fd) (T : Bi mg) (G : Kn w K mg)  : FnOk P w K mg base CX0 1 f fd ["seed", "salt", "i", "j"] spKnot := by
  refine F.ok sc_knot (fun vs H Q E h => ?_) (fun cdv A outer s H vs Q E hr h => ⟨_, PSs.nox
(pss_cons (ps_set (i := 4) sc_knot.nd rfl (Or.inl rfl) (pe_op op_mod (pe_op op_add (pe_op op_add (pv 0) (pe_op op_mul pe_int (pv 1))) pe_int) pe_int))
  (pss_cons (ps_set (i := 5) sc_knot.nd rfl (Or.inl rfl) (pe_op op_mod (pe_op op_add (pe_op op_add (pe_op op_mul (pv 4) (pv 4)) (pe_op op_mul pe_int (pv 2))) pe_int) pe_int))
  (pss_cons (ps_set (i := 6) sc_knot.nd rfl (Or.inl rfl) (pe_op op_mod (pe_op op_add (pe_op op_add (pe_op op_mul (pv 5) (pv 5)) (pe_op op_mul pe_int (pv 3))) pe_int) pe_int))
  (pss_one (ps_ret (pe_op op_mod (pe_op op_mod (pe_op op_add (pe_op op_mul (pv 6) (pv 6)) (pv 6)) pe_int) pe_int)))))), ?_⟩)
  · obtain ⟨a, b, c, d, rfl, _⟩ := h
    rfl
  · obtain ⟨a, b, c, d, rfl, q⟩ := h
    walk_at "lw i0"
    walk_at "lw go"
    exact q
abbrev N_four_knots : List Str := ["seed", "salt", "i", "j", "first", "start", "second", "beside", "turn", "one", "three", "two", "four"]
theorem sc_four_knots : FnScope N_four_knots ["seed", "salt", "i", "j"] (defScope s_four_knots) := ⟨rfl, rfl, rfl, by decide +kernel, rfl, by decide +kernel, by decide +kernel⟩
theorem ok_four_knots (F : FnP K "four_knots" s_four_knots f fd) (T : Bi mg) (G : Kn w K mg)  : FnOk P w K mg base CX0 1 f fd ["seed", "salt", "i", "j"] spFour := by
  refine F.ok sc_four_knots (fun vs H Q E h => ?_) (fun cdv A outer s H vs Q E hr h => ⟨_, PSs.nox
(pss_cons (ps_set (i := 4) sc_four_knots.nd rfl (Or.inl rfl) (pe_op op_mod (pe_op op_add (pe_op op_add (pv 0) (pe_op op_mul pe_int (pv 1))) pe_int) pe_int))
  (pss_cons (ps_set (i := 5) sc_four_knots.nd rfl (Or.inl rfl) (pe_op op_add (pe_op op_add (pe_op op_mul (pv 4) (pv 4)) (pe_op op_mul pe_int (pv 2))) pe_int))
  (pss_cons (ps_set (i := 6) sc_four_knots.nd rfl (Or.inl rfl) (pe_op op_mod (pv 5) pe_int))
  (pss_cons (ps_set (i := 7) sc_four_knots.nd rfl (Or.inl rfl) (pe_op op_mod (pe_op op_add (pv 5) pe_int) pe_int))
  (pss_cons (ps_set (i := 8) sc_four_knots.nd rfl (Or.inl rfl) (pe_op op_add (pe_op op_mul pe_int (pv 3)) pe_int))
  (pss_cons (ps_set (i := 5) sc_four_knots.nd rfl (Or.inl rfl) (pe_op op_add (pe_op op_mul (pv 6) (pv 6)) (pv 8)))
  (pss_cons (ps_set (i := 9) sc_four_knots.nd rfl (Or.inl rfl) (pe_op op_mod (pv 5) pe_int))
  (pss_cons (ps_set (i := 10) sc_four_knots.nd rfl (Or.inl rfl) (pe_op op_mod (pe_op op_add (pv 5) pe_int) pe_int))
  (pss_cons (ps_set (i := 5) sc_four_knots.nd rfl (Or.inl rfl) (pe_op op_add (pe_op op_mul (pv 7) (pv 7)) (pv 8)))
  (pss_cons (ps_set (i := 11) sc_four_knots.nd rfl (Or.inl rfl) (pe_op op_mod (pv 5) pe_int))
  (pss_cons (ps_set (i := 12) sc_four_knots.nd rfl (Or.inl rfl) (pe_op op_mod (pe_op op_add (pv 5) pe_int) pe_int))
  (pss_one (ps_ret (pe_tup (pa_cons (pe_op op_mod (pe_op op_mod (pe_op op_add (pe_op op_mul (pv 9) (pv 9)) (pv 9)) pe_int) pe_int) (pa_cons (pe_op op_mod (pe_op op_mod (pe_op op_add (pe_op op_mul (pv 11) (pv 11)) (pv 11)) pe_int) pe_int) (pa_cons (pe_op op_mod (pe_op op_mod (pe_op op_add (pe_op op_mul (pv 10) (pv 10)) (pv 10)) pe_int) pe_int) (pa_cons (pe_op op_mod (pe_op op_mod (pe_op op_add (pe_op op_mul (pv 12) (pv 12)) (pv 12)) pe_int) pe_int) pa_nil)))))))))))))))))), ?_⟩)
  · obtain ⟨g, s, i, j, rfl, _⟩ := h
    rfl
  · obtain ⟨g, s0, i, j, rfl, q⟩ := h
    walk_at "lw i0"
    obtain ⟨a, hA, a0, a1⟩ : ∃ a, (g + 48271 * s0 + 7) % 2147483647 = a ∧ 0 ≤ a ∧ a < 2147483647 := ⟨_, rfl, by omega, by omega⟩
    obtain ⟨b, hB, b0, b1⟩ : ∃ b, (a * a + 69621 * i + 1) % 2147483629 = b ∧ 0 ≤ b ∧ b < 2147483629 := ⟨_, rfl, by omega, by omega⟩
    obtain ⟨c, hC, c0, c1⟩ : ∃ c, (a * a + 69621 * i + 1 + 69621) % 2147483629 = c ∧ 0 ≤ c ∧ c < 2147483629 := ⟨_, rfl, by omega, by omega⟩
    obtain ⟨k1, h1, k10, k11⟩ : ∃ k, (b * b + (16807 * j + 1)) % 2147483587 = k ∧ 0 ≤ k ∧ k < 2147483587 := ⟨_, rfl, by omega, by omega⟩
    obtain ⟨k2, h2, k20, k21⟩ : ∃ k, (c * c + (16807 * j + 1)) % 2147483587 = k ∧ 0 ≤ k ∧ k < 2147483587 := ⟨_, rfl, by omega, by omega⟩
    obtain ⟨k3, h3, k30, k31⟩ : ∃ k, (b * b + (16807 * j + 1) + 16807) % 2147483587 = k ∧ 0 ≤ k ∧ k < 2147483587 := ⟨_, rfl, by omega, by omega⟩
    obtain ⟨k4, h4, k40, k41⟩ : ∃ k, (c * c + (16807 * j + 1) + 16807) % 2147483587 = k ∧ 0 ≤ k ∧ k < 2147483587 := ⟨_, rfl, by omega, by omega⟩
    have hq : fourV g s0 i j = [.int ((k1 * k1 + k1) % 2147483579 % 65536), .int ((k2 * k2 + k2) % 2147483579 % 65536), .int ((k3 * k3 + k3) % 2147483579 % 65536), .int ((k4 * k4 + k4) % 2147483579 % 65536)] := by
      rw [← four_eq]
      subst hA hB hC h1 h2 h3 h4
      rfl
    rw [hq] at q
    clear hq
    with_reducible refine' g_seq ?_
    walk_at "lw st"
    rw [hA]
    clear hA
    with_reducible refine' g_seq ?_
    walk_at "lw st"
    with_reducible refine' g_seq ?_
    walk_at "lw st"
    rw [hB]
    with_reducible refine' g_seq ?_
    walk_at "lw st"
    rw [hC]
    clear hB hC
    with_reducible refine' g_seq ?_
    walk_at "lw st"
    with_reducible refine' g_seq ?_
    walk_at "lw st"
    with_reducible refine' g_seq ?_
    walk_at "lw st"
    rw [h1]
    with_reducible refine' g_seq ?_
    walk_at "lw st"
    rw [h3]
    clear h1 h3
    with_reducible refine' g_seq ?_
    walk_at "lw st"
    with_reducible refine' g_seq ?_
    walk_at "lw st"
    rw [h2]
    with_reducible refine' g_seq ?_
    walk_at "lw st"
    rw [h4]
    clear h2 h4
    walk_at "lw go"
    exact ⟨by show 4 ≤ sizeLine; decide, fun p hp => q p hp⟩
abbrev N_knot_row : List Str := ["seed", "salt", "i", "places", "first", "second", "start", "thirds", "j", "third"]
theorem sc_knot_row : FnScope N_knot_row ["seed", "salt", "i", "places"] (defScope s_knot_row) := ⟨rfl, rfl, rfl, by decide +kernel, rfl, by decide +kernel, by decide +kernel⟩
theorem ok_knot_row (F : FnP K "knot_row" s_knot_row f fd) (T : Bi mg) (G : Kn w K mg)  : FnOk P w K mg base CX0 1 f fd ["seed", "salt", "i", "places"] spKrow := by
  refine F.ok sc_knot_row (fun vs H Q E h => ?_) (fun cdv A outer s H vs Q E hr h => ⟨_, PSs.nox
(pss_cons (ps_set (i := 4) sc_knot_row.nd rfl (Or.inl rfl) (pe_op op_mod (pe_op op_add (pe_op op_add (pv 0) (pe_op op_mul pe_int (pv 1))) pe_int) pe_int))
  (pss_cons (ps_set (i := 5) sc_knot_row.nd rfl (Or.inl rfl) (pe_op op_mod (pe_op op_add (pe_op op_add (pe_op op_mul (pv 4) (pv 4)) (pe_op op_mul pe_int (pv 2))) pe_int) pe_int))
  (pss_cons (ps_set (i := 6) sc_knot_row.nd rfl (by first | exact Or.inr rfl | exact Or.inl rfl) (pe_op op_add (pe_op op_mul (pv 5) (pv 5)) pe_int))
  (pss_cons (ps_setLc (i := 7) (own := [("j", 8)]) (g := gName 8) (tt := tYes) rfl sc_knot_row.nd rfl rfl (sw_true rfl rfl rfl (by decide +kernel)) (pi_list (pv 3)) (blkOk_by (N := N_knot_row) (sc := defScope s_knot_row) (by decide +kernel)) (fun _ _ _ _ _ => pg_name (i := 8) sc_knot_row.nd rfl (by first | exact Or.inl rfl | exact Or.inr rfl)) (fun _ _ _ _ _ => pts_nil) (fun _ _ _ _ _ => (pe_op op_mod (pe_op op_add (pv 6) (pe_op op_mul pe_int (pv 8))) pe_int)))
  (pss_one (ps_ret (pe_lc (own := [("third", 9)]) (g := gName 9) (tt := tYes) rfl sc_knot_row.nd (pi_list (pv 7)) (blkOk_by (N := N_knot_row) (sc := defScope s_knot_row) (by decide +kernel)) (fun _ _ _ _ _ => pg_name (i := 9) sc_knot_row.nd rfl (by first | exact Or.inl rfl | exact Or.inr rfl)) (fun _ _ _ _ _ => pts_nil) (fun _ _ _ _ _ => (pe_op op_mod (pe_op op_mod (pe_op op_add (pe_op op_mul (pv 9) (pv 9)) (pv 9)) pe_int) pe_int))))))))), ?_⟩)
  · obtain ⟨g, s, i, pl, ps, rfl, _⟩ := h
    rfl
  · obtain ⟨g, s, i, pl, ps, rfl, hp, hpn, q⟩ := h
    walk_at "lw i0"
    obtain ⟨A, eA⟩ : ∃ A, (g + 48271 * s + 7) % 2147483647 = A := ⟨_, rfl⟩
    obtain ⟨B, eB⟩ : ∃ B, (A * A + 69621 * i + 1) % 2147483629 = B := ⟨_, rfl⟩
    walk_at "lw go"
    rw [eA, eB]
    refine ⟨pl, rfl, ⟨_, SqL.of hp⟩, fun D hD => lc_list (xs := ps.map V.int) (fun i H' => Same H H' ∧ H' D = some (.lst ((ps.take i).map fun j => V.int ((B * B + 1 + 16807 * j) % 2147483587)))) ⟨same_new hD, upd_same⟩ (fun i H' _ ⟨s, _⟩ => SqL.of (s _ _ hp)) ?_ ?_⟩
    · rintro k y H' hk ⟨s1, hd⟩
      obtain ⟨j, hj, rfl⟩ : ∃ j, ps[k]? = some j ∧ y = .int j := by
        rw [List.getElem?_map] at hk
        cases e : ps[k]? with
        | none => rw [e] at hk; cases hk
        | some j => rw [e] at hk; exact ⟨j, rfl, by cases hk; rfl⟩
      walk_at "lw go"
      refine ⟨rfl, g_yes (iteT ?_)⟩
      walk_at "lw go"
      have hk2 : k < ps.length := by
        rcases Nat.lt_or_ge k ps.length with h | h
        · exact h
        · rw [List.getElem?_eq_none h] at hj; cases hj
      refine ⟨_, hd, small_size (by simp; omega), same_put s1 hD, ?_⟩
      rw [upd_same, List.take_succ, hj, List.map_append]
      rfl
    · rintro H' ⟨s1, hd⟩
      have hd : H' D = some (.lst (ps.map fun j => V.int ((B * B + 1 + 16807 * j) % 2147483587))) := by
        rw [hd, List.length_map, List.take_length]
      walk_at "lw go"
      refine ⟨D, rfl, ⟨_, SqL.of hd⟩, fun D2 hD2 => lc_list (xs := ps.map fun j => V.int ((B * B + 1 + 16807 * j) % 2147483587)) (fun i' H'' => Same H' H'' ∧ H'' D2 = some (.lst ((ps.take i').map fun j => V.int (knotL g s i j)))) ⟨same_new hD2, upd_same⟩ (fun i H'' _ ⟨s2, _⟩ => SqL.of (s2 _ _ hd)) ?_ ?_⟩
      · rintro k y H'' hk ⟨s2, hd2⟩
        obtain ⟨j, hj, rfl⟩ : ∃ j, ps[k]? = some j ∧ y = .int ((B * B + 1 + 16807 * j) % 2147483587) := by
          rw [List.getElem?_map] at hk
          cases e : ps[k]? with
          | none => rw [e] at hk; cases hk
          | some j => rw [e] at hk; exact ⟨j, rfl, by cases hk; rfl⟩
        have hk2 : k < ps.length := by
          rcases Nat.lt_or_ge k ps.length with h | h
          · exact h
          · rw [List.getElem?_eq_none h] at hj; cases hj
        walk_at "lw go"
        refine ⟨rfl, g_yes (iteT ?_)⟩
        walk_at "lw go"
        refine ⟨_, hd2, small_size (by simp; omega), same_put s2 hD2, ?_⟩
        rw [upd_same, List.take_succ, hj, List.map_append]
        have e : knotL g s i j = ((B * B + 1 + 16807 * j) % 2147483587 * ((B * B + 1 + 16807 * j) % 2147483587) + (B * B + 1 + 16807 * j) % 2147483587) % 2147483579 % 65536 := by
          rw [← eB, ← eA, knot_row_eq]
        rw [← e]
        rfl
      · rintro H'' ⟨s2, hd2⟩
        rw [List.length_map, List.take_length] at hd2
        exact q D2 H'' (by cases e : H D2 with | none => rfl | some u => rw [s1 _ _ e] at hD2; cases hD2) (s1.trans s2) (by rw [hd2, List.map_map]; rfl)
abbrev N_ranks_of : List Str := ["seed", "salt", "box", "places", "many", "left", "ranks", "x", "knots", "place", "knot"]
theorem sc_ranks_of : FnScope N_ranks_of ["seed", "salt", "box"] (defScope s_ranks_of) := ⟨rfl, rfl, rfl, by decide +kernel, rfl, by decide +kernel, by decide +kernel⟩
theorem ok_ranks_of (F : FnP K "ranks_of" s_ranks_of f fd) (T : Bi mg) (G : Kn w K mg) (D_points_of : Df P w K mg base "points_of" ["box"] 1 spPts) (D_knot_row : Df P w K mg base "knot_row" ["seed", "salt", "i", "places"] 1 spKrow) : FnOk P w K mg base CX0 2 f fd ["seed", "salt", "box"] spRanks := by
  refine F.ok sc_ranks_of (fun vs H Q E h => ?_) (fun cdv A outer s H vs Q E hr h => ⟨_, PSs.nox
(pss_cons (ps_set (i := 3) sc_ranks_of.nd rfl (Or.inl rfl) (pe_listRg rfl (by rfl) T.list (prg_2 (by rfl) T.range (pe_ix ix_tup (pv 2) pe_int (fun _ _ => rfl)) (pe_op op_add (pe_ix ix_tup (pv 2) pe_int (fun _ _ => rfl)) pe_int))))
  (pss_cons (ps_set (i := 4) sc_ranks_of.nd rfl (by first | exact Or.inr rfl | exact Or.inl rfl) (pe_df D_points_of (hr.mono (by first | decide | omega)) (pa_cons (pv 2) pa_nil)))
  (pss_cons (ps_set (i := 5) sc_ranks_of.nd rfl (by first | exact Or.inr rfl | exact Or.inl rfl) (pv 4))
  (pss_cons (ps_set (i := 6) sc_ranks_of.nd rfl (Or.inl rfl) (pe_lst pa_nil))
  (pss_cons (ps_for PassesOwn.never rfl (pi_range2 (by rfl) T.range (pa_cons (pe_ix ix_tup (pv 2) pe_int (fun _ _ => rfl)) (pa_cons (pe_op op_add (pe_ix ix_tup (pv 2) pe_int (fun _ _ => rfl)) pe_int) pa_nil))) (pg_name (i := 7) sc_ranks_of.nd rfl (Or.inl rfl))
  (pss_cons (ps_set (i := 8) sc_ranks_of.nd rfl (Or.inl rfl) (pe_df D_knot_row (hr.mono (by first | decide | omega)) (pa_cons (pv 0) (pa_cons (pv 1) (pa_cons (pv 7) (pa_cons (pv 3) pa_nil))))))
  (pss_cons (ps_expr (pe_bm PySem.F.plainAttrs_list PySem.F.slot_list_append PySem.F.type_list_append mt_append (pv 6) (pa_cons (pe_lc (own := [("place", 9), ("knot", 10)]) (g := gTup K 2 (gCons (gName 9) (gCons (gName 10) gNil))) (tt := tYes) rfl sc_ranks_of.nd (El.pi_enumL (by rfl) T.enumerate (pa_cons (pv 8) (pa_cons pe_int pa_nil))) (blkOk_by (N := N_ranks_of) (sc := defScope s_ranks_of) (by decide +kernel)) (fun _ _ _ _ _ => pg_tup (by rfl) (pgs_cons (pg_name (i := 9) sc_ranks_of.nd rfl (Or.inl rfl)) (pgs_cons (pg_name (i := 10) sc_ranks_of.nd rfl (Or.inl rfl)) pgs_nil))) (fun _ _ _ _ _ => pts_nil) (fun _ _ _ _ _ => (pe_op op_sub (pe_op op_add (pe_op op_mul (pv 4) (pv 10)) (pv 5)) (pv 9)))) pa_nil)))
  (pss_one (ps_aug (i := 5) sc_ranks_of.nd rfl (by first | exact Or.inl rfl | exact Or.inr rfl) (pe_callB call_len_seq (by rfl) T.len (by decide +kernel) (pa_cons (pv 3) pa_nil)) ip_sub)))))
  (pss_one (ps_ret (pv 6)))))))), ?_⟩)
  · obtain ⟨g, s, p, X0, Z0, X1, Z1, W, D, rfl, _⟩ := h
    rfl
  · obtain ⟨g, s, p, X0, Z0, X1, Z1, W, D, rfl, hp, hW, hD, W1, W2, D1, D2, a1, a2, a3, a4, q⟩ := h
    walk_at "lw i0"
    walk_at "lw go"
    refine g_listRg (g_rg2 ?_)
    walk_at "lw go"
    refine g_ixT (SqT.of hp) (v := .int Z0) (atI_nat (j := 1) (by rfl)) ?_
    walk_at "lw go"
    refine g_ixT (SqT.of hp) (v := .int Z1) (atI_nat (j := 3) (by rfl)) ?_
    walk_at "lw go"
    refine ⟨Z0, Z1 + 1, rfl, rfl, ⟨by omega, by omega, by omega, by omega, by omega⟩, fun pl hpl => ?_⟩
    have s1 := same_new (o := .lst (rgV Z0 (Z1 + 1))) hpl
    have fpl := @upd_same H pl (.lst (rgV Z0 (Z1 + 1)))
    obtain ⟨H1, e1⟩ : ∃ G, upd H pl (.lst (rgV Z0 (Z1 + 1))) = G := ⟨_, rfl⟩
    rw [e1] at s1 fpl ⊢
    clear e1
    have elen : (Z1 + 1 - Z0).toNat = D := by omega
    have hM : (0 : Int) ≤ (W : Int) * D ∧ (W : Int) * D ≤ 1000000 := by
      have h1 : W * D ≤ 1000 * 1000 := Nat.mul_le_mul W2 D2
      rw [← Int.natCast_mul]
      omega
    walk_at "lw go"
    refine ⟨p, X0, Z0, X1, Z1, rfl, s1 _ _ hp, by omega, by omega, by omega, by omega, by omega, by omega, by omega, by omega, ?_⟩
    rw [hW, hD]
    walk_at "lw go"
    refine ⟨by show 0 ≤ sizeLine; decide, fun r hr => ?_⟩
    have s2 := same_new (o := .lst []) hr
    have fr := @upd_same H1 r (.lst [])
    have npr : pl ≠ r := fun z => by rw [← z, fpl] at hr; cases hr
    have xr : H r = none := by
      cases e : H r with
      | none => rfl
      | some o => rw [s1 _ _ e] at hr; cases hr
    have s12 := s1.trans s2
    replace fpl := s2 _ _ fpl
    obtain ⟨H2, e2⟩ : ∃ G, upd H1 r (.lst []) = G := ⟨_, rfl⟩
    rw [e2] at s12 fr fpl ⊢
    clear e2 s1 s2
    walk_at "lw go"
    refine g_rng2 ?_
    walk_at "lw go"
    refine g_ixT (SqT.of (s12 _ _ hp)) (v := .int X0) rfl ?_
    walk_at "lw go"
    refine g_ixT (SqT.of (s12 _ _ hp)) (v := .int X1) (atI_nat (j := 2) (by rfl)) ?_
    walk_at "lw go"
    refine ⟨X0, X1 + 1, rfl, ⟨by omega, by omega, by omega, by omega⟩, ?_⟩
    refine for_range (n := (X1 + 1 - X0).toNat) (fun i σ G => ∃ (o7 o8 o9 o10 : Option V) (ls : List Addr), σ = [some (.int g), some (.int s), some (.ref p), some (.ref pl), some (.int ((W : Int) * D)), some (.int ((W : Int) * D - (i : Nat) * D)), some (.ref r), o7, o8, o9, o10] ∧ Same H G ∧ G pl = some (.lst (rgV Z0 (Z1 + 1))) ∧ G r = some (.lst (ls.map V.ref)) ∧ RowsR G ls ((matF g s X0 Z0 W D).take i) ∧ ∀ l ∈ ls, l ≠ r)
      ⟨_, _, _, _, [], by rw [show ((0 : Nat) : Int) * (D : Int) = 0 by simp, Int.sub_zero], s12, fpl, fr, .nil, fun l hl => nomatch hl⟩ ?_ ?_
    · rintro i σ G hi ⟨o7, o8, o9, o10, ls, rfl, sG, fpl, fr, hR, nr⟩
      walk_at "lw go"
      refine ⟨g, s, X0 + (i : Nat), pl, (List.range (Z1 + 1 - Z0).toNat).map fun i : Nat => Z0 + i, rfl, by rw [fpl, rgV_ints], by rw [List.length_map, List.length_range]; omega, fun kl G2 hkl s3 fkl => ?_⟩
      walk_at "lw go"
      replace fkl : G2 kl = some (.lst (((List.range D).map fun k : Nat => knotL g s (X0 + (i : Nat)) (Z0 + (k : Nat))).map V.int)) := by
        rw [fkl, elen]
        simp [List.map_map, Function.comp_def]
      refine ⟨tyL (s3 _ _ fr), ?_⟩
      walk_at "lw go"
      refine El.g_enumL ?_
      walk_at "lw go"
      refine ⟨kl, 1, _, rfl, SqL.of fkl, by omega, by omega, fun L hL => ?_⟩
      refine El.it_enumL (xs := ((List.range D).map fun k : Nat => knotL g s (X0 + (i : Nat)) (Z0 + (k : Nat))).map V.int) (fun k G' => Same G2 G' ∧ G' L = some (.lst (((rowF g s X0 Z0 W D i).take k).map V.int))) ⟨same_new hL, upd_same⟩ (fun k G' ⟨sI, _⟩ => SqL.of (sI _ _ fkl)) ?_ ?_
      · rintro k x T G' hx ⟨sI, hLl⟩ hT
        have hk : k < D := by
          have := (List.getElem?_eq_some_iff.mp hx).1
          rw [List.length_map, List.length_map, List.length_range] at this
          exact this
        obtain rfl : x = .int (knotL g s (X0 + (i : Nat)) (Z0 + (k : Nat))) := by
          rw [List.getElem?_map, List.getElem?_map, List.getElem?_range hk] at hx
          exact (Option.some.inj hx).symm
        have sT := same_new (o := .tup [.int (1 + (k : Nat)), .int (knotL g s (X0 + (i : Nat)) (Z0 + (k : Nat)))]) hT
        have fT := @upd_same G' T (.tup [.int (1 + (k : Nat)), .int (knotL g s (X0 + (i : Nat)) (Z0 + (k : Nat)))])
        obtain ⟨G3, e3⟩ : ∃ G3, upd G' T (.tup [.int (1 + (k : Nat)), .int (knotL g s (X0 + (i : Nat)) (Z0 + (k : Nat)))]) = G3 := ⟨_, rfl⟩
        rw [e3] at sT fT ⊢
        clear e3
        have hkn := knot_in g s (X0 + (i : Nat)) (Z0 + (k : Nat))
        walk_at "lw go"
        refine g_tupT (SqT.of fT) rfl ?_
        walk_at "lw go"
        refine ⟨rfl, g_yes ?_⟩
        walk_at "lw go"
        refine ⟨_, sT _ _ hLl, (by rw [List.length_map, List.length_take, sizeLine_eq]; omega), same_put (sI.trans sT) hL, ?_⟩
        rw [upd_same, row_take hk, List.map_append]
        rw [show ((W : Int) * D) * knotL g s (X0 + (i : Nat)) (Z0 + (k : Nat)) + ((W : Int) * D - (i : Nat) * D) - (1 + (k : Nat)) = rankF g s X0 Z0 D (W * D) (X0 + (i : Nat)) (Z0 + (k : Nat)) from rank_eq]
        rfl
      · rintro G' ⟨sI, hLl⟩
        have er : (rowF g s X0 Z0 W D i).length = D := by unfold rowF; rw [List.length_map, List.length_range]
        rw [List.length_map, List.length_map, List.length_range, List.take_of_length_le (Nat.le_of_eq er)] at hLl
        have xL : G L = none := by
          cases e : G L with
          | none => rfl
          | some o => rw [s3 _ _ e] at hL; cases hL
        have nLr : L ≠ r := fun z => by rw [z, fr] at xL; cases xL
        walk_at "lw go"
        refine g_append (sI _ _ (s3 _ _ fr)) (by rw [List.length_map]; have := Paired.length hR; rw [this, List.length_take, sizeLine_eq]; omega) ?_
        have s45 := s3.trans sI
        have fr' := @upd_same G' r (.lst (ls.map V.ref ++ [.ref L]))
        have kr : Keep r G' (upd G' r (.lst (ls.map V.ref ++ [.ref L]))) := Keep.refl.put
        have sH := same_put (p := r) (o := .lst (ls.map V.ref ++ [.ref L])) (sG.trans s45) xr
        have fL := kr _ _ nLr hLl
        have fp := kr _ _ npr (s45 _ _ fpl)
        have hR' := RowsR.put (o := .lst (ls.map V.ref ++ [.ref L])) (s45 _ _ fr) nr (hR.same s45)
        obtain ⟨G5, e5⟩ : ∃ G5, upd G' r (.lst (ls.map V.ref ++ [.ref L])) = G5 := ⟨_, rfl⟩
        rw [e5] at fr' sH fL fp hR' ⊢
        clear e5
        walk_at "lw go"
        refine ⟨_, rfl, ?_⟩
        walk_at "lw go"
        refine ⟨pl, _, rfl, .inl (SqL.of fp), ?_⟩
        refine ⟨_, _, rfl, rfl, ?_⟩
        dsimp only [List.set_cons_succ, List.set_cons_zero]
        have ev : ((W : Int) * D - (i : Nat) * D - (rgV Z0 (Z1 + 1)).length) = (W : Int) * D - ((i + 1 : Nat) : Int) * D := by
          rw [rgV_length, elen, show ((i + 1 : Nat) : Int) * (D : Int) = (i : Int) * D + D by rw [show ((i + 1 : Nat) : Int) = (i : Int) + 1 by omega, Int.add_mul, Int.one_mul]]
          omega
        rw [ev]
        have hiW : i < W := by omega
        refine ⟨_, _, _, _, ls ++ [L], rfl, sH, fp, by rw [List.map_append]; exact fr', ?_, fun l hl => ?_⟩
        · rw [List.take_add_one, show (matF g s X0 Z0 W D)[i]? = some (rowF g s X0 Z0 W D i) by unfold matF; rw [List.getElem?_map, List.getElem?_range hiW]; rfl]
          exact hR'.snoc fL
        · rcases List.mem_append.mp hl with hl | hl
          · exact nr l hl
          · rw [List.mem_singleton.mp hl]; exact nLr
    · rintro σ G ⟨o7, o8, o9, o10, ls, rfl, sG, fpl, fr, hR, nr⟩
      walk_at "lw go"
      have et : (matF g s X0 Z0 W D).take (X1 + 1 - X0).toNat = matF g s X0 Z0 W D := by
        rw [show (X1 + 1 - X0).toNat = W by omega]
        exact List.take_of_length_le (by unfold matF; rw [List.length_map, List.length_range]; exact Nat.le_refl _)
      rw [et] at hR
      exact q r G xr sG ⟨ls, fr, hR⟩
abbrev N_greatest_near : List Str := ["ranks", "far", "wide", "rows", "at", "row", "found", "near", "column"]
theorem sc_greatest_near : FnScope N_greatest_near ["ranks", "far"] (defScope s_greatest_near) := ⟨rfl, rfl, rfl, by decide +kernel, rfl, by decide +kernel, by decide +kernel⟩
theorem ok_greatest_near (F : FnP K "greatest_near" s_greatest_near f fd) (T : Bi mg) (G : Kn w K mg)  : FnOk P w K mg base CX0 1 f fd ["ranks", "far"] spGreat := by
  refine F.ok sc_greatest_near (fun vs H Q E h => ?_) (fun cdv A outer s H vs Q E hr h => ⟨_, PSs.nox
(pss_cons (ps_set (i := 2) sc_greatest_near.nd rfl (by first | exact Or.inr rfl | exact Or.inl rfl) (pe_op op_add (pe_op op_mul pe_int (pv 1)) pe_int))
  (pss_cons (ps_setLc (i := 3) (own := [("row", 5)]) (g := gName 5) (tt := tYes) rfl sc_greatest_near.nd rfl rfl (sw_true rfl rfl rfl (by decide +kernel)) (pi_list (pv 0)) (blkOk_by (N := N_greatest_near) (sc := defScope s_greatest_near) (by decide +kernel)) (fun _ _ _ _ _ => pg_name (i := 5) sc_greatest_near.nd rfl (by first | exact Or.inl rfl | exact Or.inr rfl)) (fun _ _ _ _ _ => pts_nil) (fun _ _ _ _ _ => (pe_lc (own := [("at", 4)]) (g := gName 4) (tt := tYes) rfl sc_greatest_near.nd (pi_range1 (by rfl) T.range (pa_cons (pe_op op_sub (pe_callB (call_lenK (K := K)) (by rfl) T.len (by decide +kernel) (pa_cons (pv 5) pa_nil)) (pe_op op_mul pe_int (pv 1))) pa_nil)) (blkOk_by (N := N_greatest_near) (by kernel_rfl)) (fun _ _ _ _ _ => pg_name (i := 4) sc_greatest_near.nd rfl (by first | exact Or.inl rfl | exact Or.inr rfl)) (fun _ _ _ _ _ => pts_nil) (fun _ _ _ _ _ => (pe_callB (cr_maxK (K := K)) (by rfl) T.max (by decide +kernel) (pa_cons (pe_slice (sl_listK (K := K)) (pv 5) (po_some (pv 4)) (po_some (pe_op op_add (pv 4) (pv 2)))) pa_nil))))))
  (pss_cons (ps_set (i := 6) sc_greatest_near.nd rfl (Or.inl rfl) (pe_lst pa_nil))
  (pss_cons (ps_for PassesOwn.never rfl (pi_range1 (by rfl) T.range (pa_cons (pe_op op_sub (pe_callB call_len_seq (by rfl) T.len (by decide +kernel) (pa_cons (pv 3) pa_nil)) (pe_op op_mul pe_int (pv 1))) pa_nil)) (pg_name (i := 4) sc_greatest_near.nd rfl (by first | exact Or.inr rfl | exact Or.inl rfl))
  (pss_cons (ps_set (i := 7) sc_greatest_near.nd rfl (Or.inl rfl) (pe_slice sl_list (pv 3) (po_some (pv 4)) (po_some (pe_op op_add (pv 4) (pv 2)))))
  (pss_one (ps_expr (pe_bm PySem.F.plainAttrs_list PySem.F.slot_list_append PySem.F.type_list_append mt_append (pv 6) (pa_cons (pe_lc (own := [("column", 8)]) (g := gName 8) (tt := tYes) rfl sc_greatest_near.nd (Zn.pi_zn (by rfl) T.zip (pv 7)) (blkOk_by (N := N_greatest_near) (sc := defScope s_greatest_near) (by decide +kernel)) (fun _ _ _ _ _ => pg_name (i := 8) sc_greatest_near.nd rfl (by first | exact Or.inl rfl | exact Or.inr rfl)) (fun _ _ _ _ _ => pts_nil) (fun _ _ _ _ _ => (pe_callB (cr_maxTK (K := K)) (by rfl) T.max (by decide +kernel) (pa_cons (pv 8) pa_nil)))) pa_nil))))))
  (pss_one (ps_ret (pv 6))))))), ?_⟩)
  · obtain ⟨r, far, M, D, rfl, _⟩ := h
    rfl
  · obtain ⟨r, far, M, D, rfl, ⟨ls, hr, hM⟩, hrows, f1, f2, w1, w2, d1, d2, q⟩ := h
    walk_at "lw i0"
    have hlen : ls.length = M.length := Paired.length hM
    walk_at "lw go"
    refine ⟨r, rfl, ⟨_, SqL.of hr⟩, fun L1 hL1 => ?_⟩
    refine lc_list (xs := ls.map V.ref) (fun i G => Same H G ∧ ∃ acc : List Addr, G L1 = some (.lst (acc.map V.ref)) ∧ RowsR G acc ((winF M far D).take i) ∧ ∀ l ∈ acc, l ≠ L1) ⟨same_new hL1, [], upd_same, .nil, fun l hl => nomatch hl⟩ (fun i G _ ⟨s, _⟩ => SqL.of (s _ _ hr)) ?_ ?_
    · rintro i y G hy ⟨sG, acc, hacc, hR, nL⟩
      rw [List.getElem?_map] at hy
      obtain ⟨l, hl, rfl⟩ := Option.map_eq_some_iff.mp hy
      obtain ⟨ns, hns, hl1⟩ := hM.at_ hl
      have hnl : ns.length = D := hrows ns (List.mem_of_getElem? hns)
      have fl := sG _ _ hl1
      walk_at "lw go"
      refine ⟨rfl, g_yes ?_⟩
      walk_at "lw go"
      refine ⟨l, _, rfl, .inl (SqL.of fl), ?_⟩
      walk_at "lw go"
      refine ⟨_, rfl, by rw [List.length_map]; omega, by rw [List.length_map]; omega, fun L2 hL2 => ?_⟩
      refine lc_range (fun j G2 => Same G G2 ∧ G2 L2 = some (.lst (((rowMax far D ns).take j).map V.int))) ⟨same_new hL2, upd_same⟩ ?_ ?_
      · rintro j G2 hj ⟨sI, hLl⟩
        rw [List.length_map] at hj
        have hj2 : j < D - 2 * far := by omega
        rw [show (0 : Int) + (j : Nat) = (j : Nat) by omega]
        walk_at "lw go"
        refine ⟨rfl, g_yes ?_⟩
        walk_at "lw go"
        refine ⟨l, _, rfl, SqL.of (sI _ _ fl), fun pw hpw => ?_⟩
        rw [show 2 * (far : Int) + 1 = ((2 * far + 1 : Nat) : Int) by omega, cut_nat _ _ _ (by rw [List.length_map]; omega), ← List.map_drop, ← List.map_take]
        walk_at "lw go"
        refine ⟨pw, (ns.drop j).take (2 * far + 1), rfl, SqL.of upd_same, by rw [List.length_take, List.length_drop]; omega, fun mx h1 h2 => ?_⟩
        refine ⟨_, same_new hpw _ _ hLl, (by rw [List.length_map, List.length_take, sizeLine_eq]; have := Nat.min_le_left j (rowMax far D ns).length; omega), same_put (sI.trans (same_new hpw)) hL2, ?_⟩
        rw [upd_same, rowMax_take hj2, List.map_append, max_eq h1 h2]
        rfl
      · rintro G2 ⟨sI, hLl⟩
        have er : (rowMax far D ns).length = D - 2 * far := by unfold rowMax; rw [List.length_map, List.length_range]
        rw [List.length_map, List.take_of_length_le (by omega)] at hLl
        have xL : G L2 = none := hL2
        have nL2 : L2 ≠ L1 := fun z => by rw [z, hacc] at hL2; cases hL2
        have hR' := RowsR.put (o := .lst (acc.map V.ref ++ [.ref L2])) (sI _ _ hacc) nL (hR.same sI)
        have fL : upd G2 L1 (.lst (acc.map V.ref ++ [.ref L2])) L2 = some (.lst ((rowMax far D ns).map V.int)) := by rw [upd_ne nL2]; exact hLl
        refine ⟨acc.map V.ref, sI _ _ hacc, (by rw [List.length_map, Paired.length hR, List.length_take, sizeLine_eq]; have := Nat.min_le_right i (winF M far D).length; unfold winF at this; rw [List.length_map] at this; unfold winF; rw [List.length_map]; omega), same_put (sG.trans sI) hL1, acc ++ [L2], by rw [upd_same, List.map_append]; rfl, ?_, fun l2 hl2 => ?_⟩
        · rw [List.take_add_one, show (winF M far D)[i]? = some (rowMax far D ns) by unfold winF; rw [List.getElem?_map, hns]; rfl]
          exact hR'.snoc fL
        · rcases List.mem_append.mp hl2 with h | h
          · exact nL l2 h
          · rw [List.mem_singleton.mp h]; exact nL2
    · rintro G ⟨sG, acc, hacc, hR, nL⟩
      have ew : (winF M far D).length = M.length := by unfold winF; rw [List.length_map]
      rw [List.length_map, hlen, List.take_of_length_le (by omega)] at hR
      have hal : acc.length = M.length := by rw [Paired.length hR, ew]
      clear nL
      walk_at "lw go"
      refine ⟨by show 0 ≤ sizeLine; decide, fun fa hfa => ?_⟩
      have s2 := same_new (o := .lst []) hfa
      have ffa := @upd_same G fa (.lst [])
      have xfa : H fa = none := by
        cases e : H fa with
        | none => rfl
        | some o => rw [sG _ _ e] at hfa; cases hfa
      have nfa : fa ≠ L1 := fun z => by rw [z, hacc] at hfa; cases hfa
      replace sG := sG.trans s2
      replace hacc := s2 _ _ hacc
      replace hR := hR.same s2
      obtain ⟨G1, e1⟩ : ∃ G1, upd G fa (.lst []) = G1 := ⟨_, rfl⟩
      rw [e1] at sG hacc hR ffa ⊢
      clear e1 s2 hfa
      walk_at "lw go"
      refine ⟨L1, _, rfl, .inl (SqL.of hacc), ?_⟩
      walk_at "lw go"
      refine ⟨_, rfl, by rw [List.length_map]; omega, by rw [List.length_map]; omega, ?_⟩
      refine for_range (fun i σ G2 => ∃ (o4 o5 o7 o8 : Option V) (fs : List Addr), σ = [some (.ref r), some (.int far), some (.int (2 * far + 1)), some (.ref L1), o4, o5, some (.ref fa), o7, o8] ∧ Same H G2 ∧ G2 L1 = some (.lst (acc.map V.ref)) ∧ RowsR G2 acc (winF M far D) ∧ G2 fa = some (.lst (fs.map V.ref)) ∧ RowsR G2 fs ((nearF M far D).take i) ∧ (∀ l ∈ fs, l ≠ fa) ∧ (∀ l ∈ acc, l ≠ fa))
        ⟨_, _, _, _, [], rfl, sG, hacc, hR, ffa, .nil, (fun l hl => nomatch hl), ?_⟩ ?_ ?_
      · intro l hl z
        obtain ⟨k, hk⟩ := List.getElem?_of_mem hl
        obtain ⟨ns, _, hl1⟩ := hR.at_ hk
        rw [z, ffa] at hl1
        obtain ⟨row, hrow⟩ : ∃ row, (winF M far D)[k]? = some row := by
          obtain ⟨ns2, h3, _⟩ := hR.at_ hk
          exact ⟨ns2, h3⟩
        obtain ⟨ns2, h3, h4⟩ := hR.at_ hk
        rw [z, ffa] at h4
        unfold winF at h3
        rw [List.getElem?_map] at h3
        obtain ⟨m0, _, h5⟩ := Option.map_eq_some_iff.mp h3
        have : ns2.length = D - 2 * far := by rw [← h5]; unfold rowMax; rw [List.length_map, List.length_range]
        have h6 : ns2.map V.int = [] := by injection h4 with h4; injection h4 with h4; exact h4.symm
        have h7 := congrArg List.length h6
        rw [List.length_map, this] at h7
        simp at h7
        omega
      · rintro i σ G2 hi ⟨o4, o5, o7, o8, fs, rfl, sG2, hacc2, hR2, ffa2, hF, nfs, nac⟩
        rw [List.length_map, hal] at hi
        have hi2 : i < M.length - 2 * far := by omega
        rw [show (0 : Int) + (i : Nat) = (i : Nat) by omega]
        walk_at "lw go"
        refine ⟨L1, _, rfl, SqL.of hacc2, fun nl hnl => ?_⟩
        rw [show 2 * (far : Int) + 1 = ((2 * far + 1 : Nat) : Int) by omega, cut_nat _ _ _ (by rw [List.length_map]; omega), ← List.map_drop, ← List.map_take]
        have s3 := same_new (o := .lst (((acc.drop i).take (2 * far + 1)).map V.ref)) hnl
        have fnl := @upd_same G2 nl (.lst (((acc.drop i).take (2 * far + 1)).map V.ref))
        obtain ⟨G3, e3⟩ : ∃ G3, upd G2 nl (.lst (((acc.drop i).take (2 * far + 1)).map V.ref)) = G3 := ⟨_, rfl⟩
        rw [e3] at s3 fnl ⊢
        clear e3 hnl
        have asl : ((acc.drop i).take (2 * far + 1)).length = 2 * far + 1 := by rw [List.length_take, List.length_drop]; omega
        have hrow : ∀ (j : Nat) a, ((acc.drop i).take (2 * far + 1))[j]? = some a → ∃ row, (((winF M far D).drop i).take (2 * far + 1))[j]? = some row ∧ G3 a = some (.lst (row.map V.int)) ∧ row.length = D - 2 * far := by
          intro j a e
          have hj : j < 2 * far + 1 := by have := (List.getElem?_eq_some_iff.mp e).1; omega
          rw [List.getElem?_take_of_lt hj, List.getElem?_drop] at e
          obtain ⟨row, h3, h4⟩ := (hR2.same s3).at_ e
          refine ⟨row, by rw [List.getElem?_take_of_lt hj, List.getElem?_drop]; exact h3, h4, ?_⟩
          unfold winF at h3
          rw [List.getElem?_map] at h3
          obtain ⟨m0, _, h5⟩ := Option.map_eq_some_iff.mp h3
          rw [← h5]
          unfold rowMax
          rw [List.length_map, List.length_range]
        walk_at "lw go"
        refine ⟨tyL (s3 _ _ ffa2), ?_⟩
        walk_at "lw go"
        refine Zn.g_zn ?_
        walk_at "lw go"
        refine ⟨nl, (acc.drop i).take (2 * far + 1), D - 2 * far, rfl, SqL.of fnl, by omega, by omega, fun b hb => ?_, fun DD hDD => ?_⟩
        · obtain ⟨j, hj⟩ := List.getElem?_of_mem hb
          obtain ⟨row, _, h4, h5⟩ := hrow j b hj
          exact ⟨_, SqL.of h4, by rw [List.length_map]; exact h5⟩
        refine Zn.it_zn (fun k G4 => Same G3 G4 ∧ G4 DD = some (.lst (((nearRow M far D i).take k).map V.int))) ⟨same_new hDD, upd_same⟩ (fun j => (((((winF M far D).drop i).take (2 * far + 1)).getD j []).map V.int)) (fun k G4 ⟨sI, _⟩ j a e => ?_) ?_ ?_
        · obtain ⟨row, h3, h4, h5⟩ := hrow j a e
          rw [List.getD_eq_getElem?_getD, h3]
          exact ⟨SqL.of (sI _ _ h4), by show (row.map V.int).length = _; rw [List.length_map]; exact h5⟩
        · rintro k us T G4 hk hul hcol ⟨sI, hDl⟩ hT
          have wl : (((winF M far D).drop i).take (2 * far + 1)).length = 2 * far + 1 := by rw [List.length_take, List.length_drop]; omega
          have eus : us = ((((winF M far D).drop i).take (2 * far + 1)).map fun row => row.getD k 0).map V.int := by
            refine List.ext_getElem? fun j => ?_
            by_cases hj : j < ((acc.drop i).take (2 * far + 1)).length
            · obtain ⟨row, h3, h4, h5⟩ := hrow j _ (List.getElem?_eq_getElem hj)
              have hkr : k < row.length := by omega
              rw [hcol j hj, List.getD_eq_getElem?_getD, h3, List.getElem?_map, List.getElem?_map, List.getElem?_map, h3]
              simp [hkr]
            · rw [List.getElem?_eq_none (by omega), List.getElem?_eq_none (by rw [List.length_map, List.length_map]; omega)]
          subst eus
          walk_at "lw go"
          refine ⟨rfl, g_yes ?_⟩
          walk_at "lw go"
          refine ⟨T, _, rfl, SqT.of upd_same, by rw [List.length_map]; omega, fun mx h1 h2 => ?_⟩
          refine ⟨_, same_new hT _ _ hDl, (by rw [List.length_map, List.length_take, sizeLine_eq]; have := Nat.min_le_left k (nearRow M far D i).length; omega), same_put (sI.trans (same_new hT)) hDD, ?_⟩
          rw [upd_same, List.take_add_one, List.map_append]
          congr 3
          unfold nearRow
          rw [List.getElem?_map, List.getElem?_range (by omega)]
          rw [Option.map_some, max_eq h1 h2]
          rfl
        · rintro G4 ⟨sI, hDl⟩
          have er : (nearRow M far D i).length = D - 2 * far := by unfold nearRow; rw [List.length_map, List.length_range]
          rw [List.take_of_length_le (Nat.le_of_eq er)] at hDl
          have s34 := s3.trans sI
          have nDf : DD ≠ fa := fun z => by rw [z, s3 _ _ ffa2] at hDD; cases hDD
          walk_at "lw go"
          refine g_append (s34 _ _ ffa2) (by rw [List.length_map]; have := Paired.length hF; rw [this, List.length_take, sizeLine_eq]; have := Nat.min_le_left i (nearF M far D).length; omega) ?_
          have ff := @upd_same G4 fa (.lst (fs.map V.ref ++ [.ref DD]))
          have kf : Keep fa G4 (upd G4 fa (.lst (fs.map V.ref ++ [.ref DD]))) := Keep.refl.put
          have sH := same_put (p := fa) (o := .lst (fs.map V.ref ++ [.ref DD])) (sG2.trans s34) xfa
          have fD := kf _ _ nDf hDl
          have fL := kf _ _ (Ne.symm nfa) (s34 _ _ hacc2)
          have hF' := RowsR.put (o := .lst (fs.map V.ref ++ [.ref DD])) (s34 _ _ ffa2) nfs (hF.same s34)
          have hR' := RowsR.put (o := .lst (fs.map V.ref ++ [.ref DD])) (s34 _ _ ffa2) nac (hR2.same s34)
          obtain ⟨G5, e5⟩ : ∃ G5, upd G4 fa (.lst (fs.map V.ref ++ [.ref DD])) = G5 := ⟨_, rfl⟩
          rw [e5] at ff sH fD fL hF' hR' ⊢
          clear e5
          walk_at "lw go"
          refine ⟨_, _, _, _, fs ++ [DD], rfl, sH, fL, hR', by rw [List.map_append]; exact ff, ?_, fun l hl => ?_, nac⟩
          · rw [List.take_add_one, show (nearF M far D)[i]? = some (nearRow M far D i) by unfold nearF; rw [List.getElem?_map, List.getElem?_range hi2]; rfl]
            exact hF'.snoc fD
          · rcases List.mem_append.mp hl with h | h
            · exact nfs l h
            · rw [List.mem_singleton.mp h]; exact nDf
      · rintro σ G2 ⟨o4, o5, o7, o8, fs, rfl, sG2, hacc2, hR2, ffa2, hF, nfs, nac⟩
        walk_at "lw go"
        have en : (nearF M far D).length = M.length - 2 * far := by unfold nearF; rw [List.length_map, List.length_range]
        rw [List.length_map, hal, List.take_of_length_le (by omega)] at hF
        exact q fa G2 xfa sG2 ⟨fs, ffa2, hF⟩
abbrev N_Land_seed : List Str := ["self"]
theorem sc_Land_seed : FnScope N_Land_seed ["self"] (defScope s_Land_seed) := ⟨rfl, rfl, rfl, by decide +kernel, rfl, by decide +kernel, by decide +kernel⟩
theorem ok_Land_seed (F : FunD K "seed" "Land.seed" (defArgs s_Land_seed) (defBody s_Land_seed) (defScope s_Land_seed) [] [] f fd) (T : Bi mg) (G : Kn w K mg)  : FnOk P w K mg base CX0 1 f fd ["self"] (spSeed K) := by
  refine F.ok sc_Land_seed (fun vs H Q E h => ?_) (fun cdv A outer s H vs Q E hr h => ⟨_, PSs.nox
(pss_one (ps_ret (pe_fld (pv 0) rfl))), ?_⟩)
  · obtain ⟨a, sd, rfl, _⟩ := h
    rfl
  · obtain ⟨a, sd, rfl, ⟨dx, fs, ha, hs, _⟩, q⟩ := h
    walk_at "lw i0"
    walk_at "lw go"
    refine Lc.g_fld ?_
    walk_at "lw go"
    refine ⟨a, _, dx, fs, .int sd, rfl, ha, G.cl_Land, G.na_Land__seed, hs, ?_⟩
    walk_at "lw go"
    exact q
abbrev N_things_in : List Str := ["land", "box", "salt", "far", "least", "x0", "z0", "x1", "z1", "grown", "ranks", "greatest", "lowest", "found", "x", "row", "own", "z", "rank"]
theorem sc_things_in : FnScope N_things_in ["land", "box", "salt", "far", "least"] (defScope s_things_in) := ⟨rfl, rfl, rfl, by decide +kernel, rfl, by decide +kernel, by decide +kernel⟩
theorem ok_things_in (F : FunD K "things_in" "things_in" (defArgs s_things_in) (defBody s_things_in) (defScope s_things_in) [] [("far", .int (3)), ("least", .int (0))] f fd) (T : Bi mg) (G : Kn w K mg) (D_must_box_of : Df P w K mg base "must_box_of" ["box", "most"] 4 spBoxOf) (D_ranks_of : Df P w K mg base "ranks_of" ["seed", "salt", "box"] 2 spRanks) (D_greatest_near : Df P w K mg base "greatest_near" ["ranks", "far"] 1 spGreat) (D_is_from : Df P w K mg base "is_from" ["thing", "low", "high"] 1 spFrom) (ME_Land_seed : Lc.MeC P w K mg base "Land" "seed" ["self"] 1 (spSeed K)) (D_points_of : Df P w K mg base "points_of" ["box"] 1 spPts) : FnOk P w K mg base CX0 5 f fd ["land", "box", "salt", "far", "least"] (spThings K) := by
  refine F.ok sc_things_in (fun vs H Q E h => ?_) (fun cdv A outer s H vs Q E hr h => ⟨_, PSs.nox
(pss_cons (ps_expr (pe_df D_must_box_of (hr.mono (by first | decide | omega)) (pa_cons (pv 1) (pa_cons (pe_gI (by rfl) G.c_MOST_POINTS) pa_nil))))
  (pss_cons (ps_if (pt_not (pt_val (pe_df D_is_from (hr.mono (by first | decide | omega)) (pa_cons (pv 3) (pa_cons pe_int (pa_cons (pe_gI (by rfl) G.c_FARTHEST) pa_nil))))))
  pss_never
  pss_nil)
  (pss_cons (ps_asg (pv 1) (pg_tup (by rfl) (pgs_cons (pg_name (i := 5) sc_things_in.nd rfl (Or.inl rfl)) (pgs_cons (pg_name (i := 6) sc_things_in.nd rfl (Or.inl rfl)) (pgs_cons (pg_name (i := 7) sc_things_in.nd rfl (Or.inl rfl)) (pgs_cons (pg_name (i := 8) sc_things_in.nd rfl (Or.inl rfl)) pgs_nil))))))
  (pss_cons (ps_set (i := 9) sc_things_in.nd rfl (Or.inl rfl) (pe_tup (pa_cons (pe_op op_sub (pv 5) (pv 3)) (pa_cons (pe_op op_sub (pv 6) (pv 3)) (pa_cons (pe_op op_add (pv 7) (pv 3)) (pa_cons (pe_op op_add (pv 8) (pv 3)) pa_nil))))))
  (pss_cons (ps_set (i := 10) sc_things_in.nd rfl (Or.inl rfl) (pe_df D_ranks_of (hr.mono (by first | decide | omega)) (pa_cons (Lc.pe_meC0 ME_Land_seed (pv 0) (hr.mono (by first | decide | omega))) (pa_cons (pv 2) (pa_cons (pv 9) pa_nil)))))
  (pss_cons (ps_set (i := 11) sc_things_in.nd rfl (Or.inl rfl) (pe_df D_greatest_near (hr.mono (by first | decide | omega)) (pa_cons (pv 10) (pa_cons (pv 3) pa_nil))))
  (pss_cons (ps_set (i := 12) sc_things_in.nd rfl (Or.inl rfl) (pe_op op_mul (pv 4) (pe_df D_points_of (hr.mono (by first | decide | omega)) (pa_cons (pv 9) pa_nil))))
  (pss_cons (ps_set (i := 13) sc_things_in.nd rfl (Or.inl rfl) (pe_lst pa_nil))
  (pss_cons (ps_for PassesOwn.never rfl (El.pi_enumL (by rfl) T.enumerate (pa_cons (pv 11) (pa_cons (pv 5) pa_nil))) (pg_tup (by rfl) (pgs_cons (pg_name (i := 14) sc_things_in.nd rfl (Or.inl rfl)) (pgs_cons (pg_name (i := 15) sc_things_in.nd rfl (Or.inl rfl)) pgs_nil)))
  (pss_cons (ps_set (i := 16) sc_things_in.nd rfl (Or.inl rfl) (pe_ix ix_list (pv 10) (pe_op op_sub (pv 14) (pe_ix ix_tup (pv 9) pe_int (fun _ _ => rfl))) (fun _ _ => rfl)))
  (pss_one (ps_for PassesOwn.never rfl (El.pi_enumL (by rfl) T.enumerate (pa_cons (pv 15) (pa_cons (pv 6) pa_nil))) (pg_tup (by rfl) (pgs_cons (pg_name (i := 17) sc_things_in.nd rfl (Or.inl rfl)) (pgs_cons (pg_name (i := 18) sc_things_in.nd rfl (Or.inl rfl)) pgs_nil)))
  (pss_one (ps_if (PW.pt (pw_and (pt_cmpR op_eq (pe_ix ix_list (pv 16) (pe_op op_sub (pv 17) (pe_ix ix_tup (pv 9) pe_int (fun _ _ => rfl))) (fun _ _ => rfl)) (pv 18) (nomark _)) (pw_and1 (pt_cmpR op_ge (pv 18) (pv 12) (nomark _)))))
  (pss_one (ps_expr (pe_bm PySem.F.plainAttrs_list PySem.F.slot_list_append PySem.F.type_list_append mt_append (pv 13) (pa_cons (pe_tup (pa_cons (pv 14) (pa_cons (pv 17) pa_nil))) pa_nil))))
  pss_nil))))))
  (pss_one (ps_ret (pv 13)))))))))))), ?_⟩)
  · obtain ⟨a, p, g, s, least, far, x0, z0, x1, z1, w, d, rfl, _⟩ := h
    rfl
  · obtain ⟨a, p, g, s, least, far, x0, z0, x1, z1, w, d, rfl, ha, hp, ob, hw, hd, w2, d2, f1, f2, l0, l1, q⟩ := h
    walk_at "lw i0"
    have ob' := ob
    obtain ⟨⟨a1, a2, a3⟩, a4, a5, a6⟩ := ob'
    have hwd : (w : Int) * d ≤ 32 * 32 := by
      have : w * d ≤ 32 * 32 := Nat.mul_le_mul w2 d2
      rw [← Int.natCast_mul]
      omega
    walk_at "lw go"
    refine ⟨p, x0, z0, x1, z1, _, rfl, hp, ob, by rw [hw, hd]; omega, ?_⟩
    walk_at "lw go"
    refine ⟨_, _, _, rfl, by omega, by omega, ?_⟩
    walk_at "lw go"
    refine g_tupT (SqT.of hp) rfl ?_
    walk_at "lw go"
    refine ⟨by show 4 ≤ sizeLine; decide, fun pg hpg => ?_⟩
    have s1 := same_new (o := .tup [.int (x0 - far), .int (z0 - far), .int (x1 + far), .int (z1 + far)]) hpg
    have fpg := @upd_same H pg (.tup [.int (x0 - far), .int (z0 - far), .int (x1 + far), .int (z1 + far)])
    obtain ⟨H1, e1⟩ : ∃ G, upd H pg (.tup [.int (x0 - far), .int (z0 - far), .int (x1 + far), .int (z1 + far)]) = G := ⟨_, rfl⟩
    rw [e1] at s1 fpg ⊢
    clear e1 hpg
    walk_at "lw go"
    obtain ⟨dxa, fsa, ha1, ha2, ha3⟩ := ha.same s1
    refine Lc.g_meth ?_
    walk_at "lw go"
    refine ⟨a, dxa, fsa, rfl, ha1, ha3, ?_⟩
    walk_at "lw go"
    refine ⟨a, g, rfl, ⟨dxa, fsa, ha1, ha2, ha3⟩, ?_⟩
    walk_at "lw go"
    refine ⟨g, s, pg, x0 - far, z0 - far, x1 + far, z1 + far, w + 2 * far, d + 2 * far, rfl, fpg, by omega, by omega, by omega, by omega, by omega, by omega, by omega, by omega, by omega, by omega, fun pr H2 hpr s2 hM => ?_⟩
    walk_at "lw go"
    refine ⟨pr, far, _, d + 2 * far, rfl, hM, fun row hr => ?_, f1, f2, ?_, ?_, by omega, by omega, fun pn H3 hpn s3 hN => ?_⟩
    · unfold matF at hr
      obtain ⟨i, _, rfl⟩ := List.mem_map.mp hr
      unfold rowF
      rw [List.length_map, List.length_range]
    · unfold matF
      rw [List.length_map, List.length_range]
      omega
    · unfold matF
      rw [List.length_map, List.length_range]
      omega
    walk_at "lw go"
    refine ⟨pg, x0 - far, z0 - far, x1 + far, z1 + far, rfl, s3 _ _ (s2 _ _ fpg), by omega, by omega, by omega, by omega, by omega, by omega, by omega, by omega, ?_⟩
    have eMd : (x1 + far - (x0 - far) + 1) * (z1 + far - (z0 - far) + 1) = ((w + 2 * far : Nat) : Int) * ((d + 2 * far : Nat) : Int) := by
      rw [show x1 + far - (x0 - far) + 1 = ((w + 2 * far : Nat) : Int) by omega, show z1 + far - (z0 - far) + 1 = ((d + 2 * far : Nat) : Int) by omega]
    rw [eMd]
    have hM0 : (0 : Int) ≤ ((w + 2 * far : Nat) : Int) * ((d + 2 * far : Nat) : Int) ∧ ((w + 2 * far : Nat) : Int) * ((d + 2 * far : Nat) : Int) ≤ 48 * 48 := by
      have : (w + 2 * far) * (d + 2 * far) ≤ 48 * 48 := Nat.mul_le_mul (by omega) (by omega)
      rw [← Int.natCast_mul]
      omega
    obtain ⟨MM, eMM⟩ : ∃ MM, ((w + 2 * far : Nat) : Int) * ((d + 2 * far : Nat) : Int) = MM := ⟨_, rfl⟩
    rw [eMM] at hM0 ⊢
    walk_at "lw go"
    refine ⟨Nat.zero_le _, fun fo hfo => ?_⟩
    have nfo : ∀ c o, H3 c = some o → c ≠ fo := fun c o h z => by rw [z, hfo] at h; cases h
    have s4 := same_new (o := .lst []) hfo
    obtain ⟨lm, fpr, hRM⟩ := hM.same s3
    obtain ⟨ln, fpn, hRN⟩ := hN
    have sH3 : Same H H3 := s1.trans (s2.trans s3)
    have fpg3 := s3 _ _ (s2 _ _ fpg)
    have xfo : H fo = none := by
      cases e : H fo with
      | none => rfl
      | some o => rw [sH3 _ _ e] at hfo; cases hfo
    have ffo := @upd_same H3 fo (.lst [])
    obtain ⟨H4, e4⟩ : ∃ G, upd H3 fo (.lst []) = G := ⟨_, rfl⟩
    rw [e4] at s4 ffo ⊢
    clear e4
    have kp : ∀ {G : Hp}, Keep fo H4 G → ∀ {c o}, H3 c = some o → G c = some o := fun {G} k {c o} h => k c o (nfo c o h) (s4 c o h)
    walk_at "lw go"
    refine El.g_enumL ?_
    walk_at "lw go"
    refine ⟨pn, x0, _, rfl, SqL.of (s4 _ _ fpn), by omega, by omega, ?_⟩
    refine El.for_enumK (xs := ln.map V.ref) (fun i σ G => ∃ (o14 o15 o16 o17 o18 : Option V) (ls : List Addr), σ = [some (.ref a), some (.ref p), some (.int s), some (.int far), some (.int least), some (.int x0), some (.int z0), some (.int x1), some (.int z1), some (.ref pg), some (.ref pr), some (.ref pn), some (.int (least * MM)), some (.ref fo), o14, o15, o16, o17, o18] ∧ Keep fo H4 G ∧ G fo = some (.lst (ls.map V.ref)) ∧ PtsR G ls (things g s far least x0 z0 i d)) ⟨_, _, _, _, _, [], rfl, Keep.refl, ffo, .nil⟩ (fun i σ G h => ?_) ?_ ?_
    · obtain ⟨_, _, _, _, _, _, _, k, _⟩ := h
      exact SqL.of (kp k fpn)
    · rintro i y T σ G hy ⟨o14, o15, o16, o17, o18, ls, rfl, k, ffG, hP⟩ hT
      rw [List.getElem?_map] at hy
      obtain ⟨li, hln, rfl⟩ := Option.map_eq_some_iff.mp hy
      obtain ⟨ns, hns, hl1⟩ := hRN.at_ hln
      have hiw : i < w ∧ ns = nearRow (matF g s (x0 - far) (z0 - far) (w + 2 * far) (d + 2 * far)) far (d + 2 * far) i := by
        have hl := (List.getElem?_eq_some_iff.mp hns).1
        unfold nearF at hl hns
        rw [List.length_map, List.length_range] at hl
        rw [List.getElem?_map, List.getElem?_range hl] at hns
        unfold matF at hl
        rw [List.length_map, List.length_range] at hl
        exact ⟨by omega, (Option.some.inj hns).symm⟩
      obtain ⟨hiw, ens⟩ := hiw
      have kT := k.new (o := .tup [.int (x0 + (i : Nat)), .ref li]) hT
      have fT := @upd_same G T (.tup [.int (x0 + (i : Nat)), .ref li])
      have sT := same_new (o := .tup [.int (x0 + (i : Nat)), .ref li]) hT
      replace hP := hP.same sT
      replace ffG := sT _ _ ffG
      obtain ⟨G1, e1⟩ : ∃ G1, upd G T (.tup [.int (x0 + (i : Nat)), .ref li]) = G1 := ⟨_, rfl⟩
      rw [e1] at kT fT hP ffG ⊢
      clear e1 sT
      walk_at "lw go"
      refine g_tupT (SqT.of fT) rfl ?_
      walk_at "lw go"
      refine g_ixT (SqT.of (kp kT fpg3)) (v := .int (x0 - far)) (atI_nat (j := 0) (by rfl)) ?_
      walk_at "lw go"
      rw [show x0 + (i : Nat) - (x0 - (far : Int)) = ((i + far : Nat) : Int) by omega]
      obtain ⟨lr, hlr, hlr1⟩ : ∃ lr, lm[i + far]? = some lr ∧ H3 lr = some (.lst ((rowF g s (x0 - far) (z0 - far) (w + 2 * far) (d + 2 * far) (i + far)).map V.int)) := by
        have h1 := mat_at (g := g) (s := s) (X0 := x0 - far) (Z0 := z0 - far) (W := w + 2 * far) (D := d + 2 * far) (i := i + far) (by omega)
        have hlen := Paired.length hRM
        have hl2 := (List.getElem?_eq_some_iff.mp h1).1
        obtain ⟨ns2, h2, h3⟩ := hRM.at_ (List.getElem?_eq_getElem (show i + far < lm.length by omega))
        rw [h1] at h2
        cases h2
        exact ⟨_, List.getElem?_eq_getElem (by omega), h3⟩
      refine g_ixL (SqL.of (kp kT fpr)) (v := .ref lr) (atI_nat (by rw [List.getElem?_map, hlr]; rfl)) ?_
      walk_at "lw go"
      refine El.g_enumL ?_
      walk_at "lw go"
      refine ⟨li, z0, _, rfl, SqL.of (kp kT hl1), by omega, by omega, ?_⟩
      refine El.for_enumK (xs := ns.map V.int) (fun j σ G => ∃ (o17 o18 : Option V) (ls : List Addr), σ = [some (.ref a), some (.ref p), some (.int s), some (.int far), some (.int least), some (.int x0), some (.int z0), some (.int x1), some (.int z1), some (.ref pg), some (.ref pr), some (.ref pn), some (.int (least * MM)), some (.ref fo), some (.int (x0 + (i : Nat))), some (.ref li), some (.ref lr), o17, o18] ∧ Keep fo H4 G ∧ G fo = some (.lst (ls.map V.ref)) ∧ PtsR G ls (things g s far least x0 z0 i d ++ rowT g s far least (x0 + (i : Nat)) z0 j)) ⟨_, _, ls, rfl, kT, ffG, by unfold rowT; rw [List.range_zero]; simpa using hP⟩ (fun j σ G h => ?_) ?_ ?_
      · obtain ⟨_, _, _, _, k, _⟩ := h
        exact SqL.of (kp k hl1)
      · rintro j y T2 σ G2 hy ⟨o17, o18, ls, rfl, k2, ffG, hP⟩ hT2
        rw [List.getElem?_map] at hy
        obtain ⟨m, hm, rfl⟩ := Option.map_eq_some_iff.mp hy
        rw [ens] at hm
        have hjd : j < d := by
          have h1 := (List.getElem?_eq_some_iff.mp hm).1
          unfold nearRow at h1
          rw [List.length_map, List.length_range] at h1
          omega
        have hbn := bears_near (g := g) (s := s) (X0 := x0 - far) (Z0 := z0 - far) (least := least) (W := w + 2 * far) (D := d + 2 * far) (far := far) (i := i) (j := j) (by omega) (by omega) hm
        rw [eMM, show x0 - (far : Int) + ((i + far : Nat) : Int) = x0 + (i : Nat) by omega, show z0 - (far : Int) + ((j + far : Nat) : Int) = z0 + (j : Nat) by omega] at hbn
        have kT2 := k2.new (o := .tup [.int (z0 + (j : Nat)), .int m]) hT2
        have fT2 := @upd_same G2 T2 (.tup [.int (z0 + (j : Nat)), .int m])
        have sT2 := same_new (o := .tup [.int (z0 + (j : Nat)), .int m]) hT2
        replace hP := hP.same sT2
        replace ffG := sT2 _ _ ffG
        obtain ⟨G3, e3⟩ : ∃ G3, upd G2 T2 (.tup [.int (z0 + (j : Nat)), .int m]) = G3 := ⟨_, rfl⟩
        rw [e3] at kT2 fT2 hP ffG ⊢
        clear e3 sT2
        walk_at "lw go"
        refine g_tupT (SqT.of fT2) rfl ?_
        walk_at "lw go"
        refine g_ixT (SqT.of (kp kT2 fpg3)) (v := .int (z0 - far)) (atI_nat (j := 1) (by rfl)) ?_
        walk_at "lw go"
        rw [show z0 + (j : Nat) - (z0 - (far : Int)) = ((j + far : Nat) : Int) by omega]
        refine g_ixL (SqL.of (kp kT2 hlr1)) (v := .int (rankF g s (x0 - far) (z0 - far) ((d + 2 * far : Nat) : Int) MM (x0 + (i : Nat)) (z0 + (j : Nat)))) (atI_nat ?_) ?_
        · rw [List.getElem?_map, row_at (by omega), eMM, show x0 - (far : Int) + ((i + far : Nat) : Int) = x0 + (i : Nat) by omega, show z0 - (far : Int) + ((j + far : Nat) : Int) = z0 + (j : Nat) by omega]
          rfl
        walk_at "lw go"
        by_cases c1 : rankF g s (x0 - far) (z0 - far) ((d + 2 * far : Nat) : Int) MM (x0 + (i : Nat)) (z0 + (j : Nat)) = m
        · refine iteS (by rw [c1]) ?_
          walk_at "lw go"
          by_cases c2 : least * MM ≤ m
          · refine iteS c2 ?_
            have hb := hbn.mp ⟨c1, c2⟩
            walk_at "lw go"
            refine ⟨tyL ffG, ?_⟩
            walk_at "lw go"
            refine ⟨by show 2 ≤ sizeLine; decide, fun pt hpt => ?_⟩
            have sP := same_new (o := .tup [.int (x0 + (i : Nat)), .int (z0 + (j : Nat))]) hpt
            have fP := @upd_same G3 pt (.tup [.int (x0 + (i : Nat)), .int (z0 + (j : Nat))])
            have k5 := kT2.new (o := .tup [.int (x0 + (i : Nat)), .int (z0 + (j : Nat))]) hpt
            replace hP := hP.same sP
            replace ffG := sP _ _ ffG
            obtain ⟨G5, e5⟩ : ∃ G5, upd G3 pt (.tup [.int (x0 + (i : Nat)), .int (z0 + (j : Nat))]) = G5 := ⟨_, rfl⟩
            rw [e5] at k5 fP hP ffG ⊢
            clear e5 sP
            walk_at "lw go"
            have hln2 : ls.length ≤ 32 * 32 + 32 := by
              rw [Paired.length hP, List.length_append]
              have h1 := things_len (g := g) (s := s) (far := far) (least := least) (x0 := x0) (z0 := z0) (w := i) (d := d)
              have h2 := rowT_len (g := g) (s := s) (far := far) (least := least) (x := x0 + (i : Nat)) (z0 := z0) (d := j)
              have h3 : i * d ≤ 32 * 32 := Nat.mul_le_mul (by omega) d2
              omega
            refine g_append ffG (by rw [List.length_map, sizeLine_eq]; omega) ?_
            have tp := tup_putL (o := .lst (ls.map V.ref ++ [.ref pt])) ffG
            have ff6 := @upd_same G5 fo (.lst (ls.map V.ref ++ [.ref pt]))
            have k6 := k5.put (o := .lst (ls.map V.ref ++ [.ref pt]))
            replace hP := hP.tup tp
            replace fP := tp _ _ fP
            obtain ⟨G6, e6⟩ : ∃ G6, upd G5 fo (.lst (ls.map V.ref ++ [.ref pt])) = G6 := ⟨_, rfl⟩
            rw [e6] at k6 fP hP ff6 ⊢
            clear e6 tp
            refine ⟨_, _, ls ++ [pt], rfl, k6, by rw [List.map_append]; exact ff6, ?_⟩
            rw [rowT_succ, if_pos hb, ← List.append_assoc]
            exact hP.snoc fP
          · refine iteNo c2 ?_
            have hb : ¬ bears g s far least (x0 + (i : Nat)) (z0 + (j : Nat)) = true := fun h => c2 (hbn.mpr h).2
            walk_at "lw go"
            exact ⟨_, _, ls, rfl, kT2, ffG, by rw [rowT_succ, if_neg hb, List.append_nil]; exact hP⟩
        · have hb : ¬ bears g s far least (x0 + (i : Nat)) (z0 + (j : Nat)) = true := fun h => c1 (hbn.mpr h).1
          refine iteNo (fun e => c1 (by injection e)) ?_
          walk_at "lw go"
          exact ⟨_, _, ls, rfl, kT2, ffG, by rw [rowT_succ, if_neg hb, List.append_nil]; exact hP⟩
      · rintro σ G ⟨o17, o18, ls, rfl, k2, ffG, hP⟩
        have el : ns.length = d := by
          rw [ens]
          unfold nearRow
          rw [List.length_map, List.length_range]
          omega
        rw [List.length_map, el] at hP
        exact ⟨_, _, _, _, _, ls, rfl, k2, ffG, by rw [things_succ]; exact hP⟩
    · rintro σ G ⟨o14, o15, o16, o17, o18, ls, rfl, k, ffG, hP⟩
      have en : ln.length = w := by
        rw [Paired.length hRN]
        unfold nearF matF
        rw [List.length_map, List.length_range, List.length_map, List.length_range]
        omega
      rw [List.length_map, en] at hP
      walk_at "lw go"
      exact q fo G xfo (fun c o h => kp k (sH3 c o h)) ⟨ls, ffG, hP⟩
abbrev N_noise_value : List Str := ["seed", "salt", "log", "x", "z", "known", "size", "i", "j", "p", "q", "knots", "one", "two", "three", "four", "near", "far"]
theorem sc_noise_value : FnScope N_noise_value ["seed", "salt", "log", "x", "z", "known"] (defScope s_noise_value) := ⟨rfl, rfl, rfl, by decide +kernel, rfl, by decide +kernel, by decide +kernel⟩
theorem ok_noise_value (F : FnP K "noise_value" s_noise_value f fd) (T : Bi mg) (G : Kn w K mg) (D_knot : Df P w K mg base "knot" ["seed", "salt", "i", "j"] 1 spKnot) (D_four_knots : Df P w K mg base "four_knots" ["seed", "salt", "i", "j"] 1 spFour) : FnOk P w K mg base CX0 2 f fd ["seed", "salt", "log", "x", "z", "known"] spNV := by
  refine F.ok sc_noise_value (fun vs H Q E h => ?_) (fun cdv A outer s H vs Q E hr h => ⟨_, PSs.nox
(pss_cons (ps_set (i := 6) sc_noise_value.nd rfl (Or.inl rfl) (pe_op op_shl pe_int (pv 2)))
  (pss_cons (ps_par (i := 7) (j := 8) rfl sc_noise_value.nd rfl rfl (by decide) rfl rfl (pa_cons (pe_op op_shrN (pv 3) (pv 2)) (pa_cons (pe_op op_shrN (pv 4) (pv 2)) pa_nil)) rfl)
  (pss_cons (ps_par (i := 9) (j := 10) rfl sc_noise_value.nd rfl rfl (by decide) rfl rfl (pa_cons (pe_op op_andM (pv 3) (pe_op op_sub (pv 6) pe_int)) (pa_cons (pe_op op_andM (pv 4) (pe_op op_sub (pv 6) pe_int)) pa_nil)) rfl)
  (pss_cons (ps_if (PW.pt (pw_and (pt_cmpR op_eq (pv 9) pe_int (nomark _)) (pw_and1 (pt_cmpR op_eq (pv 10) pe_int (nomark _)))))
  (pss_one (ps_ret (pe_df D_knot (hr.mono (by first | decide | omega)) (pa_cons (pv 0) (pa_cons (pv 1) (pa_cons (pv 7) (pa_cons (pv 8) pa_nil)))))))
  pss_nil)
  (pss_cons (ps_if (pt_cmpR op_isN (pv 5) pe_non (nomark _))
  (pss_one (ps_set (i := 11) sc_noise_value.nd rfl (Or.inl rfl) (pe_df D_four_knots (hr.mono (by first | decide | omega)) (pa_cons (pv 0) (pa_cons (pv 1) (pa_cons (pv 7) (pa_cons (pv 8) pa_nil)))))))
  pss_never)
  (pss_cons (ps_asg (pv 11) (pg_tup (by rfl) (pgs_cons (pg_name (i := 12) sc_noise_value.nd rfl (Or.inl rfl)) (pgs_cons (pg_name (i := 13) sc_noise_value.nd rfl (Or.inl rfl)) (pgs_cons (pg_name (i := 14) sc_noise_value.nd rfl (Or.inl rfl)) (pgs_cons (pg_name (i := 15) sc_noise_value.nd rfl (Or.inl rfl)) pgs_nil))))))
  (pss_cons (ps_set (i := 16) sc_noise_value.nd rfl (Or.inl rfl) (pe_op op_add (pe_op op_mul (pe_op op_sub (pv 6) (pv 9)) (pv 12)) (pe_op op_mul (pv 9) (pv 13))))
  (pss_cons (ps_set (i := 17) sc_noise_value.nd rfl (Or.inl rfl) (pe_op op_add (pe_op op_mul (pe_op op_sub (pv 6) (pv 9)) (pv 14)) (pe_op op_mul (pv 9) (pv 15))))
  (pss_one (ps_ret (pe_op op_shrN (pe_op op_add (pe_op op_mul (pe_op op_sub (pv 6) (pv 10)) (pv 16)) (pe_op op_mul (pv 10) (pv 17))) (pe_op op_add (pv 2) (pv 2))))))))))))), ?_⟩)
  · obtain ⟨g, s, l, x, z, rfl, _⟩ := h
    rfl
  · obtain ⟨g, s0, l, x, z, rfl, h0, h8, q⟩ := h
    walk_at "lw i0"
    obtain ⟨k, rfl⟩ : ∃ k : Nat, l = (k : Int) := ⟨l.toNat, by omega⟩
    obtain ⟨S, e1, e2, S0, S1, SS0, SS1⟩ := log_pow h0 h8
    have hS : (2 : Int) ^ k = S := by rw [← e2, Int.toNat_natCast]
    have p0 := Int.emod_nonneg x (show S ≠ 0 by omega)
    have p1 := Int.emod_lt_of_pos x S0
    have q0 := Int.emod_nonneg z (show S ≠ 0 by omega)
    have q1 := Int.emod_lt_of_pos z S0
    walk_at "lw go"
    refine g_I ⟨h0, by omega, by decide⟩ ?_
    rw [e1]
    walk_at "lw go"
    with_reducible refine' g_par ?_
    walk_at "lw st"
    refine ⟨x, k, rfl, rfl, ?_⟩
    walk_at "lw st"
    refine ⟨z, k, rfl, rfl, ?_⟩
    walk_at "lw st"
    refine ⟨_, _, rfl, ?_⟩
    walk_at "lw ns"
    with_reducible refine' g_seq ?_
    with_reducible refine' g_par ?_
    walk_at "lw st"
    refine ⟨x, k, rfl, by rw [hS], ?_⟩
    walk_at "lw st"
    refine ⟨z, k, rfl, by rw [hS], ?_⟩
    walk_at "lw st"
    refine ⟨_, _, rfl, ?_⟩
    walk_at "lw ns"
    rw [hS]
    obtain ⟨i, hi⟩ : ∃ i, x / S = i := ⟨_, rfl⟩
    obtain ⟨j, hj⟩ : ∃ j, z / S = j := ⟨_, rfl⟩
    obtain ⟨p, hp⟩ : ∃ p, x % S = p := ⟨_, rfl⟩
    obtain ⟨r, hr'⟩ : ∃ r, z % S = r := ⟨_, rfl⟩
    rw [hi, hj, hp, hr']
    rw [hp] at p0 p1
    rw [hr'] at q0 q1
    have fin : ∀ H', Same H H' → Q (.int (((S - r) * ((S - p) * knotL g s0 i j + p * knotL g s0 (i + 1) j) + r * ((S - p) * knotL g s0 i (j + 1) + p * knotL g s0 (i + 1) (j + 1))) / 2 ^ (k + k))) H' := fun H' s' => by
      have h := q H' s'
      rw [noise_of hS S0, hi, hj, hp, hr', ← shift_eq hS] at h
      exact h
    have atk : p = 0 → r = 0 → Q (.int (knotL g s0 i j)) H := fun e1 e2 => by
      have h := q H (Same.refl H)
      rw [noise_knot hS S0 (by rw [hp]; exact e1) (by rw [hr']; exact e2), hi, hj] at h
      exact h
    clear hi hj hp hr' q
    clear e1 e2
    walk_at "lw go"
    refine g_ite (fun h1 => ?g1) (fun h1 => ?g2)
    case' g1 => (walk_at "lw go"; refine g_ite (fun h2 => ?g3) (fun h2 => ?g4))
    case g3 => (walk_at "lw go"; exact ⟨g, s0, i, j, rfl, atk (V.int.inj h1) (V.int.inj h2)⟩)
    all_goals
      walk_at "lw go"
      refine ⟨rfl, ?_⟩
      walk_at "lw go"
      refine iteS rfl ?_
      walk_at "lw go"
      refine ⟨g, s0, i, j, rfl, fun t ht => ?_⟩
      walk_at "lw go"
      refine g_tupT (SqT.of upd_same) rfl ?_
      walk_at "lw go"
      refine ⟨_, k + k, rfl, rfl, ?_⟩
      exact fin _ (same_new ht)
abbrev N_noise_range : List Str := ["seed", "salt", "log", "box", "x0", "z0", "x1", "z1", "squares", "values"]
theorem sc_noise_range : FnScope N_noise_range ["seed", "salt", "log", "box"] (defScope s_noise_range) := ⟨rfl, rfl, rfl, by decide +kernel, rfl, by decide +kernel, by decide +kernel⟩
theorem ok_noise_range (F : FnP K "noise_range" s_noise_range f fd) (T : Bi mg) (G : Kn w K mg)  : FnOk P w K mg base CX0 3 f fd ["seed", "salt", "log", "box"] spNRg := by
  refine F.ok sc_noise_range (fun vs H Q E h => ?_) (fun cdv A outer s H vs Q E hr h => ⟨_, PSs.nox
(pss_cons (ps_asg (pv 3) (pg_tup (by rfl) (pgs_cons (pg_name (i := 4) sc_noise_range.nd rfl (Or.inl rfl)) (pgs_cons (pg_name (i := 5) sc_noise_range.nd rfl (Or.inl rfl)) (pgs_cons (pg_name (i := 6) sc_noise_range.nd rfl (Or.inl rfl)) (pgs_cons (pg_name (i := 7) sc_noise_range.nd rfl (Or.inl rfl)) pgs_nil))))))
  (pss_cons (ps_set (i := 8) sc_noise_range.nd rfl (Or.inl rfl) (pe_op op_mul (pe_op op_add (pe_op op_sub (pe_op op_shrN (pv 6) (pv 2)) (pe_op op_shrN (pv 4) (pv 2))) pe_int) (pe_op op_add (pe_op op_sub (pe_op op_shrN (pv 7) (pv 2)) (pe_op op_shrN (pv 5) (pv 2))) pe_int)))
  (pss_cons (ps_if (pt_cmpR op_gt (pv 8) (pe_gI (by rfl) G.c_MOST_SQUARES) (nomark _))
  (pss_one (ps_ret (pe_tup (pa_cons pe_int (pa_cons (pe_gI (by rfl) G.c_GREATEST_KNOT) pa_nil)))))
  pss_nil)
  pss_never))), ?_⟩)
  · obtain ⟨g, s, l, x0, z0, x1, z1, b, rfl, _⟩ := h
    rfl
  · obtain ⟨g, s0, l, x0, z0, x1, z1, b, rfl, h0, h8, hb, hW, q⟩ := h
    walk_at "lw i0"
    obtain ⟨k, rfl⟩ : ∃ k : Nat, l = (k : Int) := ⟨l.toNat, by omega⟩
    obtain ⟨S, e1, e2, S0, S1, SS0, SS1⟩ := log_pow h0 h8
    have hS : (2 : Int) ^ k = S := by rw [← e2, Int.toNat_natCast]
    have c1 := cols_ge S0 S1 (show 20000 ≤ x1 - x0 by have := hW.wx; omega)
    have c2 := cols_ge S0 S1 (show 20000 ≤ z1 - z0 by have := hW.wz; omega)
    have c3 := many c1 c2
    walk_at "lw go"
    refine g_tupT (SqT.of hb) rfl ?_
    walk_at "lw go"
    refine ⟨x1, k, rfl, rfl, ?_⟩
    walk_at "lw go"
    refine ⟨x0, k, rfl, rfl, ?_⟩
    walk_at "lw go"
    refine ⟨z1, k, rfl, rfl, ?_⟩
    walk_at "lw go"
    refine ⟨z0, k, rfl, rfl, ?_⟩
    rw [hS]
    walk_at "lw st"
    refine g_I (Or.inl ⟨by have := x_small hW S0 S1; omega, by have := x_small hW S0 S1; omega⟩) ?_
    walk_at "lw go"
    refine iteS c3 ?_
    walk_at "lw go"
    exact q.new rfl rfl (Same.refl H)
abbrev N_weighed : List Str := ["field", "lets", "things", "word", "one", "other", "many", "great", "more", "greater"]
theorem sc_weighed : FnScope N_weighed ["field", "lets"] (defScope s_weighed) := ⟨rfl, rfl, rfl, by decide +kernel, rfl, by decide +kernel, by decide +kernel⟩
abbrev N_weighed_long : List Str := ["field", "lets", "word", "_", "one", "other", "part", "many", "great", "weights"]
theorem sc_weighed_long : FnScope N_weighed_long ["field", "lets"] (defScope s_weighed_long) := ⟨rfl, rfl, rfl, by decide +kernel, rfl, by decide +kernel, by decide +kernel⟩
theorem ok_weighed {f2 : Addr} {fd2 : FuncData} (F : FnP K "weighed" s_weighed f fd) (F2 : FnP K "weighed_long" s_weighed_long f2 fd2) (T : Bi mg) (G : Kn w K mg) (gm : mg "weighed" = some (.ref f)) (kp : PySem.W.keepIn K (.ref f) = true) (bb : Binds K fd ["field", "lets"] [])
    (gm2 : mg "weighed_long" = some (.ref f2)) (kp2 : PySem.W.keepIn K (.ref f2) = true) (bb2 : Binds K fd2 ["field", "lets"] [])
    (D_is_from : Df P w K mg base "is_from" ["thing", "low", "high"] 1 spFrom) (D_is_name : Df P w K mg base "is_name" ["thing"] 1 spName) :
    ∀ n : Nat, FnOk P w K mg base CX0 (2 * n + 2) f fd ["field", "lets"] (spW K n) ∧ FnOk P w K mg base CX0 (2 * n + 3) f2 fd2 ["field", "lets"] (spWL K n) := by
  have long : ∀ n : Nat, FnOk P w K mg base CX0 (2 * n + 2) f fd ["field", "lets"] (spW K n) → FnOk P w K mg base CX0 (2 * n + 3) f2 fd2 ["field", "lets"] (spWL K n) := by
    intro n IH
    have D_weighed : Df P w K mg base "weighed" ["field", "lets"] (2 * n + 2) (spW K n) := ⟨f, fd, gm, kp, bb, IH⟩
    refine F2.ok (k := 2 * n + 2) sc_weighed_long (fun vs H Q E h => ?_) (fun cdv A outer s H vs Q E hr h => ⟨_, PSs.nox
(pss_cons (ps_set (i := 2) sc_weighed_long.nd rfl (Or.inl rfl) (pe_ix ix_tup (pv 0) pe_int (fun _ _ => rfl)))
  (pss_cons (ps_if (pt_cmpR op_eq (pe_callB call_len_seq (by rfl) T.len (by decide +kernel) (pa_cons (pv 0) pa_nil)) pe_int (nomark _))
  (pss_cons (ps_asg (pv 0) (pg_tup (by rfl) (pgs_cons (pg_name (i := 3) sc_weighed_long.nd rfl (Or.inl rfl)) (pgs_cons (pg_name (i := 4) sc_weighed_long.nd rfl (Or.inl rfl)) (pgs_cons (pg_name (i := 5) sc_weighed_long.nd rfl (Or.inl rfl)) (pgs_cons (pg_name (i := 6) sc_weighed_long.nd rfl (Or.inl rfl)) pgs_nil))))))
  (pss_cons (ps_if (PW.pt (pw_and (pt_cmpR op_eq (pv 2) pe_str (nomark _)) (pw_and1 (pt_val (pe_df D_is_name (hr.mono (by first | decide | omega)) (pa_cons (pv 4) pa_nil))))))
  (pss_one (ps_ret (pe_df D_weighed (hr.mono (by first | decide | omega)) (pa_cons (pv 6) (pa_cons (Dz.pe_dispS (pv 1) (pv 4) (pe_df D_weighed (hr.mono (by first | decide | omega)) (pa_cons (pv 5) (pa_cons (pv 1) pa_nil)))) pa_nil)))))
  pss_nil)
  (pss_one (ps_if (PW.pt (pw_and (pt_cmpR op_eq (pv 2) pe_str (nomark _)) (pw_and (pt_val (pe_df D_is_from (hr.mono (by first | decide | omega)) (pa_cons (pv 4) (pa_cons (pe_un un_neg pe_int) (pa_cons pe_int pa_nil))))) (pw_and1 (pt_val (pe_df D_is_from (hr.mono (by first | decide | omega)) (pa_cons (pv 5) (pa_cons (pe_un un_neg pe_int) (pa_cons pe_int pa_nil)))))))))
  (pss_cons (ps_asg (pe_df D_weighed (hr.mono (by first | decide | omega)) (pa_cons (pv 6) (pa_cons (pv 1) pa_nil))) (pg_tup (by rfl) (pgs_cons (pg_name (i := 7) sc_weighed_long.nd rfl (Or.inl rfl)) (pgs_cons (pg_name (i := 8) sc_weighed_long.nd rfl (Or.inl rfl)) pgs_nil))))
  (pss_one (ps_ret (pe_tup (pa_cons (pe_op op_add (pv 7) pe_int) (pa_cons (pv 8) pa_nil))))))
  pss_nil))))
  (pss_one (ps_if (PW.pt (pw_and (pt_cmpR op_eq (pe_callB call_len_seq (by rfl) T.len (by decide +kernel) (pa_cons (pv 0) pa_nil)) pe_int (nomark _)) (pw_and1 (pt_cmpR op_eq (pv 2) pe_str (nomark _)))))
  (pss_cons (ps_setLc (i := 9) (own := [("part", 6)]) (g := gName 6) (tt := tYes) rfl sc_weighed_long.nd rfl rfl (sw_true rfl rfl rfl (by decide +kernel)) (pi_tup (pe_slice sl_tup (pv 0) (po_some pe_int) po_none)) (blkOk_by (N := N_weighed_long) (sc := defScope s_weighed_long) (by decide +kernel)) (fun _ _ _ _ _ => pg_name (i := 6) sc_weighed_long.nd rfl (by first | exact Or.inl rfl | exact Or.inr rfl)) (fun _ _ _ _ _ => pts_nil) (fun _ _ _ _ _ => (pe_df D_weighed (hr.mono (by first | decide | omega)) (pa_cons (pv 6) (pa_cons (pv 1) pa_nil)))))
  (pss_one (ps_ret (pe_tup (pa_cons (pe_op op_add pe_int (pe_callB (cr_sum rfl) (by rfl) T.sum (by decide +kernel) (pa_cons (pe_lc (own := [("many", 7), ("_", 3)]) (g := gTup K 2 (gCons (gName 7) (gCons (gName 3) gNil))) (tt := tYes) rfl sc_weighed_long.nd (pi_list (pv 9)) (blkOk_by (N := N_weighed_long) (sc := defScope s_weighed_long) (by decide +kernel)) (fun _ _ _ _ _ => pg_tup (by rfl) (pgs_cons (pg_name (i := 7) sc_weighed_long.nd rfl (Or.inl rfl)) (pgs_cons (pg_name (i := 3) sc_weighed_long.nd rfl (Or.inl rfl)) pgs_nil))) (fun _ _ _ _ _ => pts_nil) (fun _ _ _ _ _ => (pv 7))) pa_nil))) (pa_cons (pe_callB (cr_sum rfl) (by rfl) T.sum (by decide +kernel) (pa_cons (pe_lc (own := [("_", 3), ("great", 8)]) (g := gTup K 2 (gCons (gName 3) (gCons (gName 8) gNil))) (tt := tYes) rfl sc_weighed_long.nd (pi_list (pv 9)) (blkOk_by (N := N_weighed_long) (sc := defScope s_weighed_long) (by decide +kernel)) (fun _ _ _ _ _ => pg_tup (by rfl) (pgs_cons (pg_name (i := 3) sc_weighed_long.nd rfl (Or.inl rfl)) (pgs_cons (pg_name (i := 8) sc_weighed_long.nd rfl (Or.inl rfl)) pgs_nil))) (fun _ _ _ _ _ => pts_nil) (fun _ _ _ _ _ => (pv 8))) pa_nil)) pa_nil))))))
  pss_nil)))
  pss_never)), ?_⟩)
    · obtain ⟨u, F, d, r, rfl, _⟩ := h
      rfl
    · obtain ⟨u, F, d, r, rfl, hlong, hF, hn, hO, hB, hR, hE, hC, hcn, hr2, q⟩ := h
      walk_at "lw i0"
      cases F with
      | lt x a b =>
        obtain ⟨p, u1, u2, rfl, hp, hF1, hF2⟩ := hF
        have hn' : 1 + max (dep a) (dep b) ≤ n := hn
        obtain ⟨kvs, hd, hkl, hq⟩ := id hE
        have hdp : d ≠ p := ne_of hd hp (by intro z; cases z)
        walk_at "lw go"
        refine g_ixT (SqT.of hp) (v := .str "let") rfl ?_
        walk_at "lw go"
        refine ⟨p, _, rfl, .inr (SqT.of hp), ?_⟩
        walk_at "lw go"
        refine iteS rfl ?_
        walk_at "lw go"
        refine g_tupT (SqT.of hp) rfl ?_
        walk_at "lw go"
        refine ⟨x, rfl, hO.1, ?_⟩
        walk_at "lw go"
        intro i hi
        walk_at "lw go"
        have s1 := same_new (o := .dK []) hi
        refine ⟨d, kvs, rfl, (ne_of_none hd hi), upd_same, s1 _ _ hd, by rw [sizeLine_eq]; omega, fun i2 hi2 => ?_⟩
        have ni : i ≠ i2 := ne_of_none upd_same hi2
        have s2 : Same H (upd (upd (upd H i (.dK [])) i (.dK kvs)) i2 (.dK [])) := (same_put s1 hi).trans (same_new hi2)
        walk_at "lw go"
        have s2i : (upd (upd (upd H i (.dK [])) i (.dK kvs)) i2 (.dK [])) i = some (.dK kvs) := by rw [upd_ne ni, upd_same]
        refine ⟨u1, a, d, r, rfl, hF1.mono (same_tup s2), by omega, hO.2.1, hB.1, hR, hE.mono s2, hC.2.1, hC.1, by omega, fun t H3 s3 ht => ?_⟩
        refine ⟨Sum.inr x, rfl, s3 _ _ s2i, s3 _ _ upd_same, ?_⟩
        have s4 : Same H (upd (upd H3 i2 (.dK [(Sum.inr x, .ref t)])) i (.dK (putK kvs (Sum.inr x) (.ref t)))) := same_put (same_put (s2.trans s3) (none_back (o := .dK []) hi ((same_put s1 hi)) hi2)) hi
        walk_at "lw go"
        have ht4 : SqT K (upd (upd H3 i2 (.dK [(Sum.inr x, .ref t)])) i (.dK (putK kvs (Sum.inr x) (.ref t)))) t [.int (cn (expand a r) : Nat), .int (grE (expand a r))] := sqT_put (sqT_put ht (s3 _ _ upd_same)) (by rw [upd_ne ni]; exact s3 _ _ s2i)
        exact ⟨u2, b, i, (x, expand a r) :: r, rfl, hF2.mono (same_tup s4), by omega, hO.2.2, hB.2, okR_cons (ok_expand a r hO.2.1 hR) hR, hE.let_ hd s4 upd_same ht4, hC.2.2, hcn, by simp only [List.length_cons]; omega, q.later s4⟩
      | shift dx dz a =>
        obtain ⟨p, u1, rfl, hp, hF1⟩ := hF
        have hn' : 1 + dep a ≤ n := hn
        have hx := hO.1
        have hz := hO.2.1
        have ec : cn (expand (.shift dx dz a) r) = 1 + cn (expand a r) := rfl
        walk_at "lw go"
        refine g_ixT (SqT.of hp) (v := .str "shift") rfl ?_
        walk_at "lw go"
        refine ⟨p, _, rfl, .inr (SqT.of hp), ?_⟩
        walk_at "lw go"
        refine iteS rfl ?_
        walk_at "lw go"
        refine g_tupT (SqT.of hp) rfl ?_
        walk_at "lw go"
        refine ⟨dx, -1000, 1000, rfl, hx.1, hx.2, ?_⟩
        walk_at "lw go"
        refine ⟨dz, -1000, 1000, rfl, hz.1, hz.2, ?_⟩
        walk_at "lw go"
        refine ⟨u1, a, d, r, rfl, hF1, by omega, hO.2.2, hB, hR, hE, hC, by omega, by omega, fun t H1 s1 ht => ?_⟩
        walk_at "lw go"
        refine g_tupT ht rfl ?_
        walk_at "lw go"
        exact q.new (by rw [ec]; omega) rfl s1
      | bel a b c e =>
        obtain ⟨p, u1, u2, u3, u4, rfl, hp, hF1, hF2, hF3, hF4⟩ := hF
        have hn' : 1 + max (max (dep a) (dep b)) (max (dep c) (dep e)) ≤ n := hn
        have ec : cn (expand (.bel a b c e) r) = 1 + (cn (expand a r) + (cn (expand b r) + (cn (expand c r) + cn (expand e r)))) := rfl
        walk_at "lw go"
        refine g_ixT (SqT.of hp) (v := .str "below") rfl ?_
        walk_at "lw go"
        refine ⟨p, _, rfl, .inr (SqT.of hp), ?_⟩
        walk_at "lw go"
        refine iteNo (by intro z; cases z) ?_
        walk_at "lw go"
        refine ⟨p, _, rfl, .inr (SqT.of hp), ?_⟩
        walk_at "lw go"
        refine iteS rfl ?_
        walk_at "lw go"
        refine g_slT (SqT.of hp) cut1T_ok fun t ht => ?_
        rw [cut1T]
        have s1 : Same H (upd H t (.tup [u1, u2, u3, u4])) := same_new ht
        obtain ⟨es, hes⟩ : ∃ es, [expand a r, expand b r, expand c r, expand e r] = es := ⟨_, rfl⟩
        refine ⟨t, rfl, ⟨_, SqT.of upd_same⟩, fun D hD => lc_tup (xs := [u1, u2, u3, u4]) (fun i H' => ∃ acc, Same (upd H t (.tup [u1, u2, u3, u4])) H' ∧ H' D = some (.lst acc) ∧ acc.length = i ∧ WR K H' acc (es.take i)) ⟨[], same_new hD, upd_same, rfl, .nil⟩ (fun i H' _ ⟨_, s, _⟩ => SqT.of (s _ _ upd_same)) ?_ ?_⟩
        · rintro i y H' hi ⟨acc, s, hacc, hal, hw⟩
          obtain ⟨B, eB, hB1, hB2, hB3, hB4, hB5, hB6, hi4⟩ : ∃ B : Fd, es[i]? = some (expand B r) ∧ FRep B H y ∧ dep B + 1 ≤ n ∧ OkF B ∧ Bnd B (r.map (·.1)) ∧ Cok B r ∧ cn (expand B r) ≤ 1000000000000000000000000000000 ∧ i < 4 := by
            subst hes
            match i, hi with
            | 0, hi => cases Option.some.inj hi; exact ⟨a, rfl, hF1, by omega, hO.1, hB.1, hC.1, by omega, by omega⟩
            | 1, hi => cases Option.some.inj hi; exact ⟨b, rfl, hF2, by omega, hO.2.1, hB.2.1, hC.2.1, by omega, by omega⟩
            | 2, hi => cases Option.some.inj hi; exact ⟨c, rfl, hF3, by omega, hO.2.2.1, hB.2.2.1, hC.2.2.1, by omega, by omega⟩
            | 3, hi => cases Option.some.inj hi; exact ⟨e, rfl, hF4, by omega, hO.2.2.2, hB.2.2.2, hC.2.2.2, by omega, by omega⟩
            | k + 4, hi => cases hi
          walk_at "lw go"
          refine ⟨rfl, g_yes (iteT ?_)⟩
          walk_at "lw go"
          have s2 := s1.trans s
          refine ⟨y, B, d, r, rfl, hB1.mono (same_tup s2), hB2, hB3, hB4, hR, hE.mono s2, hB5, hB6, by omega, fun p' H2 s3 hp' => ?_⟩
          walk_at "lw go"
          refine ⟨acc, s3 _ _ hacc, small1000 (by omega), acc ++ [.ref p'], same_put (s.trans s3) hD, upd_same, by rw [List.length_append, hal]; rfl, ?_⟩
          rw [List.take_add_one, eB]
          exact WR.append ((hw.mono s3).putL (s3 _ _ hacc)) (.cons ⟨p', rfl, sqT_putL hp' (s3 _ _ hacc)⟩ .nil)
        rintro H' ⟨acc, s, hacc, hal, hw⟩
        have hal4 : acc.length = 4 := hal
        have e4 : es.take [u1, u2, u3, u4].length = es := by subst hes; rfl
        rw [e4] at hw
        have s2 := s1.trans s
        walk_at "lw go"
        refine ⟨D, rfl, ⟨_, SqL.of hacc⟩, fun D2 hD2 => lc_list (xs := acc) (fun i H'' => Same H' H'' ∧ H'' D2 = some (.lst (((es.map (fun e => ((cn e : Nat) : Int))).take i).map V.int))) ⟨same_new hD2, upd_same⟩ (fun i H'' _ ⟨s', _⟩ => SqL.of (s' _ _ hacc)) ?_ ?_⟩
        · rintro i y H'' hi ⟨s', hl'⟩
          obtain ⟨e', he', p', rfl, hp'⟩ := wr_at (hw) hi
          have hlen : ((es.map (fun e => ((cn e : Nat) : Int))).take i).length < 1000 := by rw [List.length_take]; have := (List.getElem?_eq_some_iff.mp hi).1; omega
          walk_at "lw go"
          refine g_tupT (same_sqT s' hp') rfl ?_
          walk_at "lw go"
          refine ⟨rfl, g_yes (iteT ?_)⟩
          walk_at "lw go"
          refine ⟨_, hl', by rw [List.length_map]; exact small1000 (by omega), same_put s' hD2, ?_⟩
          rw [upd_same, List.take_add_one, List.getElem?_map, he', List.map_append]
          rfl
        rintro H3 ⟨s3, hl3⟩
        walk_at "lw go"
        refine ⟨D2, es.map (fun e => ((cn e : Nat) : Int)), rfl, SqL.of (by rw [hl3]; congr 3; rw [List.take_of_length_le]; rw [List.length_map, ← e4, List.length_take, hal]; exact Nat.min_le_left _ _), ?_⟩
        walk_at "lw go"
        refine ⟨D, rfl, ⟨_, SqL.of (s3 _ _ hacc)⟩, fun D3 hD3 => lc_list (xs := acc) (fun i H'' => Same H3 H'' ∧ H'' D3 = some (.lst (((es.map grE).take i).map V.int))) ⟨same_new hD3, upd_same⟩ (fun i H'' _ ⟨s', _⟩ => SqL.of (s' _ _ (s3 _ _ hacc))) ?_ ?_⟩
        · rintro i y H'' hi ⟨s', hl'⟩
          obtain ⟨e', he', p', rfl, hp'⟩ := wr_at (hw.mono s3) hi
          have hlen : ((es.map grE).take i).length < 1000 := by rw [List.length_take]; have := (List.getElem?_eq_some_iff.mp hi).1; omega
          walk_at "lw go"
          refine g_tupT (same_sqT s' hp') rfl ?_
          walk_at "lw go"
          refine ⟨rfl, g_yes (iteT ?_)⟩
          walk_at "lw go"
          refine ⟨_, hl', by rw [List.length_map]; exact small1000 (by omega), same_put s' hD3, ?_⟩
          rw [upd_same, List.take_add_one, List.getElem?_map, he', List.map_append]
          rfl
        rintro H4 ⟨s4, hl4⟩
        walk_at "lw go"
        refine ⟨D3, es.map grE, rfl, SqL.of (by rw [hl4]; congr 3; rw [List.take_of_length_le]; rw [List.length_map, ← e4, List.length_take, hal]; exact Nat.min_le_left _ _), ?_⟩
        walk_at "lw go"
        subst hes
        refine q.new ?_ rfl ((s2.trans s3).trans s4)
        rw [ec]
        simp
        try omega
      | _ => exact hlong.elim
  intro n
  induction n with
  | zero =>
    have W0 : FnOk P w K mg base CX0 2 f fd ["field", "lets"] (spW K 0) := by
      refine F.ok sc_weighed (fun vs H Q E h => ?_) (fun cdv A outer s H vs Q E hr h => ?_)
      · obtain ⟨u, F, d, r, rfl, _⟩ := h
        rfl
      · obtain ⟨u, F, d, r, _, _, h, _⟩ := h
        omega
    exact ⟨W0, long 0 W0⟩
  | succ n IH =>
    have D_weighed : Df P w K mg base "weighed" ["field", "lets"] (2 * n + 2) (spW K n) := ⟨f, fd, gm, kp, bb, IH.1⟩
    have D_weighed_long : Df P w K mg base "weighed_long" ["field", "lets"] (2 * n + 3) (spWL K n) := ⟨f2, fd2, gm2, kp2, bb2, IH.2⟩
    have W1 : FnOk P w K mg base CX0 (2 * n + 4) f fd ["field", "lets"] (spW K (n + 1)) := by
      refine F.ok (k := 2 * n + 3) sc_weighed (fun vs H Q E h => ?_) (fun cdv A outer s H vs Q E hr h => ⟨_, PSs.nox
(pss_cons (ps_if (pt_not (pt_val (pe_callB call_isi (by rfl) T.isinstance (by decide +kernel) (pa_cons (pv 0) (pa_cons (pe_bltn (v := .ty "tuple") (by rfl) T.tuple boot_tuple rfl) pa_nil)))))
  pss_never
  pss_nil)
  (pss_cons (ps_set (i := 2) sc_weighed.nd rfl (Or.inl rfl) (pe_callB call_len_seq (by rfl) T.len (by decide +kernel) (pa_cons (pv 0) pa_nil)))
  (pss_cons (ps_if (pt_cmpR op_eq (pv 2) pe_int (nomark _))
  (pss_cons (ps_asg (pv 0) (pg_tup (by rfl) (pgs_cons (pg_name (i := 3) sc_weighed.nd rfl (Or.inl rfl)) (pgs_cons (pg_name (i := 4) sc_weighed.nd rfl (Or.inl rfl)) (pgs_cons (pg_name (i := 5) sc_weighed.nd rfl (Or.inl rfl)) pgs_nil)))))
  (pss_cons (ps_if (pt_cmpR op_in_seq (pv 3) (pe_gR (by rfl) G.g_PAIRS) (by rfl))
  (pss_cons (ps_asg (pe_df D_weighed (hr.mono (by first | decide | omega)) (pa_cons (pv 4) (pa_cons (pv 1) pa_nil))) (pg_tup (by rfl) (pgs_cons (pg_name (i := 6) sc_weighed.nd rfl (Or.inl rfl)) (pgs_cons (pg_name (i := 7) sc_weighed.nd rfl (Or.inl rfl)) pgs_nil))))
  (pss_cons (ps_asg (pe_df D_weighed (hr.mono (by first | decide | omega)) (pa_cons (pv 5) (pa_cons (pv 1) pa_nil))) (pg_tup (by rfl) (pgs_cons (pg_name (i := 8) sc_weighed.nd rfl (Or.inl rfl)) (pgs_cons (pg_name (i := 9) sc_weighed.nd rfl (Or.inl rfl)) pgs_nil))))
  (pss_cons (ps_if (pt_cmpR op_eq (pv 3) pe_str (nomark _))
  (pss_one (ps_ret (pe_tup (pa_cons (pe_op op_add (pe_op op_add (pv 6) (pv 8)) pe_int) (pa_cons (pe_callB (call_min2 rfl) (by rfl) T.min (by decide +kernel) (pa_cons (pe_op op_mulW (pv 7) (pv 9)) (pa_cons (pe_gI (by rfl) G.c_BEYOND) pa_nil))) pa_nil)))))
  pss_nil)
  (pss_one (ps_ret (pe_tup (pa_cons (pe_op op_add (pe_op op_add (pv 6) (pv 8)) pe_int) (pa_cons (pe_op op_add (pv 7) (pv 9)) pa_nil))))))))
  pss_nil)
  (pss_cons (ps_if (PW.pt (pw_and (pt_cmpR op_eq (pv 3) pe_str (nomark _)) (pw_and (pt_val (pe_df D_is_from (hr.mono (by first | decide | omega)) (pa_cons (pv 4) (pa_cons pe_int (pa_cons pe_int pa_nil))))) (pw_and1 (pt_val (pe_df D_is_from (hr.mono (by first | decide | omega)) (pa_cons (pv 5) (pa_cons pe_int (pa_cons pe_int pa_nil)))))))))
  (pss_one (ps_ret (pe_gR (by rfl) G.g_NOISE)))
  pss_nil)
  (pss_one (ps_if (PW.pt (pw_and (pt_cmpR op_eq (pv 3) pe_str (nomark _)) (pw_and1 (pt_val (pe_df D_is_from (hr.mono (by first | decide | omega)) (pa_cons (pv 5) (pa_cons pe_int (pa_cons pe_int pa_nil))))))))
  (pss_cons (ps_asg (pe_df D_weighed (hr.mono (by first | decide | omega)) (pa_cons (pv 4) (pa_cons (pv 1) pa_nil))) (pg_tup (by rfl) (pgs_cons (pg_name (i := 6) sc_weighed.nd rfl (Or.inl rfl)) (pgs_cons (pg_name (i := 7) sc_weighed.nd rfl (Or.inl rfl)) pgs_nil))))
  (pss_one (ps_ret (pe_tup (pa_cons (pe_op op_add (pv 6) pe_int) (pa_cons (pv 7) pa_nil))))))
  pss_nil)))))
  (pss_one (ps_if (pt_cmpR op_eq (pv 2) pe_int (nomark _))
  (pss_one (ps_if (PW.pt (pw_or (pt_cmpR op_eq (pe_ix ix_tup (pv 0) pe_int (fun _ _ => rfl)) pe_str (nomark _)) (pw_or1 (pt_cmpR op_eq (pe_ix ix_tup (pv 0) pe_int (fun _ _ => rfl)) pe_str (nomark _)))))
  (pss_one (ps_ret (pe_gR (by rfl) G.g_PLACE)))
  pss_nil))
  (pss_one (ps_if (pt_cmpR op_eq (pv 2) pe_int (nomark _))
  (pss_cons (ps_asg (pv 0) (pg_tup (by rfl) (pgs_cons (pg_name (i := 3) sc_weighed.nd rfl (Or.inl rfl)) (pgs_cons (pg_name (i := 4) sc_weighed.nd rfl (Or.inl rfl)) pgs_nil))))
  (pss_cons (ps_if (PW.pt (pw_and (pt_cmpR op_eq (pv 3) pe_str (nomark _)) (pw_and1 (pt_val (pe_df D_is_from (hr.mono (by first | decide | omega)) (pa_cons (pv 4) (pa_cons (pe_un un_neg pe_int) (pa_cons pe_int pa_nil))))))))
  (pss_one (ps_ret (pe_tup (pa_cons pe_int (pa_cons (pe_op op_add (pe_callB call_abs (by rfl) T.abs (by decide +kernel) (pa_cons (pv 4) pa_nil)) pe_int) pa_nil)))))
  pss_nil)
  (pss_one (ps_if (PW.pt (pw_and (pt_cmpR op_eq (pv 3) pe_str (nomark _)) (pw_and (pt_val (pe_callB call_isi (by rfl) T.isinstance (by decide +kernel) (pa_cons (pv 4) (pa_cons (pe_bltn (v := .ty "str") (by rfl) T.str boot_str rfl) pa_nil)))) (pw_and1 (pt_cmp (pc_din (hu_of hr) (pv 4) (pv 1)))))))
  (pss_one (ps_ret (pe_dget (hu_of hr) (pv 1) (pv 4) (fun _ _ => rfl))))
  pss_nil))))
  (pss_one (ps_if (pt_cmpR op_gt (pv 2) pe_int (nomark _))
  (pss_one (ps_ret (pe_df D_weighed_long (hr.mono (by first | decide | omega)) (pa_cons (pv 0) (pa_cons (pv 1) pa_nil)))))
  pss_nil)))))))
  pss_never))), ?_⟩)
      · obtain ⟨u, F, d, r, rfl, _⟩ := h
        rfl
      · obtain ⟨u, F, d, r, rfl, hF, hn, hO, hB, hR, hE, hC, hcn, hr2, q⟩ := h
        walk_at "lw i0"
        cases F with
        | whole v =>
          obtain ⟨p, rfl, hp⟩ := hF
          walk_at "lw go"
          refine ⟨_, _, _, _, true, rfl, .ty "tuple", .base (.tup hp), kit_ty (by decide +kernel), ?_⟩
          walk_at "lw go"
          refine ⟨p, _, rfl, .inr (SqT.of hp), ?_⟩
          walk_at "lw go"
          refine iteNo (by intro z; cases z) ?_
          walk_at "lw go"
          refine iteNo (by intro z; cases z) ?_
          walk_at "lw go"
          refine iteS rfl ?_
          walk_at "lw go"
          refine g_tupT (SqT.of hp) rfl ?_
          walk_at "lw go"
          refine ⟨v, -999999999, 999999999, rfl, hO.1, hO.2, ?_⟩
          walk_at "lw go"
          refine ⟨v, rfl, ?_⟩
          walk_at "lw go"
          exact q.new rfl rfl (Same.refl H)
        | px =>
          obtain ⟨p, rfl, hp⟩ := hF
          walk_at "lw go"
          refine ⟨_, _, _, _, true, rfl, .ty "tuple", .base (.tup hp), kit_ty (by decide +kernel), ?_⟩
          walk_at "lw go"
          refine ⟨p, _, rfl, .inr (SqT.of hp), ?_⟩
          walk_at "lw go"
          refine iteNo (by intro z; cases z) ?_
          walk_at "lw go"
          refine iteS rfl ?_
          walk_at "lw go"
          refine g_ixT (SqT.of hp) (v := .str "x") rfl ?_
          walk_at "lw go"
          exact q _ _ (Same.refl H) (G.v_PLACE H)
        | pz =>
          obtain ⟨p, rfl, hp⟩ := hF
          walk_at "lw go"
          refine ⟨_, _, _, _, true, rfl, .ty "tuple", .base (.tup hp), kit_ty (by decide +kernel), ?_⟩
          walk_at "lw go"
          refine ⟨p, _, rfl, .inr (SqT.of hp), ?_⟩
          walk_at "lw go"
          refine iteNo (by intro z; cases z) ?_
          walk_at "lw go"
          refine iteS rfl ?_
          walk_at "lw go"
          refine g_ixT (SqT.of hp) (v := .str "z") rfl ?_
          walk_at "lw go"
          refine g_ixT (SqT.of hp) (v := .str "z") rfl ?_
          walk_at "lw go"
          exact q _ _ (Same.refl H) (G.v_PLACE H)
        | noise s0 l0 =>
          obtain ⟨p, rfl, hp⟩ := hF
          walk_at "lw go"
          refine ⟨_, _, _, _, true, rfl, .ty "tuple", .base (.tup hp), kit_ty (by decide +kernel), ?_⟩
          walk_at "lw go"
          refine ⟨p, _, rfl, .inr (SqT.of hp), ?_⟩
          walk_at "lw go"
          refine iteS rfl ?_
          walk_at "lw go"
          refine g_tupT (SqT.of hp) rfl ?_
          walk_at "lw go"
          refine ⟨_, _, rfl, .inr (G.v_PAIRS H), rfl, rfl, ?_⟩
          walk_at "lw go"
          refine iteF ?_
          walk_at "lw go"
          refine ⟨s0, 0, 1000000000, rfl, hO.1.1, hO.1.2, ?_⟩
          walk_at "lw go"
          refine ⟨l0, 0, 8, rfl, hO.2.1, hO.2.2, ?_⟩
          walk_at "lw go"
          exact q _ _ (Same.refl H) (G.v_NOISE H)
        | over a v =>
          obtain ⟨p, u1, rfl, hp, hF1⟩ := hF
          have hn' : 1 + dep a + 1 ≤ n + 1 := hn
          have ec : cn (expand (.over a v) r) = 1 + cn (expand a r) := rfl
          walk_at "lw go"
          refine ⟨_, _, _, _, true, rfl, .ty "tuple", .base (.tup hp), kit_ty (by decide +kernel), ?_⟩
          walk_at "lw go"
          refine ⟨p, _, rfl, .inr (SqT.of hp), ?_⟩
          walk_at "lw go"
          refine iteS rfl ?_
          walk_at "lw go"
          refine g_tupT (SqT.of hp) rfl ?_
          walk_at "lw go"
          refine ⟨_, _, rfl, .inr (G.v_PAIRS H), rfl, rfl, ?_⟩
          walk_at "lw go"
          refine iteF ?_
          walk_at "lw go"
          refine ⟨v, 1, 1000000000, rfl, hO.2.1, hO.2.2, ?_⟩
          walk_at "lw go"
          refine ⟨u1, a, d, r, rfl, hF1, by omega, hO.1, hB, hR, hE, hC, by omega, by omega, fun t H1 s1 ht => ?_⟩
          walk_at "lw go"
          refine g_tupT ht rfl ?_
          walk_at "lw go"
          exact q.new (by rw [ec]; omega) rfl s1
        | two w a b =>
          obtain ⟨p, u1, u2, rfl, hp, hF1, hF2⟩ := hF
          have hn' : 1 + max (dep a) (dep b) + 1 ≤ n + 1 := hn
          have ec : cn (expand (.two w a b) r) = 1 + (cn (expand a r) + cn (expand b r)) := rfl
          walk_at "lw go"
          refine ⟨_, _, _, _, true, rfl, .ty "tuple", .base (.tup hp), kit_ty (by decide +kernel), ?_⟩
          walk_at "lw go"
          refine ⟨p, _, rfl, .inr (SqT.of hp), ?_⟩
          walk_at "lw go"
          refine iteS rfl ?_
          walk_at "lw go"
          refine g_tupT (SqT.of hp) rfl ?_
          walk_at "lw go"
          refine ⟨_, _, rfl, .inr (G.v_PAIRS H), rfl, rfl, ?_⟩
          rw [pairs_word]
          walk_at "lw go"
          refine iteT ?_
          walk_at "lw go"
          refine ⟨u1, a, d, r, rfl, hF1, by omega, hO.1, hB.1, hR, hE, hC.1, by omega, by omega, fun t1 H1 s1 ht1 => ?_⟩
          walk_at "lw go"
          refine g_tupT ht1 rfl ?_
          walk_at "lw go"
          refine ⟨u2, b, d, r, rfl, hF2.mono (same_tup s1), by omega, hO.2, hB.2, hR, hE.mono s1, hC.2, by omega, by omega, fun t2 H2 s2 ht2 => ?_⟩
          walk_at "lw go"
          refine g_tupT ht2 rfl ?_
          have s12 := s1.trans s2
          have oa := ok_expand a r hO.1 hR
          have ob := ok_expand b r hO.2 hR
          have hm := gr_mul oa ob (by omega) (by omega)
          cases w with
          | times =>
            walk_at "lw go"
            refine ⟨_, _, rfl, ?_⟩
            walk_at "lw go"
            refine q.new (by rw [ec]; omega) ?_ s12
            show _ = min _ _
            split <;> omega
          | _ =>
            walk_at "lw go"
            exact q.new (by rw [ec]; omega) rfl s12
        | nm y =>
          obtain ⟨p, rfl, hp⟩ := hF
          obtain ⟨kvs, hd, hkl, hq⟩ := hE
          obtain ⟨t, a1, a2⟩ := hq y hB
          walk_at "lw go"
          refine ⟨_, _, _, _, true, rfl, .ty "tuple", .base (.tup hp), kit_ty (by decide +kernel), ?_⟩
          walk_at "lw go"
          refine ⟨p, _, rfl, .inr (SqT.of hp), ?_⟩
          walk_at "lw go"
          refine iteNo (by intro z; cases z) ?_
          walk_at "lw go"
          refine iteNo (by intro z; cases z) ?_
          walk_at "lw go"
          refine iteS rfl ?_
          walk_at "lw go"
          refine g_tupT (SqT.of hp) rfl ?_
          walk_at "lw go"
          refine ⟨_, _, _, _, true, rfl, .ty "str", .base (.str _), kit_ty (by decide +kernel), ?_⟩
          walk_at "lw go"
          refine ⟨d, _, rfl, DGet.k (k := Sum.inr y) hd, ?_⟩
          rw [a1]
          refine ⟨true, rfl, iteT ?_⟩
          walk_at "lw go"
          refine ⟨d, .ref t, rfl, a1 ▸ DGet.k (k := Sum.inr y) hd, ?_⟩
          exact q t H (Same.refl H) a2
        | lt x a b =>
          have hF0 := hF
          obtain ⟨p, u1, u2, rfl, hp, hF1, hF2⟩ := hF
          have hn' : 1 + max (dep a) (dep b) + 1 ≤ n + 1 := hn
          walk_at "lw go"
          refine ⟨_, _, _, _, true, rfl, .ty "tuple", .base (.tup hp), kit_ty (by decide +kernel), ?_⟩
          walk_at "lw go"
          refine ⟨p, _, rfl, .inr (SqT.of hp), ?_⟩
          walk_at "lw go"
          refine iteNo (by intro z; cases z) ?_
          walk_at "lw go"
          refine iteNo (by intro z; cases z) ?_
          walk_at "lw go"
          refine iteNo (by intro z; cases z) ?_
          walk_at "lw go"
          rw [decide_eq_true (by show (3 : Int) < ((4 : Nat) : Int); decide)]
          walk_at "lw go"
          exact ⟨_, .lt x a b, d, r, rfl, True.intro, hF0, by simp only [dep]; omega, hO, hB, hR, hE, hC, hcn, by omega, q⟩
        | shift dx dz a =>
          have hF0 := hF
          obtain ⟨p, u1, rfl, hp, hF1⟩ := hF
          have hn' : 1 + dep a + 1 ≤ n + 1 := hn
          walk_at "lw go"
          refine ⟨_, _, _, _, true, rfl, .ty "tuple", .base (.tup hp), kit_ty (by decide +kernel), ?_⟩
          walk_at "lw go"
          refine ⟨p, _, rfl, .inr (SqT.of hp), ?_⟩
          walk_at "lw go"
          refine iteNo (by intro z; cases z) ?_
          walk_at "lw go"
          refine iteNo (by intro z; cases z) ?_
          walk_at "lw go"
          refine iteNo (by intro z; cases z) ?_
          walk_at "lw go"
          rw [decide_eq_true (by show (3 : Int) < ((4 : Nat) : Int); decide)]
          walk_at "lw go"
          exact ⟨_, .shift dx dz a, d, r, rfl, True.intro, hF0, by simp only [dep]; omega, hO, hB, hR, hE, hC, hcn, by omega, q⟩
        | bel a b c e =>
          have hF0 := hF
          obtain ⟨p, u1, u2, u3, u4, rfl, hp, hF1, hF2, hF3, hF4⟩ := hF
          have hn' : 1 + max (max (dep a) (dep b)) (max (dep c) (dep e)) + 1 ≤ n + 1 := hn
          walk_at "lw go"
          refine ⟨_, _, _, _, true, rfl, .ty "tuple", .base (.tup hp), kit_ty (by decide +kernel), ?_⟩
          walk_at "lw go"
          refine ⟨p, _, rfl, .inr (SqT.of hp), ?_⟩
          walk_at "lw go"
          refine iteNo (by intro z; cases z) ?_
          walk_at "lw go"
          refine iteNo (by intro z; cases z) ?_
          walk_at "lw go"
          refine iteNo (by intro z; cases z) ?_
          walk_at "lw go"
          rw [decide_eq_true (by show (3 : Int) < ((5 : Nat) : Int); decide)]
          walk_at "lw go"
          exact ⟨_, .bel a b c e, d, r, rfl, True.intro, hF0, by simp only [dep]; omega, hO, hB, hR, hE, hC, hcn, by omega, q⟩
    exact ⟨W1, long (n + 1) W1⟩
abbrev N_greatest_of : List Str := ["rules", "many", "greatest"]
theorem sc_greatest_of : FnScope N_greatest_of ["rules"] (defScope s_greatest_of) := ⟨rfl, rfl, rfl, by decide +kernel, rfl, by decide +kernel, by decide +kernel⟩
theorem ok_greatest_of (F : FnP K "greatest_of" s_greatest_of f fd) (T : Bi mg) (G : Kn w K mg) (D_weighed : Df P w K mg base "weighed" ["field", "lets"] 42 (spW K 20)) : FnOk P w K mg base CX0 43 f fd ["rules"] spGr := by
  refine F.ok sc_greatest_of (fun vs H Q E h => ?_) (fun cdv A outer s H vs Q E hr h => ⟨_, PSs.nox
(pss_cons (ps_try_thru0 (pss_one (ps_asg (pe_df D_weighed (hr.mono (by first | decide | omega)) (pa_cons (pv 0) (pa_cons pe_dnewK pa_nil))) (pg_tup (by rfl) (pgs_cons (pg_name (i := 1) sc_greatest_of.nd rfl (Or.inl rfl)) (pgs_cons (pg_name (i := 2) sc_greatest_of.nd rfl (Or.inl rfl)) pgs_nil))))))
  (pss_cons (ps_if (pt_cmpR op_gt (pv 1) (pe_gI (by rfl) G.c_MOST_FIELDS) (nomark _))
  pss_never
  pss_nil)
  (pss_one (ps_ret (pv 2))))), ?_⟩)
  · obtain ⟨u, F, rfl, _⟩ := h
    rfl
  · obtain ⟨u, F, rfl, hF, hG, q⟩ := h
    walk_at "lw i0"
    have hcn := hG.cn
    have hdp := hG.dep
    walk_at "lw go"
    intro e he
    have s1 := same_new (o := .dK []) he
    walk_at "lw go"
    refine ⟨u, F, e, [], rfl, hF.mono (same_tup s1), by omega, hG.ok, hG.bnd, okR_nil, ⟨[], upd_same, Nat.le_refl _, fun x hx => (nomatch hx)⟩, hG.cok, by omega, by decide, fun p H1 s2 hp => ?_⟩
    walk_at "lw go"
    refine g_tupT hp rfl ?_
    walk_at "lw go"
    refine iteNo (by omega) ?_
    walk_at "lw go"
    exact q _ (s1.trans s2)
/- placed: hands back the number of a field's step -/
abbrev N_placed : List Str := ["field", "dx", "dz", "lets", "made", "word", "one", "step", "part"]
theorem sc_placed : FnScope N_placed ["field", "dx", "dz", "lets", "made"] (defScope s_placed) := ⟨rfl, rfl, rfl, by decide +kernel, rfl, by decide +kernel, by decide +kernel⟩
theorem ok_placed (F : FnP K "placed" s_placed f fd) (T : Bi mg) (G : Kn w K mg)  (gm : mg "placed" = some (.ref f)) (kp : PySem.W.keepIn K (.ref f) = true) (bb : Binds K fd ["field", "dx", "dz", "lets", "made"] []) : ∀ n : Nat, FnOk P w K mg base CX0 (n + 1) f fd ["field", "dx", "dz", "lets", "made"] (spPlaced n)
  | 0 => by
    refine F.ok sc_placed (fun vs H Q E h => ?_) (fun cdv A outer s H vs Q E hr h => ?_)
    · obtain ⟨u, F, dx, dz, d, mk, m, r, δ, st, rfl, _⟩ := h
      rfl
    · exact (spPlaced_zero h).elim
  | n + 1 => by
    have D_placed : Df P w K mg base "placed" ["field", "dx", "dz", "lets", "made"] (n + 1) (spPlaced n) := ⟨f, fd, gm, kp, bb, ok_placed F T G  gm kp bb n⟩
    refine F.ok (k := n + 1) sc_placed (fun vs H Q E h => ?_) (fun cdv A outer s H vs Q E hr h => ⟨_, PSs.nox
(pss_cons (ps_set (i := 5) sc_placed.nd rfl (Or.inl rfl) (pe_ix ix_tup (pv 0) pe_int (fun _ _ => rfl)))
  (pss_cons (ps_while PassesOwn.never (PW.pt (pw_or (pt_cmpR op_eq (pv 5) pe_str (nomark _)) (pw_or1 (pt_cmpR op_eq (pv 5) pe_str (nomark _)))))
  (pss_cons (ps_if (pt_cmpR op_eq (pv 5) pe_str (nomark _))
  (pss_cons (ps_set (i := 3) sc_placed.nd rfl (by first | exact Or.inr rfl | exact Or.inl rfl) (Dz.pe_dispS (pv 3) (pe_ix ix_tup (pv 0) pe_int (fun _ _ => rfl)) (pe_tup (pa_cons (pe_ix ix_tup (pv 0) pe_int (fun _ _ => rfl)) (pa_cons (pv 3) pa_nil)))))
  (pss_one (ps_set (i := 0) sc_placed.nd rfl (Or.inl rfl) (pe_ix ix_tup (pv 0) pe_int (fun _ _ => rfl)))))
  (pss_one (ps_asg (pe_dget (hu_of hr) (pv 3) (pe_ix ix_tup (pv 0) pe_int (fun _ _ => rfl)) (fun _ _ => rfl)) (pg_tup (by rfl) (pgs_cons (pg_name (i := 0) sc_placed.nd rfl (Or.inl rfl)) (pgs_cons (pg_name (i := 3) sc_placed.nd rfl (by first | exact Or.inr rfl | exact Or.inl rfl)) pgs_nil))))))
  (pss_one (ps_set (i := 5) sc_placed.nd rfl (Or.inl rfl) (pe_ix ix_tup (pv 0) pe_int (fun _ _ => rfl))))))
  (pss_cons (ps_if (pt_cmpR op_in_seq (pv 5) (pe_gR (by rfl) G.g_PAIRS) (by rfl))
  (pss_cons (ps_set (i := 6) sc_placed.nd rfl (Or.inl rfl) (pe_df D_placed (hr.mono (by first | decide | omega)) (pa_cons (pe_ix ix_tup (pv 0) pe_int (fun _ _ => rfl)) (pa_cons (pv 1) (pa_cons (pv 2) (pa_cons (pv 3) (pa_cons (pv 4) pa_nil)))))))
  (pss_one (ps_set (i := 7) sc_placed.nd rfl (Or.inl rfl) (pe_tup (pa_cons (pv 5) (pa_cons (pv 6) (pa_cons (pe_df D_placed (hr.mono (by first | decide | omega)) (pa_cons (pe_ix ix_tup (pv 0) pe_int (fun _ _ => rfl)) (pa_cons (pv 1) (pa_cons (pv 2) (pa_cons (pv 3) (pa_cons (pv 4) pa_nil)))))) pa_nil)))))))
  (pss_one (ps_if (pt_cmpR op_eq (pv 5) pe_str (nomark _))
  (pss_one (ps_set (i := 7) sc_placed.nd rfl (Or.inl rfl) (pe_tup (pa_cons (pv 5) (pa_cons (pe_ix ix_tup (pv 0) pe_int (fun _ _ => rfl)) (pa_cons (pe_ix ix_tup (pv 0) pe_int (fun _ _ => rfl)) (pa_cons (pv 1) (pa_cons (pv 2) pa_nil))))))))
  (pss_one (ps_if (pt_cmpR op_eq (pv 5) pe_str (nomark _))
  (pss_one (ps_set (i := 7) sc_placed.nd rfl (Or.inl rfl) (pe_tup (pa_cons (pv 5) (pa_cons (pv 1) pa_nil)))))
  (pss_one (ps_if (pt_cmpR op_eq (pv 5) pe_str (nomark _))
  (pss_one (ps_set (i := 7) sc_placed.nd rfl (Or.inl rfl) (pe_tup (pa_cons (pv 5) (pa_cons (pv 2) pa_nil)))))
  (pss_one (ps_if (pt_cmpR op_eq (pv 5) pe_str (nomark _))
  (pss_one (ps_set (i := 7) sc_placed.nd rfl (Or.inl rfl) (pe_tup (pa_cons (pv 5) (pa_cons (pe_ix ix_tup (pv 0) pe_int (fun _ _ => rfl)) pa_nil)))))
  (pss_one (ps_if (pt_cmpR op_eq (pv 5) pe_str (nomark _))
  (pss_one (ps_set (i := 7) sc_placed.nd rfl (Or.inl rfl) (pe_tup (pa_cons (pv 5) (pa_cons (pe_df D_placed (hr.mono (by first | decide | omega)) (pa_cons (pe_ix ix_tup (pv 0) pe_int (fun _ _ => rfl)) (pa_cons (pv 1) (pa_cons (pv 2) (pa_cons (pv 3) (pa_cons (pv 4) pa_nil)))))) (pa_cons (pe_ix ix_tup (pv 0) pe_int (fun _ _ => rfl)) pa_nil))))))
  (pss_one (ps_if (pt_cmpR op_eq (pv 5) pe_str (nomark _))
  (pss_one (ps_ret (pe_df D_placed (hr.mono (by first | decide | omega)) (pa_cons (pe_ix ix_tup (pv 0) pe_int (fun _ _ => rfl)) (pa_cons (pe_op op_add (pv 1) (pe_ix ix_tup (pv 0) pe_int (fun _ _ => rfl))) (pa_cons (pe_op op_add (pv 2) (pe_ix ix_tup (pv 0) pe_int (fun _ _ => rfl))) (pa_cons (pv 3) (pa_cons (pv 4) pa_nil))))))))
  (pss_one (ps_set (i := 7) sc_placed.nd rfl (Or.inl rfl) (pe_tup (pa_cons (pv 5) (StX.pa_star (pe_lc (own := [("part", 8)]) (g := gName 8) (tt := tYes) rfl sc_placed.nd (pi_tup (pe_slice sl_tup (pv 0) (po_some pe_int) po_none)) (blkOk_by (N := N_placed) (sc := defScope s_placed) (by decide +kernel)) (fun _ _ _ _ _ => pg_name (i := 8) sc_placed.nd rfl (by first | exact Or.inl rfl | exact Or.inr rfl)) (fun _ _ _ _ _ => pts_nil) (fun _ _ _ _ _ => (pe_df D_placed (hr.mono (by first | decide | omega)) (pa_cons (pv 8) (pa_cons (pv 1) (pa_cons (pv 2) (pa_cons (pv 3) (pa_cons (pv 4) pa_nil)))))))) pa_nil))))))))))))))))))
  (pss_one (ps_ret (Dz.pe_dsetdT (hu_of hr) (pv 4) (pv 7) (pe_callB call_len_dT (by rfl) T.len (by decide +kernel) (pa_cons (pv 4) pa_nil)) ⟨rfl, rfl, rfl, rfl⟩)))))), ?_⟩)
    · obtain ⟨u, F, dx, dz, d, mk, m, r, δ, st, rfl, _⟩ := h
      rfl
    · obtain ⟨u, F, dx, dz, d, mk, m, r, δ, st, rfl, hF, hE, hB, hn, hmk, hcn, hr2, q⟩ := h
      walk_at "lw i0"
      have fin : ∀ (σ : L2.St) (D : Ends) (H' : Hp) (t : Addr) (st' : List Stp) (s : Stp), σ[4]? = some (some (.ref mk)) → σ[7]? = some (some (.ref t)) → D.rt = Q → Keep mk H H' → H' mk = some (.dT (mkKV st')) → H' t = some (.tup (stepV s)) → st'.length ≤ 900 →
          put st' s = into (expand F r) dx dz st → tRet (Dz.tDSetdT (tVar 4) (tVar 7) (tCB rLenT (tCons (tVar 4) tNil))) D σ H' := by
        intro σ D H' t st' s h4 h7 hD k hm ht hl e
        rw [← e] at q
        refine g_ret ?_
        rw [hD]
        refine ⟨.ref mk, h4, mk, rfl, .inr ⟨_, .inl hm⟩, .ref t, h7, .ref mk, h4, mk, _, rfl, hm, mkKV st', stepK s, t, hm, rfl, by rw [← stepV_eq]; exact ht, by rw [mkKV_len, sizeLine_eq]; omega, ?_⟩
        have hp := mk_put (st := st') (s := s) (P := fun v kvs => Q v (upd H' mk (.dT kvs))) (q _ k.put upd_same)
        rw [mkKV_len]
        exact ⟨fun v hv => by have := hp.1 v hv; rw [upd_self hm] at this; exact this, hp.2⟩
      obtain ⟨p, xs, rfl, hp⟩ := frep_word hF
      walk_at "lw go"
      refine g_ixT (SqT.of hp) (v := .str (wordF F)) (atI_nat (j := 0) (by rfl)) ?_
      walk_at "lw go"
      refine ⟨fun m' σ H' => ∃ (u : V) (F' : Fd) (d' : Addr) (r' : Fm.Env) (δ' : List (Str × Nat)) (m1 : Nat), σ = [some u, some (.int dx), some (.int dz), some (.ref d'), some (.ref mk), some (.str (wordF F')), none, none, none] ∧ FRep F' H' u ∧ EnvR m1 H' d' r' δ' ∧ Bnd F' (r'.map (·.1)) ∧ udep F' δ' = m' ∧ m' ≤ n + 1 ∧
        expand F' r' = expand F r ∧ r'.length + udep F' δ' ≤ 900 ∧ Keep mk H H' ∧ H' mk = some (.dT (mkKV st)), ⟨_, _, F, d, r, δ, m, rfl, hF, hE, hB, rfl, hn, rfl, hr2, Keep.refl, hmk⟩, ?_⟩
      rintro m' σ H1 ⟨u', F', d', r', δ', m1, rfl, hF', hE', hB', hm', hn', he, hr', hk, hmk'⟩
      clear hF hE hB hn hp hr2
      cases F' with
      | lt x a b =>
        obtain ⟨p', u1, u2, rfl, hp', hF1, hF2⟩ := hF'
        have hu : udep (.lt x a b) δ' = 1 + udep b ((x, udep a δ') :: δ') := rfl
        obtain ⟨kvs, hd, hkl⟩ := hE'.dict
        simp only [wordF]
        walk_at "lw go"
        refine ⟨_, fun _ _ w => w, ?_⟩
        walk_at "lw go"
        intro i hi
        walk_at "lw go"
        have s1 := same_new (o := .dK []) hi
        refine ⟨d', kvs, rfl, (ne_of_none hd hi), upd_same, s1 _ _ hd, by rw [sizeLine_eq]; omega, fun i2 hi2 => ?_⟩
        have ni : i ≠ i2 := ne_of_none upd_same hi2
        have s2 : Same H1 (upd (upd (upd H1 i (.dK [])) i (.dK kvs)) i2 (.dK [])) := (same_put s1 hi).trans (same_new hi2)
        have s2i : (upd (upd (upd H1 i (.dK [])) i (.dK kvs)) i2 (.dK [])) i = some (.dK kvs) := by rw [upd_ne ni, upd_same]
        have hi2b : H1 i2 = none := none_back (o := .dK []) hi (same_put s1 hi) hi2
        walk_at "lw go"
        refine g_ixT (SqT.of (s2 _ _ hp')) (v := .str x) (atI_nat (j := 1) (by rfl)) ?_
        walk_at "lw go"
        refine g_ixT (SqT.of (s2 _ _ hp')) (v := u1) (atI_nat (j := 2) (by rfl)) ?_
        walk_at "lw go"
        refine ⟨by show 2 ≤ sizeLine; decide, fun t ht => ?_⟩
        have s3 : Same H1 _ := s2.trans (same_new (o := .tup [u1, .ref d']) ht)
        have nit : i ≠ t := ne_of_none s2i ht
        have nit2 : i2 ≠ t := ne_of_none upd_same ht
        refine ⟨Sum.inr x, rfl, by rw [upd_ne nit]; exact s2i, by rw [upd_ne nit2, upd_same], ?_⟩
        have s4 : Same H1 _ := same_put (o := .dK (putK kvs (Sum.inr x) (.ref t))) (same_put (o := .dK [(Sum.inr x, .ref t)]) s3 hi2b) hi
        walk_at "lw go"
        refine g_ixT (SqT.of (s4 _ _ hp')) (v := u2) (atI_nat (j := 3) (by rfl)) ?_
        walk_at "lw go"
        obtain ⟨p2, xs2, rfl, hp2⟩ := frep_word hF2
        refine g_ixT (SqT.of (s4 _ _ hp2)) (v := .str (wordF b)) (atI_nat (j := 0) (by rfl)) ?_
        walk_at "lw go"
        have ht4 : (upd (upd (upd (upd (upd (upd H1 i (.dK [])) i (.dK kvs)) i2 (.dK [])) t (.tup [u1, .ref d'])) i2 (.dK [(Sum.inr x, .ref t)])) i (.dK (putK kvs (Sum.inr x) (.ref t)))) t = some (.tup [u1, .ref d']) := by
          rw [upd_ne nit.symm, upd_ne nit2.symm, upd_same]
        have k4 : Keep mk H _ := hk.trans (fun c v nc e => s4 _ _ e)
        exact ⟨udep b ((x, udep a δ') :: δ'), by omega, _, b, i, (x, expand a r') :: r', (x, udep a δ') :: δ', m1 + 1, rfl, hF2.mono (same_tup s4), hE'.let_ hd s4 upd_same ht4 hF1 hB'.1, hB'.2, rfl, by omega, he, by simp only [List.length_cons]; omega, k4, s4 _ _ hmk'⟩
      | nm x =>
        obtain ⟨p', rfl, hp'⟩ := hF'
        have hu : udep (.nm x) δ' = 1 + (δ'.lookup x).getD 0 := rfl
        obtain ⟨m2, rfl⟩ : ∃ m2, m1 = m2 + 1 := by
          cases m1 with
          | zero =>
            obtain ⟨_, e1, _⟩ := hE'
            subst e1
            cases hB'
          | succ m2 => exact ⟨m2, rfl⟩
        obtain ⟨kvs, hd, hkl, hq⟩ := hE'
        obtain ⟨t, u2, d2, F2, r2, δ2, a1, a2, a3, a4, a5, a6, a7, a8⟩ := hq x hB'
        simp only [wordF]
        walk_at "lw go"
        refine ⟨_, fun _ _ w => w, ?_⟩
        walk_at "lw go"
        refine g_ixT (SqT.of hp') (v := .str x) (atI_nat (j := 1) (by rfl)) ?_
        refine ⟨d', .ref t, rfl, a1 ▸ DGet.k (k := Sum.inr x) hd, ?_⟩
        walk_at "lw go"
        refine g_tupT (SqT.of a2) rfl ?_
        walk_at "lw go"
        obtain ⟨p2, xs2, rfl, hp2⟩ := frep_word a3
        refine g_ixT (SqT.of hp2) (v := .str (wordF F2)) (atI_nat (j := 0) (by rfl)) ?_
        walk_at "lw go"
        exact ⟨udep F2 δ2, by omega, _, F2, d2, r2, δ2, m2, rfl, a3, a4, a5, rfl, by omega, a6.trans he, by omega, hk, hmk'⟩
      | whole v =>
        obtain ⟨p', rfl, hp'⟩ := hF'
        simp only [wordF]
        walk_at "lw go"
        refine ⟨_, _, rfl, .inr (G.v_PAIRS _), rfl, rfl, ?_⟩
        walk_at "lw go"
        refine iteF ?_
        walk_at "lw go"
        refine g_ixT (SqT.of hp') (v := .int v) (atI_nat (j := 1) (by rfl)) ?_
        walk_at "lw go"
        refine ⟨by show 2 ≤ sizeLine; decide, fun t ht => ?_⟩
        walk_at "lw go"
        exact fin _ _ _ t st (.whole v) rfl rfl rfl (hk.new ht) (by rw [upd_ne (ne_of_none hmk' ht)]; exact hmk') upd_same (by omega) (by rw [← he]; rfl)
      | px =>
        obtain ⟨p', rfl, hp'⟩ := hF'
        simp only [wordF]
        walk_at "lw go"
        refine ⟨_, _, rfl, .inr (G.v_PAIRS _), rfl, rfl, ?_⟩
        walk_at "lw go"
        refine iteF ?_
        walk_at "lw go"
        refine ⟨by show 2 ≤ sizeLine; decide, fun t ht => ?_⟩
        walk_at "lw go"
        exact fin _ _ _ t st (.px dx) rfl rfl rfl (hk.new ht) (by rw [upd_ne (ne_of_none hmk' ht)]; exact hmk') upd_same (by omega) (by rw [← he]; rfl)
      | pz =>
        obtain ⟨p', rfl, hp'⟩ := hF'
        simp only [wordF]
        walk_at "lw go"
        refine ⟨_, _, rfl, .inr (G.v_PAIRS _), rfl, rfl, ?_⟩
        walk_at "lw go"
        refine iteF ?_
        walk_at "lw go"
        refine ⟨by show 2 ≤ sizeLine; decide, fun t ht => ?_⟩
        walk_at "lw go"
        exact fin _ _ _ t st (.pz dz) rfl rfl rfl (hk.new ht) (by rw [upd_ne (ne_of_none hmk' ht)]; exact hmk') upd_same (by omega) (by rw [← he]; rfl)
      | noise s0 l0 =>
        obtain ⟨p', rfl, hp'⟩ := hF'
        simp only [wordF]
        walk_at "lw go"
        refine ⟨_, _, rfl, .inr (G.v_PAIRS _), rfl, rfl, ?_⟩
        walk_at "lw go"
        refine iteF ?_
        walk_at "lw go"
        refine g_ixT (SqT.of hp') (v := .int s0) (atI_nat (j := 1) (by rfl)) ?_
        walk_at "lw go"
        refine g_ixT (SqT.of hp') (v := .int l0) (atI_nat (j := 2) (by rfl)) ?_
        walk_at "lw go"
        refine ⟨by show 5 ≤ sizeLine; decide, fun t ht => ?_⟩
        walk_at "lw go"
        exact fin _ _ _ t st (.noise s0 l0 dx dz) rfl rfl rfl (hk.new ht) (by rw [upd_ne (ne_of_none hmk' ht)]; exact hmk') upd_same (by omega) (by rw [← he]; rfl)
      | shift ex ez a =>
        obtain ⟨p', u1, rfl, hp', hF1⟩ := hF'
        have hu : udep (.shift ex ez a) δ' = 1 + udep a δ' := rfl
        have hc : cn (expand F r) = 1 + cn (expand a r') := by rw [← he]; rfl
        simp only [wordF]
        walk_at "lw go"
        refine ⟨_, _, rfl, .inr (G.v_PAIRS _), rfl, rfl, ?_⟩
        walk_at "lw go"
        refine iteF ?_
        walk_at "lw go"
        refine g_ixT (SqT.of hp') (v := u1) (atI_nat (j := 3) (by rfl)) ?_
        walk_at "lw go"
        refine g_ixT (SqT.of hp') (v := .int ex) (atI_nat (j := 1) (by rfl)) ?_
        walk_at "lw go"
        refine g_ixT (SqT.of hp') (v := .int ez) (atI_nat (j := 2) (by rfl)) ?_
        walk_at "lw go"
        refine ⟨u1, a, dx + ex, dz + ez, d', mk, m1, r', δ', st, rfl, hF1, hE', hB', by omega, hmk', by omega, by omega, fun H2 k2 h2 => ?_⟩
        have e2 : into (expand F r) dx dz st = into (expand a r') (dx + ex) (dz + ez) st := by rw [← he]; rfl
        rw [e2] at q
        exact q H2 (hk.trans k2) h2
      | over a v =>
        obtain ⟨p', u1, rfl, hp', hF1⟩ := hF'
        have hu : udep (.over a v) δ' = 1 + udep a δ' := rfl
        have hc : cn (expand F r) = 1 + cn (expand a r') := by rw [← he]; rfl
        simp only [wordF]
        walk_at "lw go"
        refine ⟨_, _, rfl, .inr (G.v_PAIRS _), rfl, rfl, ?_⟩
        walk_at "lw go"
        refine iteF ?_
        walk_at "lw go"
        refine g_ixT (SqT.of hp') (v := u1) (atI_nat (j := 1) (by rfl)) ?_
        walk_at "lw go"
        refine ⟨u1, a, dx, dz, d', mk, m1, r', δ', st, rfl, hF1, hE', hB', by omega, hmk', by omega, by omega, fun H2 k2 h2 => ?_⟩
        walk_at "lw go"
        have il := (into_ok (expand a r') dx dz st).len
        refine g_ixT (SqT.of (keepT_tup k2 hmk' _ _ hp')) (v := .int v) (atI_nat (j := 2) (by rfl)) ?_
        walk_at "lw go"
        refine ⟨by show 3 ≤ sizeLine; decide, fun t ht => ?_⟩
        walk_at "lw go"
        exact fin _ _ _ t _ (.over (into (expand a r') dx dz st).2 v) rfl rfl rfl ((hk.trans k2).new ht) (by rw [upd_ne (ne_of_none h2 ht)]; exact h2) upd_same (by omega) (by rw [← he]; rfl)
      | two c a b =>
        obtain ⟨p', u1, u2, rfl, hp', hF1, hF2⟩ := hF'
        have hu : udep (.two c a b) δ' = 1 + max (udep a δ') (udep b δ') := rfl
        have hc : cn (expand F r) = 1 + (cn (expand a r') + cn (expand b r')) := by rw [← he]; rfl
        have ne1 : decide (c.word = "let") = false := word_ne (by decide +kernel) c
        have ne2 : decide (c.word = "name") = false := word_ne (by decide +kernel) c
        simp only [wordF]
        walk_at "lw go"
        refine ⟨_, _, rfl, .inr (G.v_PAIRS _), rfl, rfl, ?_⟩
        rw [pairs_word]
        walk_at "lw go"
        refine iteT ?_
        walk_at "lw go"
        refine g_ixT (SqT.of hp') (v := u1) (atI_nat (j := 1) (by rfl)) ?_
        walk_at "lw go"
        refine ⟨u1, a, dx, dz, d', mk, m1, r', δ', st, rfl, hF1, hE', hB'.1, by omega, hmk', by omega, by omega, fun H2 k2 h2 => ?_⟩
        walk_at "lw go"
        have il := (into_ok (expand a r') dx dz st).len
        have t2 := keepT_tup k2 hmk'
        refine g_ixT (SqT.of (t2 _ _ hp')) (v := u2) (atI_nat (j := 2) (by rfl)) ?_
        walk_at "lw go"
        refine ⟨u2, b, dx, dz, d', mk, m1, r', δ', (into (expand a r') dx dz st).1, rfl, hF2.mono t2, envR_keep k2 hmk' hE', hB'.2, by omega, h2, by omega, by omega, fun H3 k3 h3 => ?_⟩
        walk_at "lw go"
        have il2 := (into_ok (expand b r') dx dz (into (expand a r') dx dz st).1).len
        refine ⟨by show 3 ≤ sizeLine; decide, fun t ht => ?_⟩
        walk_at "lw go"
        exact fin _ _ _ t _ (.two c (into (expand a r') dx dz st).2 (into (expand b r') dx dz (into (expand a r') dx dz st).1).2) rfl rfl rfl (((hk.trans k2).trans k3).new ht) (by rw [upd_ne (ne_of_none h3 ht)]; exact h3) upd_same (by omega) (by rw [← he]; rfl)
      | bel b1 b2 b3 b4 =>
        obtain ⟨p', u1, u2, u3, u4, rfl, hp', hF1, hF2, hF3, hF4⟩ := hF'
        have hu : udep (.bel b1 b2 b3 b4) δ' = 1 + max (max (udep b1 δ') (udep b2 δ')) (max (udep b3 δ') (udep b4 δ')) := rfl
        have hc : cn (expand F r) = 1 + (cn (expand b1 r') + (cn (expand b2 r') + (cn (expand b3 r') + cn (expand b4 r')))) := by rw [← he]; rfl
        simp only [wordF]
        walk_at "lw go"
        refine ⟨_, _, rfl, .inr (G.v_PAIRS _), rfl, rfl, ?_⟩
        walk_at "lw go"
        refine iteF ?_
        walk_at "lw go"
        obtain ⟨q1, e1⟩ : ∃ q1, into (expand b1 r') dx dz st = q1 := ⟨_, rfl⟩
        obtain ⟨q2, e2⟩ : ∃ q2, into (expand b2 r') dx dz q1.1 = q2 := ⟨_, rfl⟩
        obtain ⟨q3, e3⟩ : ∃ q3, into (expand b3 r') dx dz q2.1 = q3 := ⟨_, rfl⟩
        obtain ⟨q4, e4⟩ : ∃ q4, into (expand b4 r') dx dz q3.1 = q4 := ⟨_, rfl⟩
        have i1 := (into_ok (expand b1 r') dx dz st).len
        have i2 := (into_ok (expand b2 r') dx dz q1.1).len
        have i3 := (into_ok (expand b3 r') dx dz q2.1).len
        have i4 := (into_ok (expand b4 r') dx dz q3.1).len
        rw [e1] at i1
        rw [e2] at i2
        rw [e3] at i3
        rw [e4] at i4
        refine g_slT (SqT.of hp') cut1T_ok fun t ht => ?_
        rw [cut1T]
        have k1 : Keep mk H1 (upd H1 t (.tup [u1, u2, u3, u4])) := Keep.refl.new ht
        have mkt : mk ≠ t := ne_of_none hmk' ht
        have hmk2 : (upd H1 t (.tup [u1, u2, u3, u4])) mk = some (.dT (mkKV st)) := by rw [upd_ne mkt]; exact hmk'
        refine ⟨t, rfl, ⟨_, SqT.of upd_same⟩, fun D hD => ?_⟩
        have mkD : mk ≠ D := ne_of_none hmk2 hD
        have tD : t ≠ D := ne_of_none upd_same hD
        have hD1 : H1 D = none := none_back (o := .tup [u1, u2, u3, u4]) ht (same_new ht) hD
        refine lc_tup (xs := [u1, u2, u3, u4]) (fun i H' => Keep mk H1 H' ∧ H' t = some (.tup [u1, u2, u3, u4]) ∧ H' mk = some (.dT (mkKV (([st, q1.1, q2.1, q3.1, q4.1] : List (List Stp)).getD i []))) ∧ H' D = some (.lst ((([q1.2, q2.2, q3.2, q4.2] : List Nat).take i).map fun z : Nat => V.int (z : Int))))
          ⟨k1.new hD, by rw [upd_ne tD, upd_same], by rw [upd_ne mkD]; exact hmk2, upd_same⟩ (fun i H' _ ⟨_, h, _⟩ => SqT.of h) ?_ ?_
        · rintro i y H' hi ⟨kH, htH, hmH, hDH⟩
          obtain ⟨B, hB1, hB2, hB3, hB4, hB5, hB6, hi4⟩ : ∃ B : Fd, FRep B H1 y ∧ udep B δ' + 1 ≤ udep (.bel b1 b2 b3 b4) δ' ∧ Bnd B (r'.map (·.1)) ∧ (([st, q1.1, q2.1, q3.1, q4.1] : List (List Stp)).getD i []).length + cn (expand B r') ≤ 900 ∧
              ([st, q1.1, q2.1, q3.1, q4.1] : List (List Stp)).getD (i + 1) [] = (into (expand B r') dx dz (([st, q1.1, q2.1, q3.1, q4.1] : List (List Stp)).getD i [])).1 ∧
              ([q1.2, q2.2, q3.2, q4.2] : List Nat)[i]? = some (into (expand B r') dx dz (([st, q1.1, q2.1, q3.1, q4.1] : List (List Stp)).getD i [])).2 ∧ i < 4 := by
            match i, hi with
            | 0, hi => cases Option.some.inj hi; exact ⟨b1, hF1, by omega, hB'.1, by show st.length + _ ≤ 900; omega, by show q1.1 = _; rw [← e1]; rfl, by show some q1.2 = _; rw [← e1]; rfl, by omega⟩
            | 1, hi => cases Option.some.inj hi; exact ⟨b2, hF2, by omega, hB'.2.1, by show q1.1.length + _ ≤ 900; omega, by show q2.1 = _; rw [← e2]; rfl, by show some q2.2 = _; rw [← e2]; rfl, by omega⟩
            | 2, hi => cases Option.some.inj hi; exact ⟨b3, hF3, by omega, hB'.2.2.1, by show q2.1.length + _ ≤ 900; omega, by show q3.1 = _; rw [← e3]; rfl, by show some q3.2 = _; rw [← e3]; rfl, by omega⟩
            | 3, hi => cases Option.some.inj hi; exact ⟨b4, hF4, by omega, hB'.2.2.2, by show q3.1.length + _ ≤ 900; omega, by show q4.1 = _; rw [← e4]; rfl, by show some q4.2 = _; rw [← e4]; rfl, by omega⟩
            | k + 4, hi => cases hi
          walk_at "lw go"
          refine ⟨rfl, g_yes (iteT ?_)⟩
          walk_at "lw go"
          refine ⟨y, B, dx, dz, d', mk, m1, r', δ', _, rfl, hB1.mono (keepT_tup kH hmk'), envR_keep kH hmk' hE', hB3, by omega, hmH, hB4, by omega, fun H2 k2 h2 => ?_⟩
          have hD2 := k2 _ _ mkD.symm hDH
          refine ⟨_, hD2, by rw [List.length_map, List.length_take]; exact small1000 (by omega), ?_, ?_, ?_, ?_⟩
          · exact fun c u nc e => by rw [upd_ne (ne_of_none e hD1)]; exact (kH.trans k2) c u nc e
          · rw [upd_ne tD]; exact keepT_tup k2 hmH _ _ htH
          · rw [upd_ne mkD, h2, hB5]
          · rw [upd_same, List.take_add_one, hB6, List.map_append]
            rfl
        rintro H' ⟨kH, htH, hmH, hDH⟩
        walk_at "lw go"
        refine ⟨D, _, rfl, .inr (SqL.of hDH), ?_⟩
        walk_at "lw go"
        refine ⟨by show 5 ≤ sizeLine; decide, fun t2 ht2 => ?_⟩
        walk_at "lw go"
        exact fin _ _ _ t2 q4.1 (.bel q1.2 q2.2 q3.2 q4.2) rfl rfl rfl ((hk.trans kH).new ht2) (by rw [upd_ne (ne_of_none hmH ht2)]; exact hmH) upd_same (by omega) (by rw [← he]; show _ = into (.bel _ _ _ _) dx dz st; unfold into; simp only [e1, e2, e3, e4])
abbrev N_below_range : List Str := ["parts", "one", "other", "then", "otherwise"]
theorem sc_below_range : FnScope N_below_range ["parts"] (defScope s_below_range) := ⟨rfl, rfl, rfl, by decide +kernel, rfl, by decide +kernel, by decide +kernel⟩
theorem ok_below_range (F : FnP K "below_range" s_below_range f fd) (T : Bi mg) (G : Kn w K mg)  : FnOk P w K mg base CX0 1 f fd ["parts"] spBelw := by
  refine F.ok sc_below_range (fun vs H Q E h => ?_) (fun cdv A outer s H vs Q E hr h => ⟨_, PSs.nox
(pss_cons (ps_asg (pv 0) (pg_lst (by rfl) (pgs_cons (pg_name (i := 1) sc_below_range.nd rfl (Or.inl rfl)) (pgs_cons (pg_name (i := 2) sc_below_range.nd rfl (Or.inl rfl)) (pgs_cons (pg_name (i := 3) sc_below_range.nd rfl (Or.inl rfl)) (pgs_cons (pg_name (i := 4) sc_below_range.nd rfl (Or.inl rfl)) pgs_nil))))))
  (pss_cons (ps_if (pt_cmpR op_lt (pe_ix ix_tup (pv 1) pe_int (fun _ _ => rfl)) (pe_ix ix_tup (pv 2) pe_int (fun _ _ => rfl)) (nomark _))
  (pss_one (ps_ret (pv 3)))
  pss_nil)
  (pss_cons (ps_if (pt_cmpR op_ge (pe_ix ix_tup (pv 1) pe_int (fun _ _ => rfl)) (pe_ix ix_tup (pv 2) pe_int (fun _ _ => rfl)) (nomark _))
  (pss_one (ps_ret (pv 4)))
  pss_nil)
  (pss_one (ps_ret (pe_tup (pa_cons (pe_callB (call_min2 rfl) (by rfl) T.min (by decide +kernel) (pa_cons (pe_ix ix_tup (pv 3) pe_int (fun _ _ => rfl)) (pa_cons (pe_ix ix_tup (pv 4) pe_int (fun _ _ => rfl)) pa_nil))) (pa_cons (pe_callB (call_max2 rfl) (by rfl) T.max (by decide +kernel) (pa_cons (pe_ix ix_tup (pv 3) pe_int (fun _ _ => rfl)) (pa_cons (pe_ix ix_tup (pv 4) pe_int (fun _ _ => rfl)) pa_nil))) pa_nil)))))))), ?_⟩)
  · obtain ⟨l, p1, p2, p3, p4, a, b, c, d, rfl, _⟩ := h
    rfl
  · obtain ⟨l, p1, p2, p3, p4, a, b, c, d, rfl, hl, h1, h2, h3, h4, q⟩ := h
    walk_at "lw i0"
    walk_at "lw go"
    refine Pf.g_lstT (SqL.of hl) rfl ?_
    walk_at "lw go"
    refine g_ixT (SqT.of h1) (v := .int a.2) (atI_nat (j := 1) (by rfl)) ?_
    walk_at "lw go"
    refine g_ixT (SqT.of h2) (v := .int b.1) (atI_nat (j := 0) (by rfl)) ?_
    walk_at "lw go"
    refine g_ite (fun hlt => ?_) (fun hlt => ?_)
    · walk_at "lw go"
      have e : belR a b c d = c := if_pos hlt
      rw [e] at q
      exact q _ _ (Same.refl H) h3
    · walk_at "lw go"
      refine g_ixT (SqT.of h1) (v := .int a.1) (atI_nat (j := 0) (by rfl)) ?_
      walk_at "lw go"
      refine g_ixT (SqT.of h2) (v := .int b.2) (atI_nat (j := 1) (by rfl)) ?_
      walk_at "lw go"
      refine g_ite (fun hge => ?_) (fun hge => ?_)
      · walk_at "lw go"
        have e : belR a b c d = d := by unfold belR; rw [if_neg hlt, if_pos hge]
        rw [e] at q
        exact q _ _ (Same.refl H) h4
      · walk_at "lw go"
        refine g_ixT (SqT.of h3) (v := .int c.1) (atI_nat (j := 0) (by rfl)) ?_
        walk_at "lw go"
        refine g_ixT (SqT.of h4) (v := .int d.1) (atI_nat (j := 0) (by rfl)) ?_
        walk_at "lw go"
        refine ⟨_, _, rfl, ?_⟩
        walk_at "lw go"
        refine g_ixT (SqT.of h3) (v := .int c.2) (atI_nat (j := 1) (by rfl)) ?_
        walk_at "lw go"
        refine g_ixT (SqT.of h4) (v := .int d.2) (atI_nat (j := 1) (by rfl)) ?_
        walk_at "lw go"
        refine ⟨_, _, rfl, ?_⟩
        walk_at "lw go"
        have e : belR a b c d = (min c.1 d.1, max c.2 d.2) := by unfold belR; rw [if_neg hlt, if_neg hge]
        rw [e] at q
        exact q.new (by show _ = min _ _; split <;> omega) (by show _ = max _ _; split <;> omega) (Same.refl H)
abbrev N_joined_range : List Str := ["word", "one", "other", "low", "high", "least", "most", "products"]
theorem sc_joined_range : FnScope N_joined_range ["word", "one", "other"] (defScope s_joined_range) := ⟨rfl, rfl, rfl, by decide +kernel, rfl, by decide +kernel, by decide +kernel⟩
theorem ok_joined_range (F : FnP K "joined_range" s_joined_range f fd) (T : Bi mg) (G : Kn w K mg)  : FnOk P w K mg base CX0 1 f fd ["word", "one", "other"] spJoin := by
  refine F.ok sc_joined_range (fun vs H Q E h => ?_) (fun cdv A outer s H vs Q E hr h => ⟨_, PSs.nox
(pss_cons (ps_asg (pv 1) (pg_tup (by rfl) (pgs_cons (pg_name (i := 3) sc_joined_range.nd rfl (Or.inl rfl)) (pgs_cons (pg_name (i := 4) sc_joined_range.nd rfl (Or.inl rfl)) pgs_nil))))
  (pss_cons (ps_asg (pv 2) (pg_tup (by rfl) (pgs_cons (pg_name (i := 5) sc_joined_range.nd rfl (Or.inl rfl)) (pgs_cons (pg_name (i := 6) sc_joined_range.nd rfl (Or.inl rfl)) pgs_nil))))
  (pss_cons (ps_if (pt_cmpR op_eq (pv 0) pe_str (nomark _))
  (pss_one (ps_ret (pe_tup (pa_cons (pe_op op_add (pv 3) (pv 5)) (pa_cons (pe_op op_add (pv 4) (pv 6)) pa_nil)))))
  pss_nil)
  (pss_cons (ps_if (pt_cmpR op_eq (pv 0) pe_str (nomark _))
  (pss_one (ps_ret (pe_tup (pa_cons (pe_op op_sub (pv 3) (pv 6)) (pa_cons (pe_op op_sub (pv 4) (pv 5)) pa_nil)))))
  pss_nil)
  (pss_cons (ps_if (pt_cmpR op_eq (pv 0) pe_str (nomark _))
  (pss_one (ps_ret (pe_tup (pa_cons (pe_ifExp (pt_cmpR op_lt (pv 3) (pv 5) (nomark _)) (pv 3) (pv 5)) (pa_cons (pe_ifExp (pt_cmpR op_lt (pv 4) (pv 6) (nomark _)) (pv 4) (pv 6)) pa_nil)))))
  pss_nil)
  (pss_cons (ps_if (pt_cmpR op_eq (pv 0) pe_str (nomark _))
  (pss_one (ps_ret (pe_tup (pa_cons (pe_ifExp (pt_cmpR op_gt (pv 3) (pv 5) (nomark _)) (pv 3) (pv 5)) (pa_cons (pe_ifExp (pt_cmpR op_gt (pv 4) (pv 6) (nomark _)) (pv 4) (pv 6)) pa_nil)))))
  pss_nil)
  (pss_cons (ps_set (i := 7) sc_joined_range.nd rfl (Or.inl rfl) (pe_tup (pa_cons (pe_op op_mulW (pv 3) (pv 5)) (pa_cons (pe_op op_mulW (pv 3) (pv 6)) (pa_cons (pe_op op_mulW (pv 4) (pv 5)) (pa_cons (pe_op op_mulW (pv 4) (pv 6)) pa_nil))))))
  (pss_one (ps_ret (pe_tup (pa_cons (pe_callB (Dz.cr_minT rfl) (by rfl) T.min (by decide +kernel) (pa_cons (pv 7) pa_nil)) (pa_cons (pe_callB (Dz.cr_maxT rfl) (by rfl) T.max (by decide +kernel) (pa_cons (pv 7) pa_nil)) pa_nil)))))))))))), ?_⟩)
  · obtain ⟨w, p1, p2, a, b, rfl, _⟩ := h
    rfl
  · obtain ⟨w, p1, p2, a, b, rfl, h1, h2, hm, q⟩ := h
    walk_at "lw i0"
    walk_at "lw go"
    refine g_tupT (SqT.of h1) rfl ?_
    walk_at "lw go"
    refine g_tupT (SqT.of h2) rfl ?_
    cases w with
    | plus => walk_at "lw go"; exact q.new rfl rfl (Same.refl H)
    | less => walk_at "lw go"; exact q.new rfl rfl (Same.refl H)
    | least =>
      walk_at "lw go"
      refine g_ite (fun h1 => ?_) (fun h1 => ?_) <;>
        (walk_at "lw go"; refine g_ite (fun h2 => ?_) (fun h2 => ?_) <;> (walk_at "lw go"; exact q.new (by show _ = min _ _; omega) (by show _ = min _ _; omega) (Same.refl H)))
    | most =>
      walk_at "lw go"
      refine g_ite (fun h1 => ?_) (fun h1 => ?_) <;>
        (walk_at "lw go"; refine g_ite (fun h2 => ?_) (fun h2 => ?_) <;> (walk_at "lw go"; exact q.new (by show _ = max _ _; omega) (by show _ = max _ _; omega) (Same.refl H)))
    | times =>
      obtain ⟨m1, m2, m3, m4⟩ := hm rfl
      walk_at "lw go"
      refine ⟨by show 4 ≤ sizeLine; decide, fun t ht => ?_⟩
      walk_at "lw go"
      refine ⟨t, [a.1 * b.1, a.1 * b.2, a.2 * b.1, a.2 * b.2], rfl, SqT.of upd_same, by show 0 < 4; decide, fun m hm1 hle => ?_⟩
      walk_at "lw go"
      refine ⟨t, [a.1 * b.1, a.1 * b.2, a.2 * b.1, a.2 * b.2], rfl, SqT.of upd_same, by show 0 < 4; decide, fun m' hm' hle' => ?_⟩
      walk_at "lw go"
      exact q.new (Pf.mn4_of hm1 hle) (Pf.mx4_of hm' hle') (same_new ht)
abbrev N_ranges_of : List Str := ["some", "seed", "box", "x0", "z0", "x1", "z1", "ranges", "step", "word", "dx", "dz", "found", "low", "high", "number"]
theorem sc_ranges_of : FnScope N_ranges_of ["some", "seed", "box"] (defScope s_ranges_of) := ⟨rfl, rfl, rfl, by decide +kernel, rfl, by decide +kernel, by decide +kernel⟩
theorem ok_ranges_of (F : FnP K "ranges_of" s_ranges_of f fd) (T : Bi mg) (G : Kn w K mg) (D_noise_range : Df P w K mg base "noise_range" ["seed", "salt", "log", "box"] 3 spNRg) (D_below_range : Df P w K mg base "below_range" ["parts"] 1 spBelw) (D_joined_range : Df P w K mg base "joined_range" ["word", "one", "other"] 1 spJoin) : FnOk P w K mg base CX0 4 f fd ["some", "seed", "box"] (spRgs K) := by
  refine F.ok sc_ranges_of (fun vs H Q E h => ?_) (fun cdv A outer s H vs Q E hr h => ⟨_, PSs.nox
(pss_cons (ps_asg (pv 2) (pg_tup (by rfl) (pgs_cons (pg_name (i := 3) sc_ranges_of.nd rfl (Or.inl rfl)) (pgs_cons (pg_name (i := 4) sc_ranges_of.nd rfl (Or.inl rfl)) (pgs_cons (pg_name (i := 5) sc_ranges_of.nd rfl (Or.inl rfl)) (pgs_cons (pg_name (i := 6) sc_ranges_of.nd rfl (Or.inl rfl)) pgs_nil))))))
  (pss_cons (ps_set (i := 7) sc_ranges_of.nd rfl (by first | exact Or.inr rfl | exact Or.inl rfl) (pe_lst pa_nil))
  (pss_cons (ps_for PassesOwn.never rfl (pi_list (pv 0)) (pg_name (i := 8) sc_ranges_of.nd rfl (Or.inl rfl))
  (pss_cons (ps_set (i := 9) sc_ranges_of.nd rfl (Or.inl rfl) (pe_ix ix_tup (pv 8) pe_int (fun _ _ => rfl)))
  (pss_cons (ps_if (pt_cmpR op_eq (pv 9) pe_str (nomark _))
  (pss_cons (ps_par (i := 10) (j := 11) rfl sc_ranges_of.nd rfl rfl (by decide) rfl rfl (pa_cons (pe_ix ix_tup (pv 8) pe_int (fun _ _ => rfl)) (pa_cons (pe_ix ix_tup (pv 8) pe_int (fun _ _ => rfl)) pa_nil)) rfl)
  (pss_one (ps_set (i := 12) sc_ranges_of.nd rfl (Or.inl rfl) (pe_df D_noise_range (hr.mono (by first | decide | omega)) (pa_cons (pv 1) (pa_cons (pe_ix ix_tup (pv 8) pe_int (fun _ _ => rfl)) (pa_cons (pe_ix ix_tup (pv 8) pe_int (fun _ _ => rfl)) (pa_cons (pe_tup (pa_cons (pe_op op_add (pv 3) (pv 10)) (pa_cons (pe_op op_add (pv 4) (pv 11)) (pa_cons (pe_op op_add (pv 5) (pv 10)) (pa_cons (pe_op op_add (pv 6) (pv 11)) pa_nil))))) pa_nil))))))))
  (pss_one (ps_if (pt_cmpR op_eq (pv 9) pe_str (nomark _))
  (pss_one (ps_set (i := 12) sc_ranges_of.nd rfl (Or.inl rfl) (pe_tup (pa_cons (pe_ix ix_tup (pv 8) pe_int (fun _ _ => rfl)) (pa_cons (pe_ix ix_tup (pv 8) pe_int (fun _ _ => rfl)) pa_nil)))))
  (pss_one (ps_if (pt_cmpR op_eq (pv 9) pe_str (nomark _))
  (pss_one (ps_set (i := 12) sc_ranges_of.nd rfl (Or.inl rfl) (pe_tup (pa_cons (pe_op op_add (pv 3) (pe_ix ix_tup (pv 8) pe_int (fun _ _ => rfl))) (pa_cons (pe_op op_add (pv 5) (pe_ix ix_tup (pv 8) pe_int (fun _ _ => rfl))) pa_nil)))))
  (pss_one (ps_if (pt_cmpR op_eq (pv 9) pe_str (nomark _))
  (pss_one (ps_set (i := 12) sc_ranges_of.nd rfl (Or.inl rfl) (pe_tup (pa_cons (pe_op op_add (pv 4) (pe_ix ix_tup (pv 8) pe_int (fun _ _ => rfl))) (pa_cons (pe_op op_add (pv 6) (pe_ix ix_tup (pv 8) pe_int (fun _ _ => rfl))) pa_nil)))))
  (pss_one (ps_if (pt_cmpR op_eq (pv 9) pe_str (nomark _))
  (pss_cons (ps_asg (pe_ix ix_list (pv 7) (pe_ix ix_tup (pv 8) pe_int (fun _ _ => rfl)) (fun _ _ => rfl)) (pg_tup (by rfl) (pgs_cons (pg_name (i := 13) sc_ranges_of.nd rfl (Or.inl rfl)) (pgs_cons (pg_name (i := 14) sc_ranges_of.nd rfl (Or.inl rfl)) pgs_nil))))
  (pss_one (ps_set (i := 12) sc_ranges_of.nd rfl (Or.inl rfl) (pe_tup (pa_cons (pe_op op_fdivW (pv 13) (pe_ix ix_tup (pv 8) pe_int (fun _ _ => rfl))) (pa_cons (pe_op op_fdivW (pv 14) (pe_ix ix_tup (pv 8) pe_int (fun _ _ => rfl))) pa_nil))))))
  (pss_one (ps_if (pt_cmpR op_eq (pv 9) pe_str (nomark _))
  (pss_one (ps_set (i := 12) sc_ranges_of.nd rfl (Or.inl rfl) (pe_df D_below_range (hr.mono (by first | decide | omega)) (pa_cons (pe_lc (own := [("number", 15)]) (g := gName 15) (tt := tYes) rfl sc_ranges_of.nd (pi_tup (pe_slice sl_tup (pv 8) (po_some pe_int) po_none)) (blkOk_by (N := N_ranges_of) (sc := defScope s_ranges_of) (by decide +kernel)) (fun _ _ _ _ _ => pg_name (i := 15) sc_ranges_of.nd rfl (by first | exact Or.inl rfl | exact Or.inr rfl)) (fun _ _ _ _ _ => pts_nil) (fun _ _ _ _ _ => (pe_ix (ix_listK (K := K)) (pv 7) (pv 15) (fun _ _ => rfl)))) pa_nil))))
  (pss_one (ps_set (i := 12) sc_ranges_of.nd rfl (Or.inl rfl) (pe_df D_joined_range (hr.mono (by first | decide | omega)) (pa_cons (pv 9) (pa_cons (pe_ix ix_list (pv 7) (pe_ix ix_tup (pv 8) pe_int (fun _ _ => rfl)) (fun _ _ => rfl)) (pa_cons (pe_ix ix_list (pv 7) (pe_ix ix_tup (pv 8) pe_int (fun _ _ => rfl)) (fun _ _ => rfl)) pa_nil)))))))))))))))))
  (pss_one (ps_expr (pe_bm PySem.F.plainAttrs_list PySem.F.slot_list_append PySem.F.type_list_append mt_append (pv 7) (pa_cons (pv 12) pa_nil)))))))
  (pss_one (ps_ret (pv 7)))))), ?_⟩)
  · obtain ⟨a, b, ws, st, g, x0, z0, x1, z1, rfl, _⟩ := h
    rfl
  · obtain ⟨a, b, ws, st, g, x0, z0, x1, z1, rfl, hSq, hS, hOk, hOs, hb, hW, hSz, hlen, q⟩ := h
    walk_at "lw i0"
    have hwl : ws.length = st.length := Paired.length hS
    walk_at "lw go"
    refine g_tupT hb rfl ?_
    walk_at "lw go"
    refine ⟨by show 0 ≤ sizeLine; decide, fun l hl => ?_⟩
    walk_at "lw go"
    refine ⟨a, rfl, ⟨ws, Same.seq (same_new hl) hSq⟩, for_list (xs := ws) (fun i σ H' => ∃ (o8 o9 o10 o11 o12 o13 o14 o15 : Option V) (rs : List V), σ = [some (.ref a), some (.int g), some (.ref b), some (.int x0), some (.int z0), some (.int x1), some (.int z1), some (.ref l), o8, o9, o10, o11, o12, o13, o14, o15] ∧ Same H H' ∧ H' l = some (.lst rs) ∧ PairsR H' rs ((rngA wideN x0 z0 x1 z1).run (st.take i)))
      ⟨none, none, none, none, none, none, none, none, [], rfl, same_new hl, upd_same, .nil⟩ (fun i σ H' _ ⟨_, _, _, _, _, _, _, _, _, _, s, _⟩ => Same.seq s hSq) ?_ ?_⟩
    · rintro i y σ H' hy ⟨o8, o9, o10, o11, o12, o13, o14, o15, rs, rfl, s, hl', hrs⟩
      obtain ⟨t, hst, p, rfl, hp0⟩ := steps_at hS hy
      have hp := s _ _ hp0
      have hi : i < st.length := by rw [← hwl]; exact (List.getElem?_eq_some_iff.mp hy).1
      obtain ⟨vals, hvals⟩ : ∃ vals, (rngA wideN x0 z0 x1 z1).run (st.take i) = vals := ⟨_, rfl⟩
      have vlen : vals.length = i := by rw [← hvals, run_len, List.length_take]; omega
      have hnext : (rngA wideN x0 z0 x1 z1).run (st.take (i + 1)) = vals ++ [(rngA wideN x0 z0 x1 z1).step t vals] := by
        rw [List.take_add_one, hst, ← hvals]
        exact run_snoc _ _ _
      have hbits : ∀ j, j < i → B2 (vals.getD j (0, 0)) 200000 := fun j hj => by
        have e := run_get (rngA wideN x0 z0 x1 z1) (List.take_prefix i st) (i := j) (by rw [List.length_take]; omega)
        have b := hSz j (by omega)
        rw [hvals] at e
        have e' : ((rngA wideN x0 z0 x1 z1).run st).getD j (0, 0) = vals.getD j (0, 0) := e
        rw [e'] at b
        exact b
      have hos := hOs t (List.mem_of_getElem? hst)
      have hlt := hOk i t hst
      rw [hvals] at hrs
      have rlen : rs.length = i := by rw [Paired.length hrs, vlen]
      have app : rs.length < sizeLine := by rw [rlen]; exact small1000 (by omega)
      have fin : ∀ (t' : Addr) (H2 : Hp) (u9 u10 u11 u12 u13 u14 u15 : Option V) (ab : Int × Int), Same H' H2 → Pr H2 t' ((rngA wideN x0 z0 x1 z1).step t vals) →
          ∃ (o8 o9 o10 o11 o12 o13 o14 o15 : Option V) (rs' : List V), [some (.ref a), some (.int g), some (.ref b), some (.int x0), some (.int z0), some (.int x1), some (.int z1), some (.ref l), some (.ref p), u9, u10, u11, u12, u13, u14, u15] = [some (.ref a), some (.int g), some (.ref b), some (.int x0), some (.int z0), some (.int x1), some (.int z1), some (.ref l), o8, o9, o10, o11, o12, o13, o14, o15] ∧
            Same H (upd H2 l (.lst (rs ++ [.ref t']))) ∧ (upd H2 l (.lst (rs ++ [.ref t']))) l = some (.lst rs') ∧ PairsR (upd H2 l (.lst (rs ++ [.ref t']))) rs' ((rngA wideN x0 z0 x1 z1).run (st.take (i + 1))) := fun t' H2 u9 u10 u11 u12 u13 u14 u15 _ s2 h2 =>
        ⟨_, _, _, _, _, _, _, _, _, rfl, same_put (s.trans s2) hl, upd_same, by rw [hnext]; exact PairsR.append (pairs_putL (s2 _ _ hl') (hrs.mono s2)) (.cons ⟨t', rfl, by rw [upd_ne (ne_of h2 (s2 _ _ hl') (by intro z; cases z))]; exact h2⟩ .nil)⟩
      clear hvals hnext hSz hOk hOs hS q
      cases t with
      | whole n =>
        walk_at "lw go"
        refine g_ixT (SqT.of hp) (v := .str "whole") (atI_nat (j := 0) (by rfl)) ?_
        walk_at "lw go"
        refine g_ixT (SqT.of hp) (v := .int n) (atI_nat (j := 1) (by rfl)) ?_
        walk_at "lw go"
        refine g_ixT (SqT.of hp) (v := .int n) (atI_nat (j := 1) (by rfl)) ?_
        walk_at "lw go"
        refine ⟨by show 2 ≤ sizeLine; decide, fun t ht => ?_⟩
        walk_at "lw go"
        have st1 := same_new (o := .tup [.int (n), .int (n)]) ht
        refine ⟨tyL (st1 _ _ hl'), ?_⟩
        walk_at "lw go"
        refine g_append (st1 _ _ hl') app ?_
        exact fin _ _ _ _ _ _ _ _ _ (0, 0) st1 upd_same
      | px d =>
        walk_at "lw go"
        refine g_ixT (SqT.of hp) (v := .str "x") (atI_nat (j := 0) (by rfl)) ?_
        walk_at "lw go"
        refine g_ixT (SqT.of hp) (v := .int d) (atI_nat (j := 1) (by rfl)) ?_
        walk_at "lw go"
        refine g_ixT (SqT.of hp) (v := .int d) (atI_nat (j := 1) (by rfl)) ?_
        walk_at "lw go"
        refine ⟨by show 2 ≤ sizeLine; decide, fun t ht => ?_⟩
        walk_at "lw go"
        have st1 := same_new (o := .tup [.int (x0 + d), .int (x1 + d)]) ht
        refine ⟨tyL (st1 _ _ hl'), ?_⟩
        walk_at "lw go"
        refine g_append (st1 _ _ hl') app ?_
        exact fin _ _ _ _ _ _ _ _ _ (0, 0) st1 upd_same
      | pz d =>
        walk_at "lw go"
        refine g_ixT (SqT.of hp) (v := .str "z") (atI_nat (j := 0) (by rfl)) ?_
        walk_at "lw go"
        refine g_ixT (SqT.of hp) (v := .int d) (atI_nat (j := 1) (by rfl)) ?_
        walk_at "lw go"
        refine g_ixT (SqT.of hp) (v := .int d) (atI_nat (j := 1) (by rfl)) ?_
        walk_at "lw go"
        refine ⟨by show 2 ≤ sizeLine; decide, fun t ht => ?_⟩
        walk_at "lw go"
        have st1 := same_new (o := .tup [.int (z0 + d), .int (z1 + d)]) ht
        refine ⟨tyL (st1 _ _ hl'), ?_⟩
        walk_at "lw go"
        refine g_append (st1 _ _ hl') app ?_
        exact fin _ _ _ _ _ _ _ _ _ (0, 0) st1 upd_same
      | noise s0 l0 dx dz =>
        have hl0 : 0 ≤ l0 := hos.1
        have hl8 : l0 ≤ 8 := hos.2
        walk_at "lw go"
        refine g_ixT (SqT.of hp) (v := .str "noise") (atI_nat (j := 0) (by rfl)) ?_
        walk_at "lw go"
        with_reducible refine' g_par ?_
        walk_at "lw go"
        refine g_ixT (SqT.of hp) (v := .int dx) (atI_nat (j := 3) (by rfl)) ?_
        walk_at "lw go"
        refine g_ixT (SqT.of hp) (v := .int dz) (atI_nat (j := 4) (by rfl)) ?_
        walk_at "lw go"
        refine ⟨_, _, rfl, ?_⟩
        walk_at "lw ns"
        walk_at "lw go"
        refine g_ixT (SqT.of hp) (v := .int s0) (atI_nat (j := 1) (by rfl)) ?_
        walk_at "lw go"
        refine g_ixT (SqT.of hp) (v := .int l0) (atI_nat (j := 2) (by rfl)) ?_
        walk_at "lw go"
        refine ⟨by show 4 ≤ sizeLine; decide, fun t ht => ?_⟩
        walk_at "lw go"
        have st1 := same_new (o := .tup [.int (x0 + dx), .int (z0 + dz), .int (x1 + dx), .int (z1 + dz)]) ht
        refine ⟨g, s0, l0, x0 + dx, z0 + dz, x1 + dx, z1 + dz, t, rfl, hl0, hl8, upd_same, ⟨by have := hW.wx; omega, by have := hW.wz; omega, by have := hW.bx; omega⟩, fun t2 H2 s2 h2 => ?_⟩
        walk_at "lw go"
        have s12 := st1.trans s2
        refine ⟨tyL (s12 _ _ hl'), ?_⟩
        walk_at "lw go"
        refine g_append (s12 _ _ hl') app ?_
        exact fin _ _ _ _ _ _ _ _ _ (0, 0) s12 h2
      | over j n =>
        have hj : j < i := hlt
        have hn1 : 1 ≤ n := hos.1
        have hn2 : n ≤ 1000000000 := hos.2
        obtain ⟨r1, hr1, hr2⟩ := pr_at (j := j) hrs (by omega)
        walk_at "lw go"
        refine g_ixT (SqT.of hp) (v := .str "over") (atI_nat (j := 0) (by rfl)) ?_
        walk_at "lw go"
        refine g_ixT (SqT.of hp) (v := .int (j : Int)) (atI_nat (j := 1) (by rfl)) ?_
        walk_at "lw go"
        refine g_ixL (SqL.of hl') (atI_nat hr1) ?_
        walk_at "lw go"
        refine g_tupT (SqT.of hr2) rfl ?_
        walk_at "lw go"
        refine g_ixT (SqT.of hp) (v := .int n) (atI_nat (j := 2) (by rfl)) ?_
        walk_at "lw go"
        refine g_ixT (SqT.of hp) (v := .int n) (atI_nat (j := 2) (by rfl)) ?_
        walk_at "lw go"
        refine ⟨by show 2 ≤ sizeLine; decide, fun t ht => ?_⟩
        walk_at "lw go"
        have st1 := same_new (o := .tup [.int ((vals.getD j (0, 0)).1 / n), .int ((vals.getD j (0, 0)).2 / n)]) ht
        refine ⟨tyL (st1 _ _ hl'), ?_⟩
        walk_at "lw go"
        refine g_append (st1 _ _ hl') app ?_
        exact fin _ _ _ _ _ _ _ _ _ (0, 0) st1 upd_same
      | two c j1 j2 =>
        have hj : j1 < i ∧ j2 < i := hlt
        obtain ⟨r1, hr1, hr2⟩ := pr_at (j := j1) hrs (by omega)
        obtain ⟨r3, hr3, hr4⟩ := pr_at (j := j2) hrs (by omega)
        have ne1 : decide (c.word = "noise") = false := word_ne (by decide +kernel) c
        have ba := hbits j1 hj.1
        have bb := hbits j2 hj.2
        have wm : ∀ {i j : Int}, i.natAbs < 2 ^ 200000 → j.natAbs < 2 ^ 200000 → CMulW i j := fun h1 h2 => wide_mul h1 h2 (by decide) (by decide) (by decide)
        walk_at "lw go"
        refine g_ixT (SqT.of hp) (v := .str c.word) (atI_nat (j := 0) (by rfl)) ?_
        walk_at "lw go"
        refine g_ixT (SqT.of hp) (v := .int (j1 : Int)) (atI_nat (j := 1) (by rfl)) ?_
        walk_at "lw go"
        refine g_ixL (SqL.of hl') (atI_nat hr1) ?_
        walk_at "lw go"
        refine g_ixT (SqT.of hp) (v := .int (j2 : Int)) (atI_nat (j := 2) (by rfl)) ?_
        walk_at "lw go"
        refine g_ixL (SqL.of hl') (atI_nat hr3) ?_
        walk_at "lw go"
        refine ⟨c, r1, r3, _, _, rfl, hr2, hr4, fun _ => ⟨wm ba.1 bb.1, wm ba.1 bb.2, wm ba.2 bb.1, wm ba.2 bb.2⟩, fun t2 H2 s2 h2 => ?_⟩
        walk_at "lw go"
        refine ⟨tyL (s2 _ _ hl'), ?_⟩
        walk_at "lw go"
        refine g_append (s2 _ _ hl') app ?_
        exact fin _ _ _ _ _ _ _ _ _ (0, 0) s2 h2
      | bel b1 b2 b3 b4 =>
        have hj : b1 < i ∧ b2 < i ∧ b3 < i ∧ b4 < i := hlt
        obtain ⟨r1, hr1, hs1⟩ := pr_at (j := b1) hrs (by omega)
        obtain ⟨r2, hr2, hs2⟩ := pr_at (j := b2) hrs (by omega)
        obtain ⟨r3, hr3, hs3⟩ := pr_at (j := b3) hrs (by omega)
        obtain ⟨r4, hr4, hs4⟩ := pr_at (j := b4) hrs (by omega)
        walk_at "lw go"
        refine g_ixT (SqT.of hp) (v := .str "below") (atI_nat (j := 0) (by rfl)) ?_
        walk_at "lw go"
        have hpb : H' p = some (.tup (.str "below" :: [.int (b1 : Int), .int (b2 : Int), .int (b3 : Int), .int (b4 : Int)])) := hp
        refine g_slT (SqT.of hpb) cut1T_ok fun t ht => ?_
        rw [cut1T]
        have st1 : Same H' _ := same_new (o := .tup [.int (b1 : Int), .int (b2 : Int), .int (b3 : Int), .int (b4 : Int)]) ht
        refine ⟨t, rfl, ⟨_, SqT.of upd_same⟩, fun D hD => ?_⟩
        have lD : l ≠ D := ne_of_none (st1 _ _ hl') hD
        have hD1 : H' D = none := none_back (o := .tup [.int (b1 : Int), .int (b2 : Int), .int (b3 : Int), .int (b4 : Int)]) ht st1 hD
        refine lc_tup (xs := [.int (b1 : Int), .int (b2 : Int), .int (b3 : Int), .int (b4 : Int)]) (fun k H2 => Same (upd H' t (.tup [.int (b1 : Int), .int (b2 : Int), .int (b3 : Int), .int (b4 : Int)])) H2 ∧ H2 D = some (.lst (([.ref r1, .ref r2, .ref r3, .ref r4] : List V).take k)))
          ⟨same_new hD, upd_same⟩ (fun k H2 _ ⟨s2, _⟩ => SqT.of (s2 _ _ upd_same)) ?_ ?_
        · rintro k y H2 hk ⟨s2, hD2⟩
          obtain ⟨n, r0, rfl, hn, hr0, hk4⟩ : ∃ (n : Nat) (r0 : Addr), y = .int (n : Int) ∧ rs[n]? = some (.ref r0) ∧ ([.ref r1, .ref r2, .ref r3, .ref r4] : List V)[k]? = some (.ref r0) ∧ k < 4 := by
            match k, hk with
            | 0, hk => cases Option.some.inj hk; exact ⟨b1, r1, rfl, hr1, rfl, by omega⟩
            | 1, hk => cases Option.some.inj hk; exact ⟨b2, r2, rfl, hr2, rfl, by omega⟩
            | 2, hk => cases Option.some.inj hk; exact ⟨b3, r3, rfl, hr3, rfl, by omega⟩
            | 3, hk => cases Option.some.inj hk; exact ⟨b4, r4, rfl, hr4, rfl, by omega⟩
            | k + 4, hk => cases hk
          walk_at "lw go"
          refine ⟨rfl, g_yes (iteT ?_)⟩
          walk_at "lw go"
          refine g_ixL (SqL.of (s2 _ _ (st1 _ _ hl'))) (atI_nat hn) ?_
          refine ⟨_, hD2, by rw [List.length_take]; exact small1000 (by simp only [List.length_cons, List.length_nil]; omega), same_put s2 hD, ?_⟩
          rw [upd_same, List.take_add_one, hr0]
          rfl
        rintro H2 ⟨s2, hD2⟩
        have s12 := st1.trans s2
        walk_at "lw go"
        refine ⟨D, r1, r2, r3, r4, _, _, _, _, rfl, hD2, s12 _ _ hs1, s12 _ _ hs2, s12 _ _ hs3, s12 _ _ hs4, fun t2 H3 s3 h3 => ?_⟩
        walk_at "lw go"
        have s13 := s12.trans s3
        refine ⟨tyL (s13 _ _ hl'), ?_⟩
        walk_at "lw go"
        refine g_append (s13 _ _ hl') app ?_
        exact fin _ _ _ _ _ _ _ _ _ (0, 0) s13 h3
    · rintro σ H' ⟨o8, o9, o10, o11, o12, o13, o14, o15, rs, rfl, s, hl', hrs⟩
      rw [hwl, List.take_length] at hrs
      walk_at "lw go"
      exact q l H' rs s hl' hrs
abbrev N_must_ranges : List Str := ["steps", "low", "high"]
theorem sc_must_ranges : FnScope N_must_ranges ["steps"] (defScope s_must_ranges) := ⟨rfl, rfl, rfl, by decide +kernel, rfl, by decide +kernel, by decide +kernel⟩
theorem ok_must_ranges (F : FnP K "must_ranges" s_must_ranges f fd) (T : Bi mg) (G : Kn w K mg) (D_ranges_of : Df P w K mg base "ranges_of" ["some", "seed", "box"] 4 (spRgs K)) : FnOk P w K mg base CX0 5 f fd ["steps"] (spMust K) := by
  refine F.ok sc_must_ranges (fun vs H Q E h => ?_) (fun cdv A outer s H vs Q E hr h => ⟨_, PSs.nox
(pss_one (ps_for PassesOwn.never rfl (pi_list (pe_df D_ranges_of (hr.mono (by first | decide | omega)) (pa_cons (pv 0) (pa_cons pe_int (pa_cons (pe_gR (by rfl) G.g_ALL_POINTS) pa_nil))))) (pg_tup (by rfl) (pgs_cons (pg_name (i := 1) sc_must_ranges.nd rfl (Or.inl rfl)) (pgs_cons (pg_name (i := 2) sc_must_ranges.nd rfl (Or.inl rfl)) pgs_nil)))
  (pss_one (ps_if (PW.pt (pw_or (pt_cmpR op_lt (pv 1) (pe_un un_neg (pe_gI (by rfl) G.c_GREATEST_VALUE)) (nomark _)) (pw_or1 (pt_cmpR op_gt (pv 2) (pe_gI (by rfl) G.c_GREATEST_VALUE) (nomark _)))))
  pss_never
  pss_nil)))), ?_⟩)
  · obtain ⟨a, ws, st, rfl, _⟩ := h
    rfl
  · obtain ⟨a, ws, st, rfl, hSq, hS, hOk, hOs, hSz, hlen, hA, q⟩ := h
    walk_at "lw i0"
    walk_at "lw go"
    refine ⟨a, He.ga K "ALL_POINTS", ws, st, 0, -1000000, -1000000, 1000000, 1000000, rfl, hSq, hS, hOk, hOs, G.v_ALL_POINTS H, ⟨by decide, by decide, by decide⟩, hSz, hlen, fun l H1 vs' s1 hl hps => ?_⟩
    refine ⟨l, rfl, ⟨vs', SqL.of hl⟩, for_list (xs := vs') (fun i σ H' => ∃ o1 o2 : Option V, σ = [some (.ref a), o1, o2] ∧ Same H1 H') ⟨none, none, rfl, Same.refl _⟩ (fun i σ H' _ ⟨_, _, _, s⟩ => SqL.of (s _ _ hl)) ?_ ?_⟩
    · rintro i y σ H' hy ⟨o1, o2, rfl, s⟩
      obtain ⟨ab, hab, p, rfl, hp⟩ := pairs_at hps hy
      have hi : i < st.length := by rw [← run_len (rngA wideN (-1000000) (-1000000) 1000000 1000000) st]; exact (List.getElem?_eq_some_iff.mp hab).1
      have hb := hA i hi
      have eg : ((rngA wideN (-1000000) (-1000000) 1000000 1000000).run st).getD i (0, 0) = ab := by simp [List.getD, hab]
      rw [eg] at hb
      walk_at "lw go"
      refine g_tupT (SqT.of (s _ _ hp)) rfl ?_
      walk_at "lw go"
      refine iteNo (by omega) ?_
      walk_at "lw go"
      rw [decide_eq_false (by omega)]
      walk_at "lw go"
      exact ⟨_, _, rfl, s⟩
    · rintro σ H' ⟨o1, o2, rfl, s⟩
      walk_at "lw go"
      exact q _ (s1.trans s)
abbrev N_steps_of : List Str := ["rules", "greatest", "made", "steps"]
theorem sc_steps_of : FnScope N_steps_of ["rules"] (defScope s_steps_of) := ⟨rfl, rfl, rfl, by decide +kernel, rfl, by decide +kernel, by decide +kernel⟩
theorem ok_steps_of (F : FnP K "steps_of" s_steps_of f fd) (T : Bi mg) (G : Kn w K mg) (D_greatest_of : Df P w K mg base "greatest_of" ["rules"] 43 spGr) (D_placed : Df P w K mg base "placed" ["field", "dx", "dz", "lets", "made"] 61 (spPlaced 60)) (D_must_ranges : Df P w K mg base "must_ranges" ["steps"] 5 (spMust K)) : FnOk P w K mg base CX0 62 f fd ["rules"] spSteps := by
  refine F.ok sc_steps_of (fun vs H Q E h => ?_) (fun cdv A outer s H vs Q E hr h => ⟨_, PSs.nox
(pss_cons (ps_set (i := 1) sc_steps_of.nd rfl (Or.inl rfl) (pe_df D_greatest_of (hr.mono (by first | decide | omega)) (pa_cons (pv 0) pa_nil)))
  (pss_cons (ps_set (i := 2) sc_steps_of.nd rfl (Or.inl rfl) pe_dnewT)
  (pss_cons (ps_expr (pe_df D_placed (hr.mono (by first | decide | omega)) (pa_cons (pv 0) (pa_cons pe_int (pa_cons pe_int (pa_cons pe_dnewK (pa_cons (pv 2) pa_nil)))))))
  (pss_cons (ps_set (i := 3) sc_steps_of.nd rfl (Or.inl rfl) (pe_callTy (call_list_dT rfl) (by rfl) T.list (by decide +kernel) (pa_cons (pv 2) pa_nil)))
  (pss_cons (ps_if (pt_cmpR op_gt (pv 1) (pe_gI (by rfl) G.c_GREATEST_VALUE) (nomark _))
  (pss_one (ps_expr (pe_df D_must_ranges (hr.mono (by first | decide | omega)) (pa_cons (pv 3) pa_nil))))
  pss_nil)
  (pss_one (ps_ret (pv 3)))))))), ?_⟩)
  · obtain ⟨u, F, rfl, _⟩ := h
    rfl
  · obtain ⟨u, F, rfl, hF, hG, q⟩ := h
    walk_at "lw i0"
    walk_at "lw go"
    refine ⟨u, F, rfl, hF, hG, fun H1 s1 => ?_⟩
    walk_at "lw go"
    intro mk hmk
    have s2 : Same H _ := s1.trans (same_new (o := .dT []) hmk)
    walk_at "lw go"
    intro e he
    have s3 : Same H _ := s2.trans (same_new (o := .dK []) he)
    have mke : mk ≠ e := ne_of_none upd_same he
    walk_at "lw go"
    have hcn := hG.cn
    have hud := hG.ud
    refine ⟨u, F, 0, 0, e, mk, 0, [], [], [], rfl, hF.mono (same_tup s3), ⟨upd_same, rfl, rfl⟩, hG.bnd, by omega, by rw [upd_ne mke, upd_same]; rfl, by simp only [List.length_nil]; omega, by simp only [List.length_nil]; omega, fun H2 k2 h2 => ?_⟩
    have hmk0 : H mk = none := none_back (o := .dT []) (by
      cases e0 : H mk with
      | none => rfl
      | some v => rw [s1 _ _ e0] at hmk; cases hmk) (Same.refl H) (by
      cases e0 : H mk with
      | none => rfl
      | some v => rw [s1 _ _ e0] at hmk; cases hmk)
    have s4 : Same H H2 := fun a v ea => k2 _ _ (ne_of_none ea hmk0) (s3 _ _ ea)
    walk_at "lw go"
    refine ⟨mk, _, rfl, .inl h2, fun l bs hl hk => ?_⟩
    have hl0 : H l = none := none_of_same s4 hl
    have hst : StepsR H2 (bs.map V.ref) (stepsE (expand F [])) := steps_of_keys (n := 0) hk
    have s5 : Same H _ := s4.trans (same_new (o := .lst (bs.map V.ref)) hl)
    have hst5 := hst.mono (same_tup (same_new (o := .lst (bs.map V.ref)) hl))
    have io := into_ok (expand F []) 0 0 []
    have ok0 : OkE (expand F []) := ok_expand F [] hG.ok okR_nil
    walk_at "lw go"
    refine g_ite (fun hgt => ?_) (fun hgt => ?_)
    · walk_at "lw go"
      refine ⟨l, _, stepsE (expand F []), rfl, SqL.of upd_same, hst5, io.ok ok_nil, okS_into _ 0 0 [] ok0 (fun s hs => (nomatch hs)), ?_, ?_, ?_, fun H3 s6 => ?_⟩
      · exact all_into (expand F []) (-1000000) (-1000000) 1000000 1000000 0 0 [] ok_nil (fun p hp => (all_bits wide_ok (expand F []) (-1000000) (-1000000) 1000000 1000000 40 ok0 (by decide) ⟨by decide, by decide⟩ ⟨by decide, by decide⟩ p hp).mono hG.vb) (fun i hi => absurd hi (Nat.not_lt_zero i))
      · have := io.len
        simp only [List.length_nil] at this
        show (into (expand F []) 0 0 []).1.length ≤ 1000
        omega
      · exact all_into (expand F []) (-1000000) (-1000000) 1000000 1000000 0 0 [] ok_nil hG.rng (fun i hi => absurd hi (Nat.not_lt_zero i))
      · walk_at "lw go"
        exact q l H3 _ hl0 (s5.trans s6) (s6 _ _ upd_same) (hst5.mono (same_tup s6))
    · walk_at "lw go"
      exact q l _ _ hl0 s5 upd_same hst5
abbrev N_run_known : List Str := ["some", "seed", "x", "z", "known", "values", "step", "word", "value"]
theorem sc_run_known : FnScope N_run_known ["some", "seed", "x", "z", "known"] (defScope s_run_known) := ⟨rfl, rfl, rfl, by decide +kernel, rfl, by decide +kernel, by decide +kernel⟩
theorem ok_run_known (F : FnP K "run_known" s_run_known f fd) (T : Bi mg) (G : Kn w K mg) (D_noise_value : Df P w K mg base "noise_value" ["seed", "salt", "log", "x", "z", "known"] 2 spNV) : FnOk P w K mg base CX0 3 f fd ["some", "seed", "x", "z", "known"] (spRun K) := by
  refine F.ok sc_run_known (fun vs H Q E h => ?_) (fun cdv A outer s H vs Q E hr h => ⟨_, PSs.nox
(pss_cons (ps_set (i := 5) sc_run_known.nd rfl (Or.inl rfl) (pe_lst pa_nil))
  (pss_cons (ps_for PassesOwn.never rfl (pi_list (pv 0)) (pg_name (i := 6) sc_run_known.nd rfl (Or.inl rfl))
  (pss_cons (ps_set (i := 7) sc_run_known.nd rfl (Or.inl rfl) (pe_ix ix_tup (pv 6) pe_int (fun _ _ => rfl)))
  (pss_cons (ps_if (pt_cmpR op_eq (pv 7) pe_str (nomark _))
  (pss_one (ps_set (i := 8) sc_run_known.nd rfl (Or.inl rfl) (pe_df D_noise_value (hr.mono (by first | decide | omega)) (pa_cons (pv 1) (pa_cons (pe_ix ix_tup (pv 6) pe_int (fun _ _ => rfl)) (pa_cons (pe_ix ix_tup (pv 6) pe_int (fun _ _ => rfl)) (pa_cons (pe_op op_add (pv 2) (pe_ix ix_tup (pv 6) pe_int (fun _ _ => rfl))) (pa_cons (pe_op op_add (pv 3) (pe_ix ix_tup (pv 6) pe_int (fun _ _ => rfl))) (pa_cons (pv 4) pa_nil)))))))))
  (pss_one (ps_if (pt_cmpR op_eq (pv 7) pe_str (nomark _))
  (pss_one (ps_set (i := 8) sc_run_known.nd rfl (Or.inl rfl) (pe_op op_add (pe_ix ix_list (pv 5) (pe_ix ix_tup (pv 6) pe_int (fun _ _ => rfl)) (fun _ _ => rfl)) (pe_ix ix_list (pv 5) (pe_ix ix_tup (pv 6) pe_int (fun _ _ => rfl)) (fun _ _ => rfl)))))
  (pss_one (ps_if (pt_cmpR op_eq (pv 7) pe_str (nomark _))
  (pss_one (ps_set (i := 8) sc_run_known.nd rfl (Or.inl rfl) (pe_ix ix_tup (pv 6) pe_int (fun _ _ => rfl))))
  (pss_one (ps_if (pt_cmpR op_eq (pv 7) pe_str (nomark _))
  (pss_one (ps_set (i := 8) sc_run_known.nd rfl (Or.inl rfl) (pe_op op_add (pv 2) (pe_ix ix_tup (pv 6) pe_int (fun _ _ => rfl)))))
  (pss_one (ps_if (pt_cmpR op_eq (pv 7) pe_str (nomark _))
  (pss_one (ps_set (i := 8) sc_run_known.nd rfl (Or.inl rfl) (pe_op op_add (pv 3) (pe_ix ix_tup (pv 6) pe_int (fun _ _ => rfl)))))
  (pss_one (ps_if (pt_cmpR op_eq (pv 7) pe_str (nomark _))
  (pss_one (ps_set (i := 8) sc_run_known.nd rfl (Or.inl rfl) (pe_op op_fdivW (pe_ix ix_list (pv 5) (pe_ix ix_tup (pv 6) pe_int (fun _ _ => rfl)) (fun _ _ => rfl)) (pe_ix ix_tup (pv 6) pe_int (fun _ _ => rfl)))))
  (pss_one (ps_if (pt_cmpR op_eq (pv 7) pe_str (nomark _))
  (pss_one (ps_set (i := 8) sc_run_known.nd rfl (Or.inl rfl) (pe_op op_sub (pe_ix ix_list (pv 5) (pe_ix ix_tup (pv 6) pe_int (fun _ _ => rfl)) (fun _ _ => rfl)) (pe_ix ix_list (pv 5) (pe_ix ix_tup (pv 6) pe_int (fun _ _ => rfl)) (fun _ _ => rfl)))))
  (pss_one (ps_if (pt_cmpR op_eq (pv 7) pe_str (nomark _))
  (pss_one (ps_set (i := 8) sc_run_known.nd rfl (Or.inl rfl) (pe_op op_mulW (pe_ix ix_list (pv 5) (pe_ix ix_tup (pv 6) pe_int (fun _ _ => rfl)) (fun _ _ => rfl)) (pe_ix ix_list (pv 5) (pe_ix ix_tup (pv 6) pe_int (fun _ _ => rfl)) (fun _ _ => rfl)))))
  (pss_one (ps_if (pt_cmpR op_eq (pv 7) pe_str (nomark _))
  (pss_one (ps_set (i := 8) sc_run_known.nd rfl (Or.inl rfl) (pe_callB (call_min2 rfl) (by rfl) T.min (by decide +kernel) (pa_cons (pe_ix ix_list (pv 5) (pe_ix ix_tup (pv 6) pe_int (fun _ _ => rfl)) (fun _ _ => rfl)) (pa_cons (pe_ix ix_list (pv 5) (pe_ix ix_tup (pv 6) pe_int (fun _ _ => rfl)) (fun _ _ => rfl)) pa_nil)))))
  (pss_one (ps_if (pt_cmpR op_eq (pv 7) pe_str (nomark _))
  (pss_one (ps_set (i := 8) sc_run_known.nd rfl (Or.inl rfl) (pe_callB (call_max2 rfl) (by rfl) T.max (by decide +kernel) (pa_cons (pe_ix ix_list (pv 5) (pe_ix ix_tup (pv 6) pe_int (fun _ _ => rfl)) (fun _ _ => rfl)) (pa_cons (pe_ix ix_list (pv 5) (pe_ix ix_tup (pv 6) pe_int (fun _ _ => rfl)) (fun _ _ => rfl)) pa_nil)))))
  (pss_one (ps_set (i := 8) sc_run_known.nd rfl (Or.inl rfl) (pe_ix ix_list (pv 5) (pe_ifExp (pt_cmpR op_lt (pe_ix ix_list (pv 5) (pe_ix ix_tup (pv 6) pe_int (fun _ _ => rfl)) (fun _ _ => rfl)) (pe_ix ix_list (pv 5) (pe_ix ix_tup (pv 6) pe_int (fun _ _ => rfl)) (fun _ _ => rfl)) (nomark _)) (pe_ix ix_tup (pv 6) pe_int (fun _ _ => rfl)) (pe_ix ix_tup (pv 6) pe_int (fun _ _ => rfl))) (fun _ _ => rfl)))))))))))))))))))))))
  (pss_one (ps_expr (pe_bm PySem.F.plainAttrs_list PySem.F.slot_list_append PySem.F.type_list_append mt_append (pv 5) (pa_cons (pv 8) pa_nil)))))))
  (pss_one (ps_ret (pe_ix ix_list (pv 5) (pe_un un_neg pe_int) (fun _ _ => rfl)))))), ?_⟩)
  · obtain ⟨a, ws, st, g, x, z, rfl, _⟩ := h
    rfl
  · obtain ⟨a, ws, st, g, x, z, rfl, hSq, hS, hOk, hOs, hSz, hne, hlen, q⟩ := h
    walk_at "lw i0"
    have hwl : ws.length = st.length := Paired.length hS
    walk_at "lw go"
    refine ⟨by show 0 ≤ sizeLine; decide, fun l hl => ?_⟩
    walk_at "lw go"
    refine ⟨a, rfl, ⟨ws, Same.seq (same_new hl) hSq⟩, for_list (xs := ws) (fun i σ H' => ∃ o6 o7 o8 : Option V, σ = [some (.ref a), some (.int g), some (.int x), some (.int z), some .non, some (.ref l), o6, o7, o8] ∧ Same H H' ∧ H' l = some (.lst (((valA g x z).run (st.take i)).map V.int)))
      ⟨none, none, none, rfl, same_new hl, upd_same⟩ (fun i σ H' _ ⟨_, _, _, _, s, _⟩ => Same.seq s hSq) ?_ ?_⟩
    · rintro i y σ H' hy ⟨o6, o7, o8, rfl, s, hl'⟩
      obtain ⟨t, hst, p, rfl, hp0⟩ := steps_at hS hy
      have hp := s _ _ hp0
      have hi : i < st.length := by rw [← hwl]; exact (List.getElem?_eq_some_iff.mp hy).1
      obtain ⟨vals, hvals⟩ : ∃ vals, (valA g x z).run (st.take i) = vals := ⟨_, rfl⟩
      have vlen : vals.length = i := by rw [← hvals, run_len, List.length_take]; omega
      have hnext : (valA g x z).run (st.take (i + 1)) = vals ++ [(valA g x z).step t vals] := by
        rw [List.take_add_one, hst, ← hvals]
        exact run_snoc _ _ _
      have hbits : ∀ j, j < i → (vals.getD j 0).natAbs < 2 ^ 200000 := fun j hj => by
        have e := run_get (valA g x z) (List.take_prefix i st) (i := j) (by rw [List.length_take]; omega)
        have b := hSz j (by omega)
        rw [hvals] at e
        have e' : ((valA g x z).run st).getD j 0 = vals.getD j 0 := e
        rw [e'] at b
        exact b
      have hos := hOs t (List.mem_of_getElem? hst)
      have hlt := hOk i t hst
      rw [hvals] at hl'
      have fin : ∀ (v : Int) (H2 : Hp) (u7 u8 : Option V), Same H' H2 → H2 l = some (.lst (vals.map V.int)) → v = (valA g x z).step t vals →
          ∃ o6 o7 o8 : Option V, [some (.ref a), some (.int g), some (.int x), some (.int z), some .non, some (.ref l), some (.ref p), u7, u8] = [some (.ref a), some (.int g), some (.int x), some (.int z), some .non, some (.ref l), o6, o7, o8] ∧ Same H (upd H2 l (.lst (vals.map V.int ++ [.int v]))) ∧ (upd H2 l (.lst (vals.map V.int ++ [.int v]))) l = some (.lst (((valA g x z).run (st.take (i + 1))).map V.int)) := fun v H2 u7 u8 s2 h2 ev =>
        ⟨_, _, _, rfl, same_put (s.trans s2) hl, by rw [upd_same, hnext, List.map_append, ev]; rfl⟩
      have app : (vals.map V.int).length < sizeLine := by rw [List.length_map, vlen]; exact small1000 (by omega)
      clear hvals hnext hSz hOk hOs hS q
      cases t with
      | noise s0 l0 dx dz =>
        have hl0 : 0 ≤ l0 := hos.1
        have hl8 : l0 ≤ 8 := hos.2
        walk_at "lw go"
        refine g_ixT (SqT.of hp) (v := .str "noise") rfl ?_
        walk_at "lw go"
        refine g_ixT (SqT.of hp) (v := .int s0) (atI_nat (j := 1) (by rfl)) ?_
        walk_at "lw go"
        refine g_ixT (SqT.of hp) (v := .int l0) (atI_nat (j := 2) (by rfl)) ?_
        walk_at "lw go"
        refine g_ixT (SqT.of hp) (v := .int dx) (atI_nat (j := 3) (by rfl)) ?_
        walk_at "lw go"
        refine g_ixT (SqT.of hp) (v := .int dz) (atI_nat (j := 4) (by rfl)) ?_
        walk_at "lw go"
        refine ⟨g, s0, l0, x + dx, z + dz, rfl, hl0, hl8, fun H2 s2 => ?_⟩
        walk_at "lw go"
        refine ⟨tyL (s2 _ _ hl'), ?_⟩
        walk_at "lw go"
        refine g_append (s2 _ _ hl') app ?_
        exact fin _ _ _ _ s2 (s2 _ _ hl') rfl
      | whole n =>
        walk_at "lw go"
        refine g_ixT (SqT.of hp) (v := .str "whole") rfl ?_
        walk_at "lw go"
        refine g_ixT (SqT.of hp) (v := .int n) (atI_nat (j := 1) (by rfl)) ?_
        walk_at "lw go"
        refine ⟨tyL hl', ?_⟩
        walk_at "lw go"
        refine g_append hl' app ?_
        exact fin _ _ _ _ (Same.refl _) hl' rfl
      | px d =>
        walk_at "lw go"
        refine g_ixT (SqT.of hp) (v := .str "x") rfl ?_
        walk_at "lw go"
        refine g_ixT (SqT.of hp) (v := .int d) (atI_nat (j := 1) (by rfl)) ?_
        walk_at "lw go"
        refine ⟨tyL hl', ?_⟩
        walk_at "lw go"
        refine g_append hl' app ?_
        exact fin _ _ _ _ (Same.refl _) hl' rfl
      | pz d =>
        walk_at "lw go"
        refine g_ixT (SqT.of hp) (v := .str "z") rfl ?_
        walk_at "lw go"
        refine g_ixT (SqT.of hp) (v := .int d) (atI_nat (j := 1) (by rfl)) ?_
        walk_at "lw go"
        refine ⟨tyL hl', ?_⟩
        walk_at "lw go"
        refine g_append hl' app ?_
        exact fin _ _ _ _ (Same.refl _) hl' rfl
      | over j n =>
        have hj : j < i := hlt
        have hn1 : 1 ≤ n := hos.1
        have hn2 : n ≤ 1000000000 := hos.2
        walk_at "lw go"
        refine g_ixT (SqT.of hp) (v := .str "over") rfl ?_
        walk_at "lw go"
        refine g_ixT (SqT.of hp) (v := .int (j : Int)) (atI_nat (j := 1) (by rfl)) ?_
        walk_at "lw go"
        refine g_ixL (SqL.of hl') (at_ints (by omega)) ?_
        walk_at "lw go"
        refine g_ixT (SqT.of hp) (v := .int n) (atI_nat (j := 2) (by rfl)) ?_
        walk_at "lw go"
        refine ⟨tyL hl', ?_⟩
        walk_at "lw go"
        refine g_append hl' app ?_
        exact fin _ _ _ _ (Same.refl _) hl' rfl
      | bel b1 b2 b3 b4 =>
        have hj : b1 < i ∧ b2 < i ∧ b3 < i ∧ b4 < i := hlt
        walk_at "lw go"
        refine g_ixT (SqT.of hp) (v := .str "below") rfl ?_
        walk_at "lw go"
        refine g_ixT (SqT.of hp) (v := .int (b1 : Int)) (atI_nat (j := 1) (by rfl)) ?_
        walk_at "lw go"
        refine g_ixL (SqL.of hl') (at_ints (by omega)) ?_
        walk_at "lw go"
        refine g_ixT (SqT.of hp) (v := .int (b2 : Int)) (atI_nat (j := 2) (by rfl)) ?_
        walk_at "lw go"
        refine g_ixL (SqL.of hl') (at_ints (by omega)) ?_
        walk_at "lw go"
        refine g_ite (fun hlt => ?_) (fun hlt => ?_)
        · walk_at "lw go"
          refine g_ixT (SqT.of hp) (v := .int (b3 : Int)) (atI_nat (j := 3) (by rfl)) ?_
          walk_at "lw go"
          refine g_ixL (SqL.of hl') (at_ints (by omega)) ?_
          walk_at "lw go"
          refine ⟨tyL hl', ?_⟩
          walk_at "lw go"
          refine g_append hl' app ?_
          exact fin _ _ _ _ (Same.refl _) hl' (if_pos hlt).symm
        · walk_at "lw go"
          refine g_ixT (SqT.of hp) (v := .int (b4 : Int)) (atI_nat (j := 4) (by rfl)) ?_
          walk_at "lw go"
          refine g_ixL (SqL.of hl') (at_ints (by omega)) ?_
          walk_at "lw go"
          refine ⟨tyL hl', ?_⟩
          walk_at "lw go"
          refine g_append hl' app ?_
          exact fin _ _ _ _ (Same.refl _) hl' (if_neg hlt).symm
      | two c j1 j2 =>
        have hj : j1 < i ∧ j2 < i := hlt
        have hm : CMulW (vals.getD j1 0) (vals.getD j2 0) := wide_mul (hbits j1 hj.1) (hbits j2 hj.2) (by decide) (by decide) (by decide)
        cases c with
        | plus =>
          walk_at "lw go"
          refine g_ixT (SqT.of hp) (v := .str "plus") rfl ?_
          walk_at "lw go"
          refine g_ixT (SqT.of hp) (v := .int (j1 : Int)) (atI_nat (j := 1) (by rfl)) ?_
          walk_at "lw go"
          refine g_ixL (SqL.of hl') (at_ints (by omega)) ?_
          walk_at "lw go"
          refine g_ixT (SqT.of hp) (v := .int (j2 : Int)) (atI_nat (j := 2) (by rfl)) ?_
          walk_at "lw go"
          refine g_ixL (SqL.of hl') (at_ints (by omega)) ?_
          walk_at "lw go"
          refine ⟨tyL hl', ?_⟩
          walk_at "lw go"
          refine g_append hl' app ?_
          exact fin _ _ _ _ (Same.refl _) hl' rfl
        | less =>
          walk_at "lw go"
          refine g_ixT (SqT.of hp) (v := .str "less") rfl ?_
          walk_at "lw go"
          refine g_ixT (SqT.of hp) (v := .int (j1 : Int)) (atI_nat (j := 1) (by rfl)) ?_
          walk_at "lw go"
          refine g_ixL (SqL.of hl') (at_ints (by omega)) ?_
          walk_at "lw go"
          refine g_ixT (SqT.of hp) (v := .int (j2 : Int)) (atI_nat (j := 2) (by rfl)) ?_
          walk_at "lw go"
          refine g_ixL (SqL.of hl') (at_ints (by omega)) ?_
          walk_at "lw go"
          refine ⟨tyL hl', ?_⟩
          walk_at "lw go"
          refine g_append hl' app ?_
          exact fin _ _ _ _ (Same.refl _) hl' rfl
        | times =>
          walk_at "lw go"
          refine g_ixT (SqT.of hp) (v := .str "times") rfl ?_
          walk_at "lw go"
          refine g_ixT (SqT.of hp) (v := .int (j1 : Int)) (atI_nat (j := 1) (by rfl)) ?_
          walk_at "lw go"
          refine g_ixL (SqL.of hl') (at_ints (by omega)) ?_
          walk_at "lw go"
          refine g_ixT (SqT.of hp) (v := .int (j2 : Int)) (atI_nat (j := 2) (by rfl)) ?_
          walk_at "lw go"
          refine g_ixL (SqL.of hl') (at_ints (by omega)) ?_
          refine g_I hm ?_
          walk_at "lw go"
          refine ⟨tyL hl', ?_⟩
          walk_at "lw go"
          refine g_append hl' app ?_
          exact fin _ _ _ _ (Same.refl _) hl' rfl
        | least =>
          walk_at "lw go"
          refine g_ixT (SqT.of hp) (v := .str "least") rfl ?_
          walk_at "lw go"
          refine g_ixT (SqT.of hp) (v := .int (j1 : Int)) (atI_nat (j := 1) (by rfl)) ?_
          walk_at "lw go"
          refine g_ixL (SqL.of hl') (at_ints (by omega)) ?_
          walk_at "lw go"
          refine g_ixT (SqT.of hp) (v := .int (j2 : Int)) (atI_nat (j := 2) (by rfl)) ?_
          walk_at "lw go"
          refine g_ixL (SqL.of hl') (at_ints (by omega)) ?_
          walk_at "lw go"
          refine ⟨_, _, rfl, ?_⟩
          walk_at "lw go"
          refine ⟨tyL hl', ?_⟩
          walk_at "lw go"
          refine g_append hl' app ?_
          exact fin _ _ _ _ (Same.refl _) hl' rfl
        | most =>
          walk_at "lw go"
          refine g_ixT (SqT.of hp) (v := .str "most") rfl ?_
          walk_at "lw go"
          refine g_ixT (SqT.of hp) (v := .int (j1 : Int)) (atI_nat (j := 1) (by rfl)) ?_
          walk_at "lw go"
          refine g_ixL (SqL.of hl') (at_ints (by omega)) ?_
          walk_at "lw go"
          refine g_ixT (SqT.of hp) (v := .int (j2 : Int)) (atI_nat (j := 2) (by rfl)) ?_
          walk_at "lw go"
          refine g_ixL (SqL.of hl') (at_ints (by omega)) ?_
          walk_at "lw go"
          refine ⟨_, _, rfl, ?_⟩
          walk_at "lw go"
          refine ⟨tyL hl', ?_⟩
          walk_at "lw go"
          refine g_append hl' app ?_
          exact fin _ _ _ _ (Same.refl _) hl' rfl
    · rintro σ H' ⟨o6, o7, o8, rfl, s, hl'⟩
      rw [hwl, List.take_length] at hl'
      have hpos : 0 < st.length := List.length_pos_iff.mpr hne
      walk_at "lw go"
      refine g_ixL (SqL.of hl') (at_last (n := st.length - 1) (by rw [run_len]; omega)) ?_
      exact q _ s
abbrev N_run_steps : List Str := ["some", "seed", "x", "z"]
theorem sc_run_steps : FnScope N_run_steps ["some", "seed", "x", "z"] (defScope s_run_steps) := ⟨rfl, rfl, rfl, by decide +kernel, rfl, by decide +kernel, by decide +kernel⟩
theorem ok_run_steps (F : FnP K "run_steps" s_run_steps f fd) (T : Bi mg) (G : Kn w K mg) (D_run_known : Df P w K mg base "run_known" ["some", "seed", "x", "z", "known"] 3 (spRun K)) : FnOk P w K mg base CX0 4 f fd ["some", "seed", "x", "z"] (spRunS K) := by
  refine F.ok sc_run_steps (fun vs H Q E h => ?_) (fun cdv A outer s H vs Q E hr h => ⟨_, PSs.nox
(pss_one (ps_ret (pe_df D_run_known (hr.mono (by first | decide | omega)) (pa_cons (pv 0) (pa_cons (pv 1) (pa_cons (pv 2) (pa_cons (pv 3) (pa_cons pe_non pa_nil)))))))), ?_⟩)
  · obtain ⟨a, ws, st, g, x, z, rfl, _⟩ := h
    rfl
  · obtain ⟨a, ws, st, g, x, z, rfl, h1, h2, h3, h4, h5, h6, h7, q⟩ := h
    walk_at "lw i0"
    walk_at "lw go"
    exact ⟨a, ws, st, g, x, z, rfl, h1, h2, h3, h4, h5, h6, h7, q⟩
abbrev N_must_shape : List Str := ["edit"]
theorem sc_must_shape : FnScope N_must_shape ["edit"] (defScope s_must_shape) := ⟨rfl, rfl, rfl, by decide +kernel, rfl, by decide +kernel, by decide +kernel⟩
theorem ok_must_shape (F : FnP K "must_shape" s_must_shape f fd) (T : Bi mg) (G : Kn w K mg)  : FnOk P w K mg base CX0 1 f fd ["edit"] spShape := by
  refine F.ok sc_must_shape (fun vs H Q E h => ?_) (fun cdv A outer s H vs Q E hr h => ⟨_, PSs.nox
(pss_cons (ps_if (PW.pt (pw_or (pt_not (pt_val (pe_callB call_isi (by rfl) T.isinstance (by decide +kernel) (pa_cons (pv 0) (pa_cons (pe_bltn (v := .ty "tuple") (by rfl) T.tuple boot_tuple rfl) pa_nil))))) (pw_or (pt_not (pt_truth (pv 0) (by intro _; rfl))) (pw_or1 (pt_not (pt_val (pe_callB call_isi (by rfl) T.isinstance (by decide +kernel) (pa_cons (pe_ix ix_tup (pv 0) pe_int (fun _ _ => rfl)) (pa_cons (pe_bltn (v := .ty "str") (by rfl) T.str boot_str rfl) pa_nil)))))))))
  pss_never
  pss_nil)
  (pss_one (ps_if (PW.pt (pw_or (pt_cmpR (Kt.op_notIn G.t_SHAPES_edits.kd) (pe_ix ix_tup (pv 0) pe_int (fun _ _ => rfl)) (pe_gR (by rfl) G.g_SHAPES_edits) (by rfl)) (pw_or1 (pt_cmpR op_ne (pe_callB call_len_seq (by rfl) T.len (by decide +kernel) (pa_cons (pv 0) pa_nil)) (pe_ix (Ki.ix_kdI G.t_SHAPES_edits.kd) (pe_gR (by rfl) G.g_SHAPES_edits) (pe_ix ix_tup (pv 0) pe_int (fun _ _ => rfl)) (fun _ _ => rfl)) (nomark _)))))
  pss_never
  pss_nil))), ?_⟩)
  · obtain ⟨e, bx, E, rfl, _⟩ := h
    rfl
  · obtain ⟨e, bx, E, rfl, ⟨u, he, _, _⟩, q⟩ := h
    walk_at "lw i0"
    cases E with
    | set b n =>
      replace he : H e = some (.tup [.str "set", .ref bx, .int n]) := he
      walk_at "lw go"
      refine ⟨_, _, _, _, true, rfl, .ty _, .base (.tup he), rfl, ?_⟩
      walk_at "lw go"
      refine ⟨true, .inr (.inl ⟨_, SqT.of he, rfl⟩), ?_⟩
      walk_at "lw go"
      refine g_ixT (SqT.of he) (v := .str "set") rfl ?_
      walk_at "lw go"
      refine ⟨_, _, _, _, true, rfl, .ty _, .base (.str _), rfl, ?_⟩
      walk_at "lw go"
      refine g_ixT (SqT.of he) (v := .str "set") rfl ?_
      walk_at "lw go"
      obtain ⟨tk, ht⟩ := G.t_SHAPES_edits.at_ ("set", 3) (by simp)
      refine ⟨"set", some (.int 3 tk), rfl, rfl, ht, ?_⟩
      walk_at "lw go"
      rw [show (!(some (Value.int 3 tk)).isSome) = false from rfl]
      refine iteF ?_
      walk_at "lw go"
      refine ⟨e, _, rfl, .inr (SqT.of he), ?_⟩
      walk_at "lw go"
      refine g_ixT (SqT.of he) (v := .str "set") rfl ?_
      refine ⟨"set", 3, tk, rfl, rfl, ht, ?_⟩
      walk_at "lw go"
      refine iteNY rfl ?_
      exact q
    | chg w b n =>
      cases w with
      | raise =>
        replace he : H e = some (.tup [.str "raise", .ref bx, .int n]) := he
        walk_at "lw go"
        refine ⟨_, _, _, _, true, rfl, .ty _, .base (.tup he), rfl, ?_⟩
        walk_at "lw go"
        refine ⟨true, .inr (.inl ⟨_, SqT.of he, rfl⟩), ?_⟩
        walk_at "lw go"
        refine g_ixT (SqT.of he) (v := .str "raise") rfl ?_
        walk_at "lw go"
        refine ⟨_, _, _, _, true, rfl, .ty _, .base (.str _), rfl, ?_⟩
        walk_at "lw go"
        refine g_ixT (SqT.of he) (v := .str "raise") rfl ?_
        walk_at "lw go"
        obtain ⟨tk, ht⟩ := G.t_SHAPES_edits.at_ ("raise", 3) (by simp)
        refine ⟨"raise", some (.int 3 tk), rfl, rfl, ht, ?_⟩
        walk_at "lw go"
        rw [show (!(some (Value.int 3 tk)).isSome) = false from rfl]
        refine iteF ?_
        walk_at "lw go"
        refine ⟨e, _, rfl, .inr (SqT.of he), ?_⟩
        walk_at "lw go"
        refine g_ixT (SqT.of he) (v := .str "raise") rfl ?_
        refine ⟨"raise", 3, tk, rfl, rfl, ht, ?_⟩
        walk_at "lw go"
        refine iteNY rfl ?_
        exact q
      | least =>
        replace he : H e = some (.tup [.str "least", .ref bx, .int n]) := he
        walk_at "lw go"
        refine ⟨_, _, _, _, true, rfl, .ty _, .base (.tup he), rfl, ?_⟩
        walk_at "lw go"
        refine ⟨true, .inr (.inl ⟨_, SqT.of he, rfl⟩), ?_⟩
        walk_at "lw go"
        refine g_ixT (SqT.of he) (v := .str "least") rfl ?_
        walk_at "lw go"
        refine ⟨_, _, _, _, true, rfl, .ty _, .base (.str _), rfl, ?_⟩
        walk_at "lw go"
        refine g_ixT (SqT.of he) (v := .str "least") rfl ?_
        walk_at "lw go"
        obtain ⟨tk, ht⟩ := G.t_SHAPES_edits.at_ ("least", 3) (by simp)
        refine ⟨"least", some (.int 3 tk), rfl, rfl, ht, ?_⟩
        walk_at "lw go"
        rw [show (!(some (Value.int 3 tk)).isSome) = false from rfl]
        refine iteF ?_
        walk_at "lw go"
        refine ⟨e, _, rfl, .inr (SqT.of he), ?_⟩
        walk_at "lw go"
        refine g_ixT (SqT.of he) (v := .str "least") rfl ?_
        refine ⟨"least", 3, tk, rfl, rfl, ht, ?_⟩
        walk_at "lw go"
        refine iteNY rfl ?_
        exact q
      | most =>
        replace he : H e = some (.tup [.str "most", .ref bx, .int n]) := he
        walk_at "lw go"
        refine ⟨_, _, _, _, true, rfl, .ty _, .base (.tup he), rfl, ?_⟩
        walk_at "lw go"
        refine ⟨true, .inr (.inl ⟨_, SqT.of he, rfl⟩), ?_⟩
        walk_at "lw go"
        refine g_ixT (SqT.of he) (v := .str "most") rfl ?_
        walk_at "lw go"
        refine ⟨_, _, _, _, true, rfl, .ty _, .base (.str _), rfl, ?_⟩
        walk_at "lw go"
        refine g_ixT (SqT.of he) (v := .str "most") rfl ?_
        walk_at "lw go"
        obtain ⟨tk, ht⟩ := G.t_SHAPES_edits.at_ ("most", 3) (by simp)
        refine ⟨"most", some (.int 3 tk), rfl, rfl, ht, ?_⟩
        walk_at "lw go"
        rw [show (!(some (Value.int 3 tk)).isSome) = false from rfl]
        refine iteF ?_
        walk_at "lw go"
        refine ⟨e, _, rfl, .inr (SqT.of he), ?_⟩
        walk_at "lw go"
        refine g_ixT (SqT.of he) (v := .str "most") rfl ?_
        refine ⟨"most", 3, tk, rfl, rfl, ht, ?_⟩
        walk_at "lw go"
        refine iteNY rfl ?_
        exact q
    | field b F =>
      replace he : H e = some (.tup [.str "field", .ref bx, u]) := he
      walk_at "lw go"
      refine ⟨_, _, _, _, true, rfl, .ty _, .base (.tup he), rfl, ?_⟩
      walk_at "lw go"
      refine ⟨true, .inr (.inl ⟨_, SqT.of he, rfl⟩), ?_⟩
      walk_at "lw go"
      refine g_ixT (SqT.of he) (v := .str "field") rfl ?_
      walk_at "lw go"
      refine ⟨_, _, _, _, true, rfl, .ty _, .base (.str _), rfl, ?_⟩
      walk_at "lw go"
      refine g_ixT (SqT.of he) (v := .str "field") rfl ?_
      walk_at "lw go"
      obtain ⟨tk, ht⟩ := G.t_SHAPES_edits.at_ ("field", 3) (by simp)
      refine ⟨"field", some (.int 3 tk), rfl, rfl, ht, ?_⟩
      walk_at "lw go"
      rw [show (!(some (Value.int 3 tk)).isSome) = false from rfl]
      refine iteF ?_
      walk_at "lw go"
      refine ⟨e, _, rfl, .inr (SqT.of he), ?_⟩
      walk_at "lw go"
      refine g_ixT (SqT.of he) (v := .str "field") rfl ?_
      refine ⟨"field", 3, tk, rfl, rfl, ht, ?_⟩
      walk_at "lw go"
      refine iteNY rfl ?_
      exact q
    | copy b dx dz =>
      replace he : H e = some (.tup [.str "copy", .ref bx, .int dx, .int dz]) := he
      walk_at "lw go"
      refine ⟨_, _, _, _, true, rfl, .ty _, .base (.tup he), rfl, ?_⟩
      walk_at "lw go"
      refine ⟨true, .inr (.inl ⟨_, SqT.of he, rfl⟩), ?_⟩
      walk_at "lw go"
      refine g_ixT (SqT.of he) (v := .str "copy") rfl ?_
      walk_at "lw go"
      refine ⟨_, _, _, _, true, rfl, .ty _, .base (.str _), rfl, ?_⟩
      walk_at "lw go"
      refine g_ixT (SqT.of he) (v := .str "copy") rfl ?_
      walk_at "lw go"
      obtain ⟨tk, ht⟩ := G.t_SHAPES_edits.at_ ("copy", 4) (by simp)
      refine ⟨"copy", some (.int 4 tk), rfl, rfl, ht, ?_⟩
      walk_at "lw go"
      rw [show (!(some (Value.int 4 tk)).isSome) = false from rfl]
      refine iteF ?_
      walk_at "lw go"
      refine ⟨e, _, rfl, .inr (SqT.of he), ?_⟩
      walk_at "lw go"
      refine g_ixT (SqT.of he) (v := .str "copy") rfl ?_
      refine ⟨"copy", 4, tk, rfl, rfl, ht, ?_⟩
      walk_at "lw go"
      refine iteNY rfl ?_
      exact q
abbrev N_layer_of : List Str := ["edit", "word", "box", "one"]
theorem sc_layer_of : FnScope N_layer_of ["edit"] (defScope s_layer_of) := ⟨rfl, rfl, rfl, by decide +kernel, rfl, by decide +kernel, by decide +kernel⟩
theorem ok_layer_of (F : FnP K "layer_of" s_layer_of f fd) (T : Bi mg) (G : Kn w K mg) (D_must_shape : Df P w K mg base "must_shape" ["edit"] 1 spShape) (D_must_box : Df P w K mg base "must_box" ["box"] 3 spMustBox) (D_is_from : Df P w K mg base "is_from" ["thing", "low", "high"] 1 spFrom) (D_steps_of : Df P w K mg base "steps_of" ["rules"] 62 spSteps) : FnOk P w K mg base CX0 63 f fd ["edit"] spLayer := by
  refine F.ok sc_layer_of (fun vs H Q E h => ?_) (fun cdv A outer s H vs Q E hr h => ⟨_, PSs.nox
(pss_cons (ps_expr (pe_df D_must_shape (hr.mono (by first | decide | omega)) (pa_cons (pv 0) pa_nil)))
  (pss_cons (ps_asg (pe_slice sl_tupA (pv 0) po_none (po_some pe_int)) (pg_tup (by rfl) (pgs_cons (pg_name (i := 1) sc_layer_of.nd rfl (Or.inl rfl)) (pgs_cons (pg_name (i := 2) sc_layer_of.nd rfl (Or.inl rfl)) (pgs_cons (pg_name (i := 3) sc_layer_of.nd rfl (Or.inl rfl)) pgs_nil)))))
  (pss_cons (ps_expr (pe_df D_must_box (hr.mono (by first | decide | omega)) (pa_cons (pv 2) pa_nil)))
  (pss_cons (ps_if (pt_cmpR op_eq (pv 1) pe_str (nomark _))
  (pss_one (ps_ret (pe_tup (pa_cons (pv 1) (pa_cons (pv 2) (pa_cons (pe_callTy call_tuple_of (by rfl) T.tuple (by decide +kernel) (pa_cons (pe_df D_steps_of (hr.mono (by first | decide | omega)) (pa_cons (pv 3) pa_nil)) pa_nil)) (pa_cons pe_int pa_nil)))))))
  pss_nil)
  (pss_cons (ps_if (pt_cmpR op_eq (pv 1) pe_str (nomark _))
  (pss_cons (ps_if (pt_not (pt_val (pe_df D_is_from (hr.mono (by first | decide | omega)) (pa_cons (pv 3) (pa_cons (pe_un un_neg (pe_gI (by rfl) G.c_FARTHEST_COPY)) (pa_cons (pe_gI (by rfl) G.c_FARTHEST_COPY) pa_nil))))))
  pss_never
  pss_nil)
  (pss_cons (ps_if (pt_not (pt_val (pe_df D_is_from (hr.mono (by first | decide | omega)) (pa_cons (pe_ix ix_tup (pv 0) pe_int (fun _ _ => rfl)) (pa_cons (pe_un un_neg (pe_gI (by rfl) G.c_FARTHEST_COPY)) (pa_cons (pe_gI (by rfl) G.c_FARTHEST_COPY) pa_nil))))))
  pss_never
  pss_nil)
  (pss_one (ps_ret (pv 0)))))
  pss_nil)
  (pss_cons (ps_if (pt_not (pt_val (pe_df D_is_from (hr.mono (by first | decide | omega)) (pa_cons (pv 3) (pa_cons (pe_un un_neg (pe_gI (by rfl) G.c_GREATEST_NUMBER)) (pa_cons (pe_gI (by rfl) G.c_GREATEST_NUMBER) pa_nil))))))
  pss_never
  pss_nil)
  (pss_cons (ps_if (pt_cmpR op_eq (pv 1) pe_str (nomark _))
  (pss_one (ps_ret (pe_tup (pa_cons pe_str (pa_cons (pv 2) (pa_cons (pe_tup (pa_cons (pe_tup (pa_cons pe_str (pa_cons (pv 3) pa_nil))) pa_nil)) (pa_cons pe_int pa_nil)))))))
  pss_nil)
  (pss_one (ps_ret (pe_tup (pa_cons (pv 1) (pa_cons (pv 2) (pa_cons (pv 3) (pa_cons pe_int pa_nil)))))))))))))), ?_⟩)
  · obtain ⟨e, bx, E, rfl, _⟩ := h
    rfl
  · obtain ⟨e, bx, E, rfl, hE, hO, q⟩ := h
    walk_at "lw i0"
    have hE' := hE
    obtain ⟨u, he, hb, hu⟩ := hE'
    obtain ⟨ob, ok⟩ := hO
    cases E with
    | set b n =>
      replace he : H e = some (.tup [.str "set", .ref bx, .int n]) := he
      walk_at "lw go"
      refine ⟨e, bx, _, rfl, hE, ?_⟩
      walk_at "lw go"
      refine Ec.sl_both (fun a H' => Same H H' ∧ H' a = some (.tup [.str "set", .ref bx, .int n])) (SqT.of he) ⟨Same.refl H, he⟩ (fun p hp => ⟨same_new hp, upd_same⟩) fun tr H2 hR => ?_
      obtain ⟨s2, htr⟩ := hR
      refine g_tupT (SqT.of htr) rfl ?_
      walk_at "lw go"
      refine ⟨bx, _, _, _, _, rfl, s2 _ _ hb, ob, ?_⟩
      walk_at "lw go"
      refine ⟨n, -999999999, 999999999, rfl, by omega, by omega, ?_⟩
      walk_at "lw go"
      refine ⟨by show 2 ≤ sizeLine; decide, fun wt hw => ?_⟩
      walk_at "lw go"
      refine ⟨by show 1 ≤ sizeLine; decide, fun st hs => ?_⟩
      walk_at "lw go"
      refine ⟨by show 4 ≤ sizeLine; decide, fun ly hl => ?_⟩
      have nws : wt ≠ st := ne_of_none upd_same hs
      have nwl : wt ≠ ly := ne_of_none (by rw [upd_ne nws, upd_same]) hl
      have nsl : st ≠ ly := ne_of_none upd_same hl
      have sS := ((s2.trans (same_new (o := .tup [.str "whole", .int n]) hw)).trans (same_new (o := .tup [.ref wt]) hs)).trans (same_new (o := .tup [.str "field", .ref bx, .ref st, .int 0]) hl)
      exact q ly bx _ sS ⟨sS _ _ hb, st, wt, upd_same, by rw [upd_ne nsl, upd_same], by rw [upd_ne nwl, upd_ne nws, upd_same]⟩
    | chg w b n =>
      cases w with
      | raise =>
        replace he : H e = some (.tup [.str "raise", .ref bx, .int n]) := he
        walk_at "lw go"
        refine ⟨e, bx, _, rfl, hE, ?_⟩
        walk_at "lw go"
        refine Ec.sl_both (fun a H' => Same H H' ∧ H' a = some (.tup [.str "raise", .ref bx, .int n])) (SqT.of he) ⟨Same.refl H, he⟩ (fun p hp => ⟨same_new hp, upd_same⟩) fun tr H2 hR => ?_
        obtain ⟨s2, htr⟩ := hR
        refine g_tupT (SqT.of htr) rfl ?_
        walk_at "lw go"
        refine ⟨bx, _, _, _, _, rfl, s2 _ _ hb, ob, ?_⟩
        walk_at "lw go"
        refine ⟨n, -999999999, 999999999, rfl, by omega, by omega, ?_⟩
        walk_at "lw go"
        refine ⟨by show 4 ≤ sizeLine; decide, fun ly hl => ?_⟩
        have sS := s2.trans (same_new (o := .tup [.str "raise", .ref bx, .int n, .int 0]) hl)
        exact q ly bx _ sS ⟨sS _ _ hb, upd_same⟩
      | least =>
        replace he : H e = some (.tup [.str "least", .ref bx, .int n]) := he
        walk_at "lw go"
        refine ⟨e, bx, _, rfl, hE, ?_⟩
        walk_at "lw go"
        refine Ec.sl_both (fun a H' => Same H H' ∧ H' a = some (.tup [.str "least", .ref bx, .int n])) (SqT.of he) ⟨Same.refl H, he⟩ (fun p hp => ⟨same_new hp, upd_same⟩) fun tr H2 hR => ?_
        obtain ⟨s2, htr⟩ := hR
        refine g_tupT (SqT.of htr) rfl ?_
        walk_at "lw go"
        refine ⟨bx, _, _, _, _, rfl, s2 _ _ hb, ob, ?_⟩
        walk_at "lw go"
        refine ⟨n, -999999999, 999999999, rfl, by omega, by omega, ?_⟩
        walk_at "lw go"
        refine ⟨by show 4 ≤ sizeLine; decide, fun ly hl => ?_⟩
        have sS := s2.trans (same_new (o := .tup [.str "least", .ref bx, .int n, .int 0]) hl)
        exact q ly bx _ sS ⟨sS _ _ hb, upd_same⟩
      | most =>
        replace he : H e = some (.tup [.str "most", .ref bx, .int n]) := he
        walk_at "lw go"
        refine ⟨e, bx, _, rfl, hE, ?_⟩
        walk_at "lw go"
        refine Ec.sl_both (fun a H' => Same H H' ∧ H' a = some (.tup [.str "most", .ref bx, .int n])) (SqT.of he) ⟨Same.refl H, he⟩ (fun p hp => ⟨same_new hp, upd_same⟩) fun tr H2 hR => ?_
        obtain ⟨s2, htr⟩ := hR
        refine g_tupT (SqT.of htr) rfl ?_
        walk_at "lw go"
        refine ⟨bx, _, _, _, _, rfl, s2 _ _ hb, ob, ?_⟩
        walk_at "lw go"
        refine ⟨n, -999999999, 999999999, rfl, by omega, by omega, ?_⟩
        walk_at "lw go"
        refine ⟨by show 4 ≤ sizeLine; decide, fun ly hl => ?_⟩
        have sS := s2.trans (same_new (o := .tup [.str "most", .ref bx, .int n, .int 0]) hl)
        exact q ly bx _ sS ⟨sS _ _ hb, upd_same⟩
    | field b F =>
      replace he : H e = some (.tup [.str "field", .ref bx, u]) := he
      walk_at "lw go"
      refine ⟨e, bx, _, rfl, hE, ?_⟩
      walk_at "lw go"
      refine Ec.sl_both (fun a H' => Same H H' ∧ H' a = some (.tup [.str "field", .ref bx, u])) (SqT.of he) ⟨Same.refl H, he⟩ (fun p hp => ⟨same_new hp, upd_same⟩) fun tr H2 hR => ?_
      obtain ⟨s2, htr⟩ := hR
      refine g_tupT (SqT.of htr) rfl ?_
      walk_at "lw go"
      refine ⟨bx, _, _, _, _, rfl, s2 _ _ hb, ob, ?_⟩
      walk_at "lw go"
      refine ⟨u, F, rfl, FRep.mono (same_tup s2) hu, ok, fun l H3 ws nl s3 hl hS => ?_⟩
      walk_at "lw go"
      refine ⟨l, ws, rfl, .inl ⟨SqL.of hl, fun st hst => ?_⟩⟩
      walk_at "lw go"
      refine ⟨by show 4 ≤ sizeLine; decide, fun ly hly => ?_⟩
      have nsl : st ≠ ly := ne_of_none upd_same hly
      have sS := (s2.trans s3).trans ((same_new (o := .tup ws) hst).trans (same_new (o := .tup [.str "field", .ref bx, .ref st, .int 0]) hly))
      have sT := (same_new (o := .tup ws) hst).trans (same_new (o := .tup [.str "field", .ref bx, .ref st, .int 0]) hly)
      exact q ly bx _ sS ⟨sS _ _ hb, st, ws, upd_same, by rw [upd_ne nsl, upd_same], hS.mono (same_tup sT)⟩
    | copy b dx dz =>
      replace he : H e = some (.tup [.str "copy", .ref bx, .int dx, .int dz]) := he
      walk_at "lw go"
      refine ⟨e, bx, _, rfl, hE, ?_⟩
      walk_at "lw go"
      refine ⟨e, _, rfl, SqT.of he, (fun h => absurd h.2 (show ¬ HT.sIx 4 4 (some 3) = 4 by decide)), fun _ tr htr0 => ?_⟩
      rw [show cutV ([.str "copy", .ref bx, .int dx, .int dz] : List V) none (some 3) = [.str "copy", .ref bx, .int dx] from rfl]
      have s2 := same_new (o := .tup [.str "copy", .ref bx, .int dx]) htr0
      have htr := @upd_same H tr (.tup [.str "copy", .ref bx, .int dx])
      obtain ⟨H2, e2⟩ : ∃ G, upd H tr (.tup [.str "copy", .ref bx, .int dx]) = G := ⟨_, rfl⟩
      rw [e2] at s2 htr ⊢
      clear e2 htr0
      refine g_tupT (SqT.of htr) rfl ?_
      walk_at "lw go"
      refine ⟨bx, _, _, _, _, rfl, s2 _ _ hb, ob, ?_⟩
      walk_at "lw go"
      refine ⟨dx, -1000, 1000, rfl, by omega, by omega, ?_⟩
      walk_at "lw go"
      refine g_ixT (SqT.of (s2 _ _ he)) (v := .int dz) (atI_nat (j := 3) (by rfl)) ?_
      walk_at "lw go"
      refine ⟨dz, -1000, 1000, rfl, by omega, by omega, ?_⟩
      walk_at "lw go"
      exact q e bx _ s2 ⟨s2 _ _ hb, s2 _ _ he⟩
abbrev N_is_met : List Str := ["box", "boxes", "x0", "z0", "x1", "z1", "other"]
theorem sc_is_met : FnScope N_is_met ["box", "boxes"] (defScope s_is_met) := ⟨rfl, rfl, rfl, by decide +kernel, rfl, by decide +kernel, by decide +kernel⟩
theorem ok_is_met (F : FnP K "is_met" s_is_met f fd) (T : Bi mg) (G : Kn w K mg)  : FnOk P w K mg base CX0 1 f fd ["box", "boxes"] (spMet K) := by
  refine F.ok sc_is_met (fun vs H Q E h => ?_) (fun cdv A outer s H vs Q E hr h => ⟨_, PSs.nox
(pss_cons (ps_asg (pv 0) (pg_tup (by rfl) (pgs_cons (pg_name (i := 2) sc_is_met.nd rfl (Or.inl rfl)) (pgs_cons (pg_name (i := 3) sc_is_met.nd rfl (Or.inl rfl)) (pgs_cons (pg_name (i := 4) sc_is_met.nd rfl (Or.inl rfl)) (pgs_cons (pg_name (i := 5) sc_is_met.nd rfl (Or.inl rfl)) pgs_nil))))))
  (pss_cons (ps_for PassesOwn.never rfl (pi_list (pv 1)) (pg_name (i := 6) sc_is_met.nd rfl (Or.inl rfl))
  (pss_one (ps_if (PW.pt (pw_and (pt_cmpR op_le (pe_ix ix_tup (pv 6) pe_int (fun _ _ => rfl)) (pv 4) (nomark _)) (pw_and (pt_cmpR op_le (pv 2) (pe_ix ix_tup (pv 6) pe_int (fun _ _ => rfl)) (nomark _)) (pw_and (pt_cmpR op_le (pe_ix ix_tup (pv 6) pe_int (fun _ _ => rfl)) (pv 5) (nomark _)) (pw_and1 (pt_cmpR op_le (pv 3) (pe_ix ix_tup (pv 6) pe_int (fun _ _ => rfl)) (nomark _)))))))
  (pss_one (ps_ret pe_bl))
  pss_nil)))
  (pss_one (ps_ret pe_bl)))), ?_⟩)
  · obtain ⟨p, l, b, us, rfl, _⟩ := h
    rfl
  · obtain ⟨p, l, b, us, rfl, hp, hl, hu, q⟩ := h
    walk_at "lw i0"
    walk_at "lw go"
    refine g_tupT (SqT.of hp) rfl ?_
    walk_at "lw go"
    refine ⟨l, rfl, ⟨us, SqL.of hl⟩, for_list (xs := us) (fun i σ G => ∃ o6 : Option V, σ = [some (.ref p), some (.ref l), some (.int b.x0), some (.int b.z0), some (.int b.x1), some (.int b.z1), o6] ∧ G = H) ⟨_, rfl, rfl⟩ (fun i σ G _ ⟨_, _, e⟩ => by rw [e]; exact SqL.of hl) ?_ ?_⟩
    · rintro i y σ G hy ⟨o6, rfl, rfl⟩
      obtain ⟨bo, c, rfl, hc⟩ := hu y (List.mem_of_getElem? hy)
      walk_at "lw go"
      refine g_ixT (SqT.of hc) (v := .int c.x0) (atI_nat (j := 0) (by rfl)) ?_
      walk_at "lw go"
      refine g_ite (fun c1 => ?_) (fun c1 => ?_)
      · walk_at "lw go"
        refine g_ixT (SqT.of hc) (v := .int c.x1) (atI_nat (j := 2) (by rfl)) ?_
        walk_at "lw go"
        refine g_ite (fun c1 => ?_) (fun c1 => ?_)
        · walk_at "lw go"
          refine g_ixT (SqT.of hc) (v := .int c.z0) (atI_nat (j := 1) (by rfl)) ?_
          walk_at "lw go"
          refine g_ite (fun c1 => ?_) (fun c1 => ?_)
          · walk_at "lw go"
            refine g_ixT (SqT.of hc) (v := .int c.z1) (atI_nat (j := 3) (by rfl)) ?_
            walk_at "lw go"
            refine g_ite (fun c1 => ?_) (fun c1 => ?_)
            · walk_at "lw go"
              exact q true
            · walk_at "lw go"
              exact ⟨_, rfl, rfl⟩
          · walk_at "lw go"
            exact ⟨_, rfl, rfl⟩
        · walk_at "lw go"
          exact ⟨_, rfl, rfl⟩
      · walk_at "lw go"
        exact ⟨_, rfl, rfl⟩
    · rintro σ G ⟨o6, rfl, rfl⟩
      walk_at "lw go"
      exact q false
abbrev N_with_edit : List Str := ["standing", "number", "edit", "layer"]
theorem sc_with_edit : FnScope N_with_edit ["standing", "number", "edit"] (defScope s_with_edit) := ⟨rfl, rfl, rfl, by decide +kernel, rfl, by decide +kernel, by decide +kernel⟩
theorem ok_with_edit (F : FnP K "with_edit" s_with_edit f fd) (T : Bi mg) (G : Kn w K mg) (D_layer_of : Df P w K mg base "layer_of" ["edit"] 63 spLayer) : FnOk P w K mg base CX0 64 f fd ["standing", "number", "edit"] (spWith K) := by
  refine F.ok sc_with_edit (fun vs H Q E h => ?_) (fun cdv A outer s H vs Q E hr h => ⟨_, PSs.nox
(pss_cons (ps_set (i := 3) sc_with_edit.nd rfl (Or.inl rfl) (pe_df D_layer_of (hr.mono (by first | decide | omega)) (pa_cons (pv 2) pa_nil)))
  (pss_cons (ps_if (pt_cmpR op_ge (pe_callB call_len_seq (by rfl) T.len (by decide +kernel) (pa_cons (pv 0) pa_nil)) (pe_gI (by rfl) G.c_MOST_EDITS) (nomark _))
  pss_never
  pss_nil)
  (pss_one (ps_ret (pe_tup (StX.pa_star (pv 0) (pa_cons (pe_tup (pa_cons (pv 1) (pa_cons (pv 2) (pa_cons (pv 3) pa_nil)))) pa_nil))))))), ?_⟩)
  · obtain ⟨s, e, bx, es, i, E, rfl, _⟩ := h
    rfl
  · obtain ⟨s0, e, bx, es, i, E, rfl, hs, hel, hE, hO, q⟩ := h
    walk_at "lw i0"
    walk_at "lw go"
    refine ⟨e, bx, E, rfl, hE, hO, fun ly bl H1 s1 hL => ?_⟩
    walk_at "lw go"
    have hs1 := same_sqT s1 hs
    refine ⟨s0, es, rfl, .inr hs1, ?_⟩
    walk_at "lw go"
    refine iteNo (by omega) (g_next ?_)
    walk_at "lw go"
    refine ⟨s0, es, rfl, .inl hs1, ?_⟩
    walk_at "lw go"
    refine ⟨by show 3 ≤ sizeLine; decide, fun t ht => ?_⟩
    walk_at "lw go"
    refine ⟨by rw [List.length_append]; exact small_size (by simp only [List.length_cons, List.length_nil]; omega), fun s2 hs2 => ?_⟩
    have nts : t ≠ s2 := ne_of_none upd_same hs2
    have sb := (same_new (H := H1) (o := .tup [.int i, .ref e, .ref ly]) ht).trans (same_new (o := .tup (es ++ [.ref t])) hs2)
    exact q s2 t _ (s1.trans sb) upd_same ⟨t, e, ly, bx, bl, rfl, by rw [upd_ne nts, upd_same], hE.mono (same_tup (s1.trans sb)), hL.mono (same_tup sb)⟩
abbrev N_same_many : List Str := ["before", "behind", "place", "one", "other"]
theorem sc_same_many : FnScope N_same_many ["before", "behind"] (defScope s_same_many) := ⟨rfl, rfl, rfl, by decide +kernel, rfl, by decide +kernel, by decide +kernel⟩
theorem ok_same_many (F : FnP K "same_many" s_same_many f fd) (T : Bi mg) (G : Kn w K mg)  : FnOk P w K mg base CX0 1 f fd ["before", "behind"] (spSame K) := by
  refine F.ok sc_same_many (fun vs H Q E h => ?_) (fun cdv A outer s H vs Q E hr h => ⟨_, PSs.nox
(pss_cons (ps_for PassesOwn.never rfl (Ez.pi_ez (by rfl) T.enumerate (by rfl) T.zip (pa_cons (pv 0) (pa_cons (pv 1) pa_nil))) (pg_tup (by rfl) (pgs_cons (pg_name (i := 2) sc_same_many.nd rfl (Or.inl rfl)) (pgs_cons (pg_tup (by rfl) (pgs_cons (pg_name (i := 3) sc_same_many.nd rfl (Or.inl rfl)) (pgs_cons (pg_name (i := 4) sc_same_many.nd rfl (Or.inl rfl)) pgs_nil))) pgs_nil)))
  (pss_one (ps_if (pt_cmpR (op_neD hr.units) (pe_ix ix_tup (pv 3) pe_int (fun _ _ => rfl)) (pe_ix ix_tup (pv 4) pe_int (fun _ _ => rfl)) (nomark _))
  (pss_one (ps_ret (pv 2)))
  pss_nil)))
  (pss_one (ps_ret (pe_callB (call_min2 rfl) (by rfl) T.min (by decide +kernel) (pa_cons (pe_callB call_len_seq (by rfl) T.len (by decide +kernel) (pa_cons (pv 0) pa_nil)) (pa_cons (pe_callB call_len_seq (by rfl) T.len (by decide +kernel) (pa_cons (pv 1) pa_nil)) pa_nil)))))), ?_⟩)
  · obtain ⟨a, b, xs, ys, rfl, _⟩ := h
    rfl
  · obtain ⟨a, b, xs, ys, rfl, ha, hb, hx, hy, q⟩ := h
    walk_at "lw i0"
    walk_at "lw go"
    refine Ez.g_ez ?_
    walk_at "lw go"
    refine ⟨a, b, xs, ys, rfl, ha, hb, ?_⟩
    refine Ez.for_ez (xs := xs) (ys := ys) rfl (fun i σ H' => ∃ o2 o3 o4 : Option V, σ = [some (.ref a), some (.ref b), o2, o3, o4] ∧ Same H H') ⟨_, _, _, rfl, Same.refl H⟩ (fun i σ H' h => ?_) ?_ ?_
    · obtain ⟨_, _, _, _, s⟩ := h
      exact ⟨same_sqT s ha, same_sqT s hb⟩
    · rintro i x y T1 T2 σ H' hxi hyi ⟨o2, o3, o4, rfl, s⟩ n1 n2
      have s12 := (same_new (o := .tup [x, y]) n1).trans (same_new (o := .tup [.int (i : Nat), .ref T1]) n2)
      have hT2 := @upd_same (upd H' T1 (.tup [x, y])) T2 (.tup [.int (i : Nat), .ref T1])
      have hT1 := same_new (o := .tup [.int (i : Nat), .ref T1]) n2 T1 _ upd_same
      obtain ⟨H2, e2⟩ : ∃ G, upd (upd H' T1 (.tup [x, y])) T2 (.tup [.int (i : Nat), .ref T1]) = G := ⟨_, rfl⟩
      rw [e2] at s12 hT2 hT1 ⊢
      clear e2 n1 n2
      have s2 := s.trans s12
      walk_at "lw go"
      refine g_tupT (SqT.of hT2) rfl ?_
      walk_at "lw go"
      refine g_tupT (SqT.of hT1) rfl ?_
      walk_at "lw go"
      obtain ⟨p1, ⟨t1, e1, l1, b1, bl1, rfl, f1, f2, _⟩, ok1⟩ := ent_same s2 (hx x (List.mem_of_getElem? hxi))
      obtain ⟨p2, ⟨t2, e2, l2, b2, bl2, rfl, g1, g2, _⟩, ok2⟩ := ent_same s2 (hy y (List.mem_of_getElem? hyi))
      refine g_ixT (SqT.of f1) (v := .ref e1) (atI_nat (j := 1) (by rfl)) ?_
      walk_at "lw go"
      refine g_ixT (SqT.of g1) (v := .ref e2) (atI_nat (j := 1) (by rfl)) ?_
      walk_at "lw go"
      refine ⟨_, _, dp_ed f2, dp_ed g2, shaped_ed ok1, shaped_ed ok2, ?_⟩
      cases hc : PyData.eqv (edD p1.2) (edD p2.2) with
      | false =>
        walk_at "lw go"
        have l1 := (List.getElem?_eq_some_iff.mp hxi).1
        have l2 := (List.getElem?_eq_some_iff.mp hyi).1
        exact q i H2 s2 (by omega) (by omega)
      | true =>
        walk_at "lw go"
        exact ⟨_, _, _, rfl, s2⟩
    · rintro σ H' ⟨o2, o3, o4, rfl, s⟩
      walk_at "lw go"
      refine ⟨a, xs, rfl, .inr (same_sqT s ha), ?_⟩
      walk_at "lw go"
      refine ⟨b, ys, rfl, .inr (same_sqT s hb), ?_⟩
      walk_at "lw go"
      refine ⟨_, _, rfl, ?_⟩
      have hm : (if (ys.length : Int) < xs.length then (ys.length : Int) else xs.length) = ((min xs.length ys.length : Nat) : Int) := by split <;> omega
      rw [hm]
      exact q _ H' s (by omega) (by omega)
abbrev N_read_box : List Str := ["edit", "_", "box", "dx", "dz"]
theorem sc_read_box : FnScope N_read_box ["edit"] (defScope s_read_box) := ⟨rfl, rfl, rfl, by decide +kernel, rfl, by decide +kernel, by decide +kernel⟩
theorem ok_read_box (F : FnP K "read_box" s_read_box f fd) (T : Bi mg) (G : Kn w K mg)  : FnOk P w K mg base CX0 1 f fd ["edit"] spRead := by
  refine F.ok sc_read_box (fun vs H Q E h => ?_) (fun cdv A outer s H vs Q E hr h => ⟨_, PSs.nox
(pss_cons (ps_asg (pv 0) (pg_tup (by rfl) (pgs_cons (pg_name (i := 1) sc_read_box.nd rfl (Or.inl rfl)) (pgs_cons (pg_name (i := 2) sc_read_box.nd rfl (Or.inl rfl)) (pgs_cons (pg_name (i := 3) sc_read_box.nd rfl (Or.inl rfl)) (pgs_cons (pg_name (i := 4) sc_read_box.nd rfl (Or.inl rfl)) pgs_nil))))))
  (pss_one (ps_ret (pe_tup (pa_cons (pe_op op_add (pe_ix ix_tup (pv 2) pe_int (fun _ _ => rfl)) (pv 3)) (pa_cons (pe_op op_add (pe_ix ix_tup (pv 2) pe_int (fun _ _ => rfl)) (pv 4)) (pa_cons (pe_op op_add (pe_ix ix_tup (pv 2) pe_int (fun _ _ => rfl)) (pv 3)) (pa_cons (pe_op op_add (pe_ix ix_tup (pv 2) pe_int (fun _ _ => rfl)) (pv 4)) pa_nil)))))))), ?_⟩)
  · obtain ⟨e, bx, b, dx, dz, rfl, _⟩ := h
    rfl
  · obtain ⟨e, bx, b, dx, dz, rfl, ⟨u, he, hb, _⟩, q⟩ := h
    walk_at "lw i0"
    replace he : H e = some (.tup [.str "copy", .ref bx, .int dx, .int dz]) := he
    replace hb : H bx = some (.tup [.int b.x0, .int b.z0, .int b.x1, .int b.z1]) := hb
    walk_at "lw go"
    refine g_tupT (SqT.of he) rfl ?_
    walk_at "lw go"
    refine g_ixT (SqT.of hb) (v := .int b.x0) (atI_nat (j := 0) (by rfl)) ?_
    walk_at "lw go"
    refine g_ixT (SqT.of hb) (v := .int b.z0) (atI_nat (j := 1) (by rfl)) ?_
    walk_at "lw go"
    refine g_ixT (SqT.of hb) (v := .int b.x1) (atI_nat (j := 2) (by rfl)) ?_
    walk_at "lw go"
    refine g_ixT (SqT.of hb) (v := .int b.z1) (atI_nat (j := 3) (by rfl)) ?_
    walk_at "lw go"
    refine ⟨by show 4 ≤ sizeLine; decide, fun r hr => ?_⟩
    exact q r _ (same_new hr) upd_same
abbrev N_touched_boxes : List Str := ["before", "behind", "start", "end", "ends", "boxes", "entry", "edit"]
theorem sc_touched_boxes : FnScope N_touched_boxes ["before", "behind"] (defScope s_touched_boxes) := ⟨rfl, rfl, rfl, by decide +kernel, rfl, by decide +kernel, by decide +kernel⟩
theorem ok_touched_boxes (F : FnP K "touched_boxes" s_touched_boxes f fd) (T : Bi mg) (G : Kn w K mg) (D_same_many : Df P w K mg base "same_many" ["before", "behind"] 1 (spSame K)) (D_is_met : Df P w K mg base "is_met" ["box", "boxes"] 1 (spMet K)) (D_read_box : Df P w K mg base "read_box" ["edit"] 1 spRead) : FnOk P w K mg base CX0 2 f fd ["before", "behind"] (spTouch K) := by
  refine F.ok sc_touched_boxes (fun vs H Q E h => ?_) (fun cdv A outer s H vs Q E hr h => ⟨_, PSs.nox
(pss_cons (ps_set (i := 2) sc_touched_boxes.nd rfl (Or.inl rfl) (pe_df D_same_many (hr.mono (by first | decide | omega)) (pa_cons (pv 0) (pa_cons (pv 1) pa_nil))))
  (pss_cons (ps_set (i := 3) sc_touched_boxes.nd rfl (Or.inl rfl) (pe_df D_same_many (hr.mono (by first | decide | omega)) (pa_cons (Tr.pe_revT (pe_slice sl_tupA (pv 0) (po_some (pv 2)) po_none)) (pa_cons (Tr.pe_revT (pe_slice sl_tupA (pv 1) (po_some (pv 2)) po_none)) pa_nil))))
  (pss_cons (ps_set (i := 4) sc_touched_boxes.nd rfl (Or.inl rfl) (pe_op op_sub (pe_callB call_len_seq (by rfl) T.len (by decide +kernel) (pa_cons (pv 0) pa_nil)) (pv 3)))
  (pss_cons (ps_setLc (i := 5) (own := [("entry", 6)]) (g := gName 6) (tt := tYes) rfl sc_touched_boxes.nd rfl rfl (sw_true rfl rfl rfl (by decide +kernel)) (pi_tup (pe_op op_catA (pe_slice sl_tupA (pv 0) (po_some (pv 2)) (po_some (pv 4))) (pe_slice sl_tupA (pv 1) (po_some (pv 2)) (po_some (pe_op op_sub (pe_callB call_len_seq (by rfl) T.len (by decide +kernel) (pa_cons (pv 1) pa_nil)) (pv 3)))))) (blkOk_by (N := N_touched_boxes) (sc := defScope s_touched_boxes) (by decide +kernel)) (fun _ _ _ _ _ => pg_name (i := 6) sc_touched_boxes.nd rfl (by first | exact Or.inl rfl | exact Or.inr rfl)) (fun _ _ _ _ _ => pts_nil) (fun _ _ _ _ _ => (pe_ix (ix_tupK (K := K)) (pe_ix (ix_tupK (K := K)) (pv 6) pe_int (fun _ _ => rfl)) pe_int (fun _ _ => rfl))))
  (pss_cons (ps_for PassesOwn.never rfl (pi_tup (pe_slice sl_tupA (pv 0) (po_some (pv 4)) po_none)) (pg_name (i := 6) sc_touched_boxes.nd rfl (Or.inl rfl))
  (pss_cons (ps_set (i := 7) sc_touched_boxes.nd rfl (Or.inl rfl) (pe_ix ix_tup (pv 6) pe_int (fun _ _ => rfl)))
  (pss_one (ps_if (PW.pt (pw_and (pt_cmpR op_eq (pe_ix ix_tup (pv 7) pe_int (fun _ _ => rfl)) pe_str (nomark _)) (pw_and1 (pt_val (pe_df D_is_met (hr.mono (by first | decide | omega)) (pa_cons (pe_df D_read_box (hr.mono (by first | decide | omega)) (pa_cons (pv 7) pa_nil)) (pa_cons (pv 5) pa_nil)))))))
  (pss_one (ps_expr (pe_bm PySem.F.plainAttrs_list PySem.F.slot_list_append PySem.F.type_list_append mt_append (pv 5) (pa_cons (pe_ix ix_tup (pv 7) pe_int (fun _ _ => rfl)) pa_nil))))
  pss_nil))))
  (pss_one (ps_ret (pv 5)))))))), ?_⟩)
  · obtain ⟨a, b, xs, ys, rfl, _⟩ := h
    rfl
  · obtain ⟨a, b, xs, ys, rfl, ha, hb, hx, hy, hxl, hyl, q⟩ := h
    walk_at "lw i0"
    walk_at "lw go"
    refine ⟨a, b, xs, ys, rfl, ha, hb, hx, hy, fun start H1 s1 k1 k2 => ?_⟩
    walk_at "lw go"
    refine Tr.g_revT ?_
    walk_at "lw go"
    refine cut_ent (same_sqT s1 ha) (fun v hv => ent_same s1 (hx v hv)) fun t1 z1 H2 s2 ht1 he1 hl1 => ?_
    refine ⟨t1, z1, rfl, ht1, fun t2 hn2 => ?_⟩
    have s3 := same_new (o := .tup z1.reverse) hn2
    have hr2 := @upd_same H2 t2 (.tup z1.reverse)
    have he2 : ∀ v ∈ z1.reverse, EntV (upd H2 t2 (.tup z1.reverse)) v := fun v hv => ent_same s3 (he1 v (List.mem_reverse.mp hv))
    obtain ⟨H3, e3⟩ : ∃ G, upd H2 t2 (.tup z1.reverse) = G := ⟨_, rfl⟩
    rw [e3] at s3 hr2 he2 ⊢
    clear e3 hn2
    refine Tr.g_revT ?_
    have s13 := (s1.trans s2).trans s3
    walk_at "lw go"
    refine cut_ent (same_sqT s13 hb) (fun v hv => ent_same s13 (hy v hv)) fun t3 z3 H4 s4 ht3 he3 hl3 => ?_
    refine ⟨t3, z3, rfl, ht3, fun t4 hn4 => ?_⟩
    have s5 := same_new (o := .tup z3.reverse) hn4
    have hr4 := @upd_same H4 t4 (.tup z3.reverse)
    have he4 : ∀ v ∈ z3.reverse, EntV (upd H4 t4 (.tup z3.reverse)) v := fun v hv => ent_same s5 (he3 v (List.mem_reverse.mp hv))
    obtain ⟨H5, e5⟩ : ∃ G, upd H4 t4 (.tup z3.reverse) = G := ⟨_, rfl⟩
    rw [e5] at s5 hr4 he4 ⊢
    clear e5 hn4
    have s15 := (s13.trans s4).trans s5
    walk_at "lw go"
    refine ⟨t2, t4, _, _, rfl, SqT.of (s5 _ _ (s4 _ _ hr2)), SqT.of hr4, fun v hv => ent_same (s4.trans s5) (he2 v hv), he4, fun en H6 s6 k3 k4 => ?_⟩
    have s16 := s15.trans s6
    clear s15 s13 s6 s5 s4 s3 s2 hr2 hr4 he2 he4
    walk_at "lw go"
    refine ⟨a, xs, rfl, .inr (same_sqT s16 ha), ?_⟩
    walk_at "lw go"
    refine cut_ent (same_sqT s16 ha) (fun v hv => ent_same s16 (hx v hv)) fun t5 z5 H7 s7 ht5 he5 hl5 => ?_
    have s17 := s16.trans s7
    walk_at "lw go"
    refine ⟨b, ys, rfl, .inr (same_sqT s17 hb), ?_⟩
    walk_at "lw go"
    refine cut_ent (same_sqT s17 hb) (fun v hv => ent_same s17 (hy v hv)) fun t6 z6 H8 s8 ht6 he6 hl6 => ?_
    have s18 := s17.trans s8
    refine cat_ent (same_sqT s8 ht5) ht6 (fun v hv => ent_same s8 (he5 v hv)) he6 (by omega) fun t7 z7 H9 s9 ht7 he7 hl7 => ?_
    have s19 := s18.trans s9
    clear s18 s17 s16 s9 s8 s7 he5 he6 ht5 ht6
    refine ⟨t7, rfl, ⟨_, ht7⟩, fun D hD => lc_tup (xs := z7) (fun i H' => ∃ acc, Same H9 H' ∧ H' D = some (.lst acc) ∧ acc.length = i ∧ ∀ v ∈ acc, BoxV H' v) ⟨[], same_new hD, upd_same, rfl, fun v hv => nomatch hv⟩ (fun i H' _ ⟨_, s, _⟩ => same_sqT s ht7) ?_ ?_⟩
    · rintro i y H' hy' ⟨acc, s, hD', hlen, hbx⟩
      have hi := (List.getElem?_eq_some_iff.mp hy').1
      obtain ⟨p1, ⟨t1, e1, l1, b1, bl1, rfl, f1, ⟨u1, f2, f3, _⟩, _⟩, ok1⟩ := ent_same s (he7 y (List.mem_of_getElem? hy'))
      walk_at "lw go"
      refine ⟨rfl, g_yes ?_⟩
      walk_at "lw go"
      refine g_ixT (SqT.of f1) (v := .ref e1) (atI_nat (j := 1) (by rfl)) ?_
      walk_at "lw go"
      refine g_ixT (SqT.of f2) (v := .ref b1) (atI_nat (j := 1) (edC_box _ _ _)) ?_
      have tp := tup_putL (o := .lst (acc ++ [.ref b1])) hD'
      refine ⟨acc, hD', (by rw [sizeLine_eq]; omega), acc ++ [.ref b1], same_put s hD, upd_same, by simp [hlen], fun v hv => ?_⟩
      rcases List.mem_append.mp hv with hv | hv
      · exact (hbx v hv).mono tp
      · rw [List.mem_singleton.mp hv]; exact ⟨b1, _, rfl, tp _ _ f3⟩
    · rintro H' ⟨acc, s, hD', hlen, hbx⟩
      have s20 := s19.trans s
      walk_at "lw go"
      refine cut_ent (same_sqT s20 ha) (fun v hv => ent_same s20 (hx v hv)) fun t8 z8 H10 s10 ht8 he8 hl8 => ?_
      have xD : H D = none := fresh_of s19 hD
      have hbx10 : ∀ v ∈ acc, BoxV H10 v := fun v hv => (hbx v hv).mono (same_tup s10)
      have hal : acc.length ≤ 1000 := by rw [hlen]; omega
      refine ⟨t8, rfl, ⟨_, ht8⟩, for_tup (xs := z8) (fun i σ G => ∃ (o6 o7 : Option V) (bs : List V), σ = [some (.ref a), some (.ref b), some (.int start), some (.int en), some (.int ((xs.length : Int) - en)), some (.ref D), o6, o7] ∧ Keep D H10 G ∧ Same H G ∧ Tup H10 G ∧ G D = some (.lst bs) ∧ bs.length ≤ 1000 + i ∧ ∀ v ∈ bs, BoxV G v)
        ⟨_, _, acc, rfl, Keep.refl, s20.trans s10, Tup.refl, s10 _ _ hD', by omega, hbx10⟩ (fun i σ G _ h => by obtain ⟨_, _, _, _, k, _⟩ := h; exact sq_keep k (s10 _ _ hD') ht8) ?_ ?_⟩
      · rintro i y σ G hy' ⟨o6, o7, bs, rfl, kG, sG, tG, hDG, hbl, hbG⟩
        have hi8 := (List.getElem?_eq_some_iff.mp hy').1
        obtain ⟨p1, ⟨t1, e1, l1, b1, bl1, rfl, f1, fE, _⟩, ok1⟩ := (he8 y (List.mem_of_getElem? hy')).mono tG
        obtain ⟨u1, f2, f3, _⟩ := id fE
        walk_at "lw go"
        refine g_ixT (SqT.of f1) (v := .ref e1) (atI_nat (j := 1) (by rfl)) ?_
        walk_at "lw go"
        refine g_ixT (SqT.of f2) (v := .str p1.2.word) (atI_nat (j := 0) (edC_word _ _ _)) ?_
        walk_at "lw go"
        by_cases hw : p1.2.word = ("copy" : Str)
        · obtain ⟨b', dx, dz, hE⟩ : ∃ b' dx dz, p1.2 = .copy b' dx dz := word_copy hw
          refine iteS (by rw [hw]) ?_
          walk_at "lw go"
          have fE' := fE
          rw [hE] at fE'
          refine ⟨e1, b1, b', dx, dz, rfl, fE', fun r H5' s5 hr => ?_⟩
          have t5 := same_tup s5
          have hDG5 := s5 _ _ hDG
          have hbG5 : ∀ v ∈ bs, BoxV H5' v := fun v hv => (hbG v hv).mono t5
          walk_at "lw go"
          refine ⟨r, D, _, bs, rfl, hr, hDG5, hbG5, fun rr => ?_⟩
          have kG5 : Keep D H10 H5' := fun c v n h => s5 _ _ (kG c v n h)
          cases rr with
          | false =>
            walk_at "lw go"
            exact ⟨_, _, bs, rfl, kG5, sG.trans s5, tG.trans t5, hDG5, by omega, hbG5⟩
          | true =>
            walk_at "lw go"
            refine ⟨tyL hDG5, ?_⟩
            walk_at "lw go"
            refine g_ixT (SqT.of (t5 _ _ f2)) (v := .ref b1) (atI_nat (j := 1) (edC_box _ _ _)) ?_
            walk_at "lw go"
            refine g_append hDG5 (by rw [sizeLine_eq]; omega) ?_
            have tp := tup_putL (o := .lst (bs ++ [.ref b1])) hDG5
            refine ⟨_, _, bs ++ [.ref b1], rfl, kG5.put, same_put (sG.trans s5) xD, (tG.trans t5).trans tp, upd_same, by rw [List.length_append, List.length_singleton]; omega, fun v hv => ?_⟩
            rcases List.mem_append.mp hv with hv | hv
            · exact (hbG5 v hv).mono tp
            · rw [List.mem_singleton.mp hv]; exact ⟨b1, _, rfl, tp _ _ (t5 _ _ f3)⟩
        · refine iteNo (fun e => hw (by injection e)) ?_
          walk_at "lw go"
          exact ⟨_, _, bs, rfl, kG, sG, tG, hDG, by omega, hbG⟩
      · rintro σ G ⟨o6, o7, bs, rfl, kG, sG, tG, hDG, hbl, hbG⟩
        walk_at "lw go"
        exact q D bs G xD sG hDG
abbrev N_law_at : List Str := ["_law_script", "_law_k"]
theorem sc_law_at : FnScope N_law_at ["_law_script", "_law_k"] (defScope s_law_at) := ⟨rfl, rfl, rfl, by decide +kernel, rfl, by decide +kernel, by decide +kernel⟩
theorem ok_law_at (F : FnP K "_law_at" s_law_at f fd) (T : Bi mg) (G : Kn w K mg)  : FnOk P w K mg base CX0 1 f fd ["_law_script", "_law_k"] (spAt K) := by
  refine F.ok sc_law_at (fun vs H Q E h => ?_) (fun cdv A outer s H vs Q E hr h => ⟨_, PSs.nox
(pss_cons (ps_if (pt_cmpR op_lt (pv 1) (pe_callB call_len_seq (by rfl) T.len (by decide +kernel) (pa_cons (pv 0) pa_nil)) (nomark _))
  (pss_one (ps_ret (pe_ix ix_list (pv 0) (pv 1) (fun _ _ => rfl))))
  pss_nil)
  (pss_one (ps_ret pe_int))), ?_⟩)
  · obtain ⟨a, ns, k, rfl, _⟩ := h
    rfl
  · obtain ⟨a, ns, k, rfl, hS, hk, q⟩ := h
    walk_at "lw i0"
    walk_at "lw go"
    refine ⟨_, _, rfl, .inl hS, ?_⟩
    walk_at "lw go"
    refine g_ite (fun h => ?_) (fun h => ?_)
    · walk_at "lw go"
      rw [List.length_map] at h
      obtain ⟨m, rfl⟩ : ∃ m : Nat, k = (m : Int) := ⟨k.toNat, by omega⟩
      refine g_ixL hS (v := .int (ns[m]'(by omega))) (atI_nat ?_) (q _)
      rw [List.getElem?_map, List.getElem?_eq_getElem (by omega)]
      rfl
    · walk_at "lw go"
      exact q 0
abbrev N_law_mixed : List Str := ["_law_cell", "_law_k", "_law_number"]
theorem sc_law_mixed : FnScope N_law_mixed ["_law_cell", "_law_k"] (defScope s_law_mixed) := ⟨rfl, rfl, rfl, by decide +kernel, rfl, by decide +kernel, by decide +kernel⟩
theorem ok_law_mixed (F : FnP K "_law_mixed" s_law_mixed f fd) (T : Bi mg) (G : Kn w K mg)  : FnOk P w K mg base CX0 1 f fd ["_law_cell", "_law_k"] spMixed := by
  refine F.ok sc_law_mixed (fun vs H Q E h => ?_) (fun cdv A outer s H vs Q E hr h => ⟨_, PSs.nox
(pss_cons (ps_set (i := 2) sc_law_mixed.nd rfl (Or.inl rfl) (pe_op op_mod (pe_op op_add (pe_op op_add (pe_op op_add (pe_op op_mul (pv 0) pe_int) (pe_op op_mul (pe_op op_mul pe_int (pv 1)) (pv 1))) (pv 1)) pe_int) pe_int))
  (pss_cons (ps_set (i := 2) sc_law_mixed.nd rfl (Or.inl rfl) (pe_op op_mod (pe_op op_add (pe_op op_mul (pv 2) (pv 2)) pe_int) pe_int))
  (pss_one (ps_ret (pe_op op_mod (pe_op op_mul (pv 2) pe_int) pe_int))))), ?_⟩)
  · obtain ⟨a, k, rfl, _⟩ := h
    rfl
  · obtain ⟨a, k, rfl, h0, h1, q⟩ := h
    walk_at "lw i0"
    walk_at "lw go"
    exact q _
abbrev N_law_purse : List Str := ["_law_script", "_law_at_here", "_law_cell"]
theorem sc_law_purse : FnScope N_law_purse ["_law_script", "_law_at_here"] (defScope s_law_purse) := ⟨rfl, rfl, rfl, by decide +kernel, rfl, by decide +kernel, by decide +kernel⟩
theorem ok_law_purse (F : FnP K "_law_purse" s_law_purse f fd) (T : Bi mg) (G : Kn w K mg) (D_law_at : Df P w K mg base "_law_at" ["_law_script", "_law_k"] 1 (spAt K)) : FnOk P w K mg base CX0 2 f fd ["_law_script", "_law_at_here"] (spPurse K) := by
  refine F.ok sc_law_purse (fun vs H Q E h => ?_) (fun cdv A outer s H vs Q E hr h => ⟨_, PSs.nox
(pss_cons (ps_set (i := 2) sc_law_purse.nd rfl (Or.inl rfl) (pe_df D_law_at (hr.mono (by first | decide | omega)) (pa_cons (pv 0) (pa_cons (pv 1) pa_nil))))
  (pss_one (ps_ret (pe_lst (pa_cons (pe_op op_mod (pe_callB (call_max2 rfl) (by rfl) T.max (by decide +kernel) (pa_cons (pe_op op_sub (pv 2) (pe_op op_pow pe_int pe_int)) (pa_cons pe_int pa_nil))) (pe_op op_powW (pe_op op_pow pe_int pe_int) pe_int)) (pa_cons (pe_op op_mod (pv 2) pe_int) (pa_cons (pe_op op_mul pe_int (pv 1)) pa_nil))))))), ?_⟩)
  · obtain ⟨a, ns, k, rfl, _⟩ := h
    rfl
  · obtain ⟨a, ns, k, rfl, hS, hk, hk2, q⟩ := h
    walk_at "lw i0"
    walk_at "lw go"
    refine ⟨a, ns, k, rfl, hS, hk, fun n => ?_⟩
    walk_at "lw go"
    refine ⟨_, _, rfl, ?_⟩
    walk_at "lw go"
    refine ⟨by show 3 ≤ sizeLine; decide, fun p hp => q p _ hp ⟨_, _, _, rfl, by omega, by omega⟩⟩
abbrev N_law_draw : List Str := ["_law_purse_here", "_law_out_of", "_law_drawn", "_law_number", "_law_k"]
theorem sc_law_draw : FnScope N_law_draw ["_law_purse_here", "_law_out_of"] (defScope s_law_draw) := ⟨rfl, rfl, rfl, by decide +kernel, rfl, by decide +kernel, by decide +kernel⟩
theorem ok_law_draw (F : FnP K "_law_draw" s_law_draw f fd) (T : Bi mg) (G : Kn w K mg) (D_law_mixed : Df P w K mg base "_law_mixed" ["_law_cell", "_law_k"] 1 spMixed) : FnOk P w K mg base CX0 2 f fd ["_law_purse_here", "_law_out_of"] spDraw := by
  refine F.ok sc_law_draw (fun vs H Q E h => ?_) (fun cdv A outer s H vs Q E hr h => ⟨_, PSs.nox
(pss_cons (ps_if (pt_cmpR op_gt (pe_ix ix_list (pv 0) pe_int (fun _ _ => rfl)) pe_int (nomark _))
  (pss_cons (ps_set (i := 2) sc_law_draw.nd rfl (Or.inl rfl) (pe_op op_mod (pe_ix ix_list (pv 0) pe_int (fun _ _ => rfl)) (pv 1)))
  (pss_cons (ps_asg (pe_op op_fdivW (pe_ix ix_list (pv 0) pe_int (fun _ _ => rfl)) (pv 1)) (pg_sub (pv 0) pe_int set_list))
  (pss_one (ps_ret (pv 2)))))
  pss_nil)
  (pss_cons (ps_set (i := 3) sc_law_draw.nd rfl (Or.inl rfl) pe_int)
  (pss_cons (ps_for PassesOwn.never rfl (pi_range1 (by rfl) T.range (pa_cons (pe_op op_add pe_int (pe_op op_fdiv (pe_bits (pv 1)) pe_int)) pa_nil)) (pg_name (i := 4) sc_law_draw.nd rfl (Or.inl rfl))
  (pss_cons (ps_asg (pe_op op_add (pe_ix ix_list (pv 0) pe_int (fun _ _ => rfl)) pe_int) (pg_sub (pv 0) pe_int set_list))
  (pss_one (ps_set (i := 3) sc_law_draw.nd rfl (Or.inl rfl) (pe_op op_add (pe_op op_mul (pv 3) pe_int) (pe_df D_law_mixed (hr.mono (by first | decide | omega)) (pa_cons (pe_ix ix_list (pv 0) pe_int (fun _ _ => rfl)) (pa_cons (pe_ix ix_list (pv 0) pe_int (fun _ _ => rfl)) pa_nil))))))))
  (pss_one (ps_ret (pe_op op_mod (pv 3) (pv 1))))))), ?_⟩)
  · obtain ⟨p, n, m, o, rfl, _⟩ := h
    rfl
  · obtain ⟨p, n, m, o, rfl, hp, ⟨a, b, c, rfl, c0, c1⟩, hm, hn, hn2, q⟩ := h
    walk_at "lw i0"
    walk_at "lw go"
    refine g_ixL (SqL.of hp) (v := .int a) rfl ?_
    walk_at "lw go"
    refine g_ite (fun h => ?_) (fun h => ?_)
    · walk_at "lw go"
      refine g_ixL (SqL.of hp) (v := .int a) rfl ?_
      walk_at "lw go"
      refine g_ixL (SqL.of hp) (v := .int a) rfl ?_
      walk_at "lw go"
      refine g_setL (m := 0) hp (by rfl) ?_
      walk_at "lw go"
      exact q _ _ (Int.emod_nonneg _ (by omega)) (Int.emod_lt_of_pos _ hn) ⟨_, _, _, rfl, c0, by omega⟩
    · have hb := bits_le (n := n) (by omega) hn2
      walk_at "lw go"
      refine ⟨_, rfl, by omega, by omega, for_range (fun i σ H' => ∃ (num c' : Int) (v4 : Option V), σ = [some (.ref p), some (.int n), none, some (.int num), v4] ∧ H' p = some (.lst [.int a, .int b, .int c']) ∧ 0 ≤ c' ∧ c' ≤ c + i ∧ (∀ x, upd H' p x = upd H p x) ∧ upd H p (.lst [.int a, .int b, .int c']) = H')
        ⟨0, c, none, rfl, hp, c0, by omega, fun _ => rfl, upd_self hp⟩ ?_ ?_⟩
      · rintro i σ H' hi ⟨num, c', v4, rfl, hp', d0, d1, hu, he⟩
        walk_at "lw go"
        refine g_ixL (SqL.of hp') (v := .int c') rfl ?_
        walk_at "lw go"
        refine g_setL (m := 2) hp' (by rfl) ?_
        walk_at "lw go"
        refine g_ixL (SqL.of upd_same) (v := .int b) rfl ?_
        walk_at "lw go"
        refine g_ixL (SqL.of upd_same) (v := .int (c' + 1)) rfl ?_
        walk_at "lw go"
        refine ⟨b, c' + 1, rfl, by omega, by omega, fun x => ?_⟩
        walk_at "lw go"
        refine ⟨_, c' + 1, _, rfl, upd_same, by omega, by omega, fun x => ?_, ?_⟩
        · rw [upd_upd]; exact hu x
        · exact (hu _).symm
      · rintro σ H' ⟨num, c', v4, rfl, hp', d0, d1, hu, he⟩
        walk_at "lw go"
        rw [← he]
        exact q _ _ (Int.emod_nonneg _ (by omega)) (Int.emod_lt_of_pos _ hn) ⟨_, _, _, rfl, d0, by omega⟩
abbrev N_law_knot : List Str := ["_law_grain", "_law_grit", "_law_i", "_law_j", "_law_first", "_law_second", "_law_third"]
theorem sc_law_knot : FnScope N_law_knot ["_law_grain", "_law_grit", "_law_i", "_law_j"] (defScope s_law_knot) := ⟨rfl, rfl, rfl, by decide +kernel, rfl, by decide +kernel, by decide +kernel⟩
theorem ok_law_knot (F : FnP K "_law_knot" s_law_knot f fd) (T : Bi mg) (G : Kn w K mg)  : FnOk P w K mg base CX0 1 f fd ["_law_grain", "_law_grit", "_law_i", "_law_j"] spKnot := by
  refine F.ok sc_law_knot (fun vs H Q E h => ?_) (fun cdv A outer s H vs Q E hr h => ⟨_, PSs.nox
(pss_cons (ps_set (i := 4) sc_law_knot.nd rfl (Or.inl rfl) (pe_op op_mod (pe_op op_add (pe_op op_add (pv 0) (pe_op op_mul pe_int (pv 1))) pe_int) pe_int))
  (pss_cons (ps_set (i := 5) sc_law_knot.nd rfl (Or.inl rfl) (pe_op op_mod (pe_op op_add (pe_op op_add (pe_op op_mul (pv 4) (pv 4)) (pe_op op_mul pe_int (pv 2))) pe_int) pe_int))
  (pss_cons (ps_set (i := 6) sc_law_knot.nd rfl (Or.inl rfl) (pe_op op_mod (pe_op op_add (pe_op op_add (pe_op op_mul (pv 5) (pv 5)) (pe_op op_mul pe_int (pv 3))) pe_int) pe_int))
  (pss_one (ps_ret (pe_op op_mod (pe_op op_mod (pe_op op_add (pe_op op_mul (pv 6) (pv 6)) (pv 6)) pe_int) pe_int)))))), ?_⟩)
  · obtain ⟨a, b, c, d, rfl, _⟩ := h
    rfl
  · obtain ⟨a, b, c, d, rfl, q⟩ := h
    walk_at "lw i0"
    walk_at "lw go"
    exact q
abbrev N_law_box : List Str := ["_law_purse_here", "_law_wide", "_law_x", "_law_z"]
theorem sc_law_box : FnScope N_law_box ["_law_purse_here", "_law_wide"] (defScope s_law_box) := ⟨rfl, rfl, rfl, by decide +kernel, rfl, by decide +kernel, by decide +kernel⟩
theorem ok_law_box (F : FnP K "_law_box" s_law_box f fd) (T : Bi mg) (G : Kn w K mg) (D_law_draw : Df P w K mg base "_law_draw" ["_law_purse_here", "_law_out_of"] 2 spDraw) : FnOk P w K mg base CX0 3 f fd ["_law_purse_here", "_law_wide"] spBoxW := by
  refine F.ok sc_law_box (fun vs H Q E h => ?_) (fun cdv A outer s H vs Q E hr h => ⟨_, PSs.nox
(pss_cons (ps_set (i := 2) sc_law_box.nd rfl (Or.inl rfl) (pe_ix ix_list (pe_lst (pa_cons pe_int (pa_cons (pe_un un_neg pe_int) (pa_cons (pe_op op_sub pe_int (pv 1)) (pa_cons (pe_un un_neg pe_int) (pa_cons pe_int (pa_cons (pe_un un_neg pe_int) pa_nil))))))) (pe_df D_law_draw (hr.mono (by first | decide | omega)) (pa_cons (pv 0) (pa_cons pe_int pa_nil))) (fun _ _ => rfl)))
  (pss_cons (ps_set (i := 3) sc_law_box.nd rfl (Or.inl rfl) (pe_ix ix_list (pe_lst (pa_cons pe_int (pa_cons (pe_un un_neg pe_int) (pa_cons (pe_op op_sub pe_int (pv 1)) (pa_cons (pe_un un_neg pe_int) (pa_cons pe_int (pa_cons (pe_un un_neg pe_int) pa_nil))))))) (pe_df D_law_draw (hr.mono (by first | decide | omega)) (pa_cons (pv 0) (pa_cons pe_int pa_nil))) (fun _ _ => rfl)))
  (pss_one (ps_ret (pe_tup (pa_cons (pv 2) (pa_cons (pv 3) (pa_cons (pe_op op_add (pv 2) (pe_df D_law_draw (hr.mono (by first | decide | omega)) (pa_cons (pv 0) (pa_cons (pv 1) pa_nil)))) (pa_cons (pe_op op_add (pv 3) (pe_df D_law_draw (hr.mono (by first | decide | omega)) (pa_cons (pv 0) (pa_cons (pv 1) pa_nil)))) pa_nil))))))))), ?_⟩)
  · obtain ⟨p, wd, m, o, rfl, _⟩ := h
    rfl
  · obtain ⟨p, wd, m, o, rfl, hp, hP, hm, w1, w2, q⟩ := h
    walk_at "lw i0"
    have Wd : Wp p H H m := ⟨Keep.refl, o, hp, hP⟩
    clear hp hP
    walk_at "lw go"
    refine ⟨by show 6 ≤ sizeLine; decide, fun lx hlx => ?_⟩
    have n_lx := Wd.ne hlx
    have s0 := same_new (o := .lst [.int (0), .int (-7), .int (1000000 - wd), .int (-1000000), .int (31), .int (-16)]) hlx
    have f_lx := @upd_same H lx (.lst [.int (0), .int (-7), .int (1000000 - wd), .int (-1000000), .int (31), .int (-16)])
    obtain ⟨H1, e1⟩ : ∃ G, upd H lx (.lst [.int (0), .int (-7), .int (1000000 - wd), .int (-1000000), .int (31), .int (-16)]) = G := ⟨_, rfl⟩
    rw [e1] at s0 f_lx ⊢
    clear e1 hlx
    replace Wd := Wd.same s0
    clear s0
    walk_at "lw go"
    obtain ⟨o0, hp0, hP0⟩ := Wd.hp
    refine ⟨p, 6, _, o0, rfl, hp0, hP0, by omega, by omega, by omega, fun a o1 a0 a1 hP1 => ?_⟩
    have t0 := Wd.tup (o := o1)
    have k0 : Keep p H1 (upd H1 p o1) := Keep.refl.put
    replace Wd := Wd.draw hP1
    obtain ⟨H2, e2⟩ : ∃ G, upd H1 p o1 = G := ⟨_, rfl⟩
    rw [e2] at t0 k0 Wd ⊢
    clear e2 hp0 hP0 hP1 o0
    replace f_lx := k0 _ _ n_lx f_lx
    clear t0 k0
    walk_at "lw go"
    obtain ⟨an, rfl⟩ : ∃ an : Nat, a = an := ⟨a.toNat, by omega⟩
    obtain ⟨x0, hget, x0c⟩ : ∃ x0 : Int, ([.int (0), .int (-7), .int (1000000 - wd), .int (-1000000), .int (31), .int (-16)] : List V)[an]? = some (.int x0) ∧ (-1000000 ≤ x0 ∧ x0 ≤ 1000000 - wd) := by
      have hc : an = 0 ∨ an = 1 ∨ an = 2 ∨ an = 3 ∨ an = 4 ∨ an = 5 := by omega
      rcases hc with rfl | rfl | rfl | rfl | rfl | rfl
      · exact ⟨0, rfl, by omega⟩
      · exact ⟨-7, rfl, by omega⟩
      · exact ⟨1000000 - wd, rfl, by omega⟩
      · exact ⟨-1000000, rfl, by omega⟩
      · exact ⟨31, rfl, by omega⟩
      · exact ⟨-16, rfl, by omega⟩
    refine g_ixL (SqL.of f_lx) (atI_nat hget) ?_
    clear f_lx hget a0 a1
    walk_at "lw go"
    refine ⟨by show 6 ≤ sizeLine; decide, fun lz hlz => ?_⟩
    have n_lz := Wd.ne hlz
    have s0 := same_new (o := .lst [.int (0), .int (-3), .int (1000000 - wd), .int (-1000000), .int (17), .int (-16)]) hlz
    have f_lz := @upd_same H2 lz (.lst [.int (0), .int (-3), .int (1000000 - wd), .int (-1000000), .int (17), .int (-16)])
    obtain ⟨H3, e3⟩ : ∃ G, upd H2 lz (.lst [.int (0), .int (-3), .int (1000000 - wd), .int (-1000000), .int (17), .int (-16)]) = G := ⟨_, rfl⟩
    rw [e3] at s0 f_lz ⊢
    clear e3 hlz
    replace Wd := Wd.same s0
    clear s0
    walk_at "lw go"
    obtain ⟨o0, hp0, hP0⟩ := Wd.hp
    refine ⟨p, 6, _, o0, rfl, hp0, hP0, by omega, by omega, by omega, fun b o1 b0 b1 hP1 => ?_⟩
    have t0 := Wd.tup (o := o1)
    have k0 : Keep p H3 (upd H3 p o1) := Keep.refl.put
    replace Wd := Wd.draw hP1
    obtain ⟨H4, e4⟩ : ∃ G, upd H3 p o1 = G := ⟨_, rfl⟩
    rw [e4] at t0 k0 Wd ⊢
    clear e4 hp0 hP0 hP1 o0
    replace f_lz := k0 _ _ n_lz f_lz
    clear t0 k0
    walk_at "lw go"
    obtain ⟨bn, rfl⟩ : ∃ bn : Nat, b = bn := ⟨b.toNat, by omega⟩
    obtain ⟨z0, hget, z0c⟩ : ∃ z0 : Int, ([.int (0), .int (-3), .int (1000000 - wd), .int (-1000000), .int (17), .int (-16)] : List V)[bn]? = some (.int z0) ∧ (-1000000 ≤ z0 ∧ z0 ≤ 1000000 - wd) := by
      have hc : bn = 0 ∨ bn = 1 ∨ bn = 2 ∨ bn = 3 ∨ bn = 4 ∨ bn = 5 := by omega
      rcases hc with rfl | rfl | rfl | rfl | rfl | rfl
      · exact ⟨0, rfl, by omega⟩
      · exact ⟨-3, rfl, by omega⟩
      · exact ⟨1000000 - wd, rfl, by omega⟩
      · exact ⟨-1000000, rfl, by omega⟩
      · exact ⟨17, rfl, by omega⟩
      · exact ⟨-16, rfl, by omega⟩
    refine g_ixL (SqL.of f_lz) (atI_nat hget) ?_
    clear f_lz hget b0 b1
    walk_at "lw go"
    obtain ⟨o0, hp0, hP0⟩ := Wd.hp
    refine ⟨p, wd, _, o0, rfl, hp0, hP0, by omega, by omega, by omega, fun a o1 a0 a1 hP1 => ?_⟩
    have t0 := Wd.tup (o := o1)
    have k0 : Keep p H4 (upd H4 p o1) := Keep.refl.put
    replace Wd := Wd.draw hP1
    obtain ⟨H5, e5⟩ : ∃ G, upd H4 p o1 = G := ⟨_, rfl⟩
    rw [e5] at t0 k0 Wd ⊢
    clear e5 hp0 hP0 hP1 o0
    clear t0 k0
    walk_at "lw go"
    obtain ⟨o0, hp0, hP0⟩ := Wd.hp
    refine ⟨p, wd, _, o0, rfl, hp0, hP0, by omega, by omega, by omega, fun b o1 b0 b1 hP1 => ?_⟩
    have t0 := Wd.tup (o := o1)
    have k0 : Keep p H5 (upd H5 p o1) := Keep.refl.put
    replace Wd := Wd.draw hP1
    obtain ⟨H6, e6⟩ : ∃ G, upd H5 p o1 = G := ⟨_, rfl⟩
    rw [e6] at t0 k0 Wd ⊢
    clear e6 hp0 hP0 hP1 o0
    clear t0 k0
    walk_at "lw go"
    refine ⟨by show 4 ≤ sizeLine; decide, fun t ht => ?_⟩
    exact q x0 z0 a b t _ (Wd.same (same_new ht)) (Wd.nn ht) upd_same ⟨by omega, by omega⟩ a0 a1 b0 b1
abbrev N_law_points : List Str := ["_law_area", "_law_found", "_law_x", "_law_z"]
theorem sc_law_points : FnScope N_law_points ["_law_area"] (defScope s_law_points) := ⟨rfl, rfl, rfl, by decide +kernel, rfl, by decide +kernel, by decide +kernel⟩
theorem ok_law_points (F : FnP K "_law_points" s_law_points f fd) (T : Bi mg) (G : Kn w K mg)  : FnOk P w K mg base CX0 1 f fd ["_law_area"] spPoints := by
  refine F.ok sc_law_points (fun vs H Q E h => ?_) (fun cdv A outer s H vs Q E hr h => ⟨_, PSs.nox
(pss_cons (ps_set (i := 1) sc_law_points.nd rfl (Or.inl rfl) (pe_lst pa_nil))
  (pss_cons (ps_for PassesOwn.never rfl (pi_range2 (by rfl) T.range (pa_cons (pe_ix ix_tup (pv 0) pe_int (fun _ _ => rfl)) (pa_cons (pe_op op_add (pe_ix ix_tup (pv 0) pe_int (fun _ _ => rfl)) pe_int) pa_nil))) (pg_name (i := 2) sc_law_points.nd rfl (by first | exact Or.inr rfl | exact Or.inl rfl))
  (pss_one (ps_set (i := 1) sc_law_points.nd rfl (Or.inl rfl) (pe_op op_cat (pv 1) (pe_lc (own := [("_law_z", 3)]) (g := gName 3) (tt := tYes) rfl sc_law_points.nd (pi_range2 (by rfl) T.range (pa_cons (pe_ix ix_tup (pv 0) pe_int (fun _ _ => rfl)) (pa_cons (pe_op op_add (pe_ix ix_tup (pv 0) pe_int (fun _ _ => rfl)) pe_int) pa_nil))) (blkOk_by (N := N_law_points) (sc := defScope s_law_points) (by decide +kernel)) (fun _ _ _ _ _ => pg_name (i := 3) sc_law_points.nd rfl (by first | exact Or.inl rfl | exact Or.inr rfl)) (fun _ _ _ _ _ => pts_nil) (fun _ _ _ _ _ => (pe_tup (pa_cons (pv 2) (pa_cons (pv 3) pa_nil)))))))))
  (pss_one (ps_ret (pv 1))))), ?_⟩)
  · obtain ⟨p, x0, z0, x1, z1, w, d, rfl, _⟩ := h
    rfl
  · obtain ⟨p, x0, z0, x1, z1, w, d, rfl, hp, ob, hw, hd, w2, d2, q⟩ := h
    walk_at "lw i0"
    obtain ⟨⟨a1, a2, a3⟩, a4, a5, a6⟩ := ob
    walk_at "lw go"
    refine ⟨Nat.zero_le _, fun L hL => ?_⟩
    have s1 := same_new (o := .lst []) hL
    have fL := @upd_same H L (.lst [])
    obtain ⟨H1, e1⟩ : ∃ G, upd H L (.lst []) = G := ⟨_, rfl⟩
    rw [e1] at s1 fL ⊢
    clear e1
    walk_at "lw go"
    refine g_rng2 ?_
    walk_at "lw go"
    refine g_ixT (SqT.of (s1 _ _ hp)) (v := .int x0) (atI_nat (j := 0) (by rfl)) ?_
    walk_at "lw go"
    refine g_ixT (SqT.of (s1 _ _ hp)) (v := .int x1) (atI_nat (j := 2) (by rfl)) ?_
    walk_at "lw go"
    refine ⟨_, _, rfl, ⟨by omega, by omega, by omega, by omega⟩, ?_⟩
    rw [show (x1 + 1 - x0).toNat = w by omega]
    refine for_range (fun i σ G => ∃ (o2 o3 : Option V) (r : Addr) (ls : List Addr), σ = [some (.ref p), some (.ref r), o2, o3] ∧ Same H G ∧ H r = none ∧ G r = some (.lst (ls.map V.ref)) ∧ PtsR G ls (boxP x0 z0 i d)) ⟨_, _, L, [], rfl, s1, hL, fL, .nil⟩ ?_ ?_
    · rintro i σ G hi ⟨o2, o3, r, ls, rfl, sG, xr, fr, hP⟩
      walk_at "lw go"
      refine g_rng2 ?_
      walk_at "lw go"
      refine g_ixT (SqT.of (sG _ _ hp)) (v := .int z0) (atI_nat (j := 1) (by rfl)) ?_
      walk_at "lw go"
      refine g_ixT (SqT.of (sG _ _ hp)) (v := .int z1) (atI_nat (j := 3) (by rfl)) ?_
      walk_at "lw go"
      refine ⟨_, _, rfl, ⟨by omega, by omega, by omega, by omega⟩, fun D hD => ?_⟩
      rw [show (z1 + 1 - z0).toNat = d by omega]
      refine lc_range (fun j G2 => Same G G2 ∧ ∃ l2 : List Addr, G2 D = some (.lst (l2.map V.ref)) ∧ PtsR G2 l2 ((List.range j).map fun j : Nat => (x0 + (i : Int), z0 + (j : Int)))) ⟨same_new hD, [], upd_same, .nil⟩ ?_ ?_
      · rintro j G2 hj ⟨s2, l2, f2, hP2⟩
        walk_at "lw go"
        refine ⟨rfl, g_yes ?_⟩
        walk_at "lw go"
        refine ⟨by show 2 ≤ sizeLine; decide, fun t ht => ?_⟩
        have sT := same_new (o := .tup [.int (x0 + (i : Nat)), .int (z0 + (j : Nat))]) ht
        have fT := @upd_same G2 t (.tup [.int (x0 + (i : Nat)), .int (z0 + (j : Nat))])
        have hl2 : l2.length ≤ 100 := by rw [Paired.length hP2, List.length_map, List.length_range]; omega
        have tp := tup_putL (o := .lst (l2.map V.ref ++ [.ref t])) (sT _ _ f2)
        refine ⟨_, sT _ _ f2, by rw [List.length_map, sizeLine_eq]; omega, same_put (s2.trans sT) hD, l2 ++ [t], by rw [upd_same, List.map_append]; rfl, ?_⟩
        rw [List.range_succ, List.map_append]
        exact PtsR.snoc (tp _ _ fT) (PtsR.tup tp (hP2.same sT))
      · rintro G2 ⟨s2, l2, f2, hP2⟩
        walk_at "lw go"
        have hl1 : ls.length ≤ 64 * 64 := by
          rw [Paired.length hP, boxP_len]
          exact Nat.mul_le_mul (by omega) d2
        have hl2 : l2.length ≤ 64 := by rw [Paired.length hP2, List.length_map, List.length_range]; exact d2
        refine ⟨r, D, _, _, rfl, rfl, s2 _ _ fr, f2, by rw [List.length_map, List.length_map, sizeLine_eq]; omega, fun np hnp => ?_⟩
        walk_at "lw go"
        have s3 := same_new (o := .lst (ls.map V.ref ++ l2.map V.ref)) hnp
        refine ⟨_, _, np, ls ++ l2, rfl, (sG.trans s2).trans s3, fresh_of (sG.trans s2) hnp, by rw [upd_same, List.map_append], ?_⟩
        rw [boxP_succ]
        exact PtsR.app ((hP.same s2).same s3) (hP2.same s3)
    · rintro σ G ⟨o2, o3, r, ls, rfl, sG, xr, fr, hP⟩
      walk_at "lw go"
      exact q r G xr sG ⟨ls, fr, hP⟩
abbrev N_law_bears : List Str := ["_law_grain", "_law_grit", "_law_spot_here", "_law_reach", "_law_own", "_law_x", "_law_z", "_law_other"]
theorem sc_law_bears : FnScope N_law_bears ["_law_grain", "_law_grit", "_law_spot_here", "_law_reach"] (defScope s_law_bears) := ⟨rfl, rfl, rfl, by decide +kernel, rfl, by decide +kernel, by decide +kernel⟩
theorem ok_law_bears (F : FnP K "_law_bears" s_law_bears f fd) (T : Bi mg) (G : Kn w K mg) (D_law_knot : Df P w K mg base "_law_knot" ["_law_grain", "_law_grit", "_law_i", "_law_j"] 1 spKnot) : FnOk P w K mg base CX0 2 f fd ["_law_grain", "_law_grit", "_law_spot_here", "_law_reach"] spBears := by
  refine F.ok sc_law_bears (fun vs H Q E h => ?_) (fun cdv A outer s H vs Q E hr h => ⟨_, PSs.nox
(pss_cons (ps_set (i := 4) sc_law_bears.nd rfl (Or.inl rfl) (pe_df D_law_knot (hr.mono (by first | decide | omega)) (pa_cons (pv 0) (pa_cons (pv 1) (pa_cons (pe_ix ix_tup (pv 2) pe_int (fun _ _ => rfl)) (pa_cons (pe_ix ix_tup (pv 2) pe_int (fun _ _ => rfl)) pa_nil))))))
  (pss_cons (ps_for PassesOwn.never rfl (pi_range2 (by rfl) T.range (pa_cons (pe_op op_sub (pe_ix ix_tup (pv 2) pe_int (fun _ _ => rfl)) (pv 3)) (pa_cons (pe_op op_add (pe_op op_add (pe_ix ix_tup (pv 2) pe_int (fun _ _ => rfl)) (pv 3)) pe_int) pa_nil))) (pg_name (i := 5) sc_law_bears.nd rfl (Or.inl rfl))
  (pss_one (ps_for PassesOwn.never rfl (pi_range2 (by rfl) T.range (pa_cons (pe_op op_sub (pe_ix ix_tup (pv 2) pe_int (fun _ _ => rfl)) (pv 3)) (pa_cons (pe_op op_add (pe_op op_add (pe_ix ix_tup (pv 2) pe_int (fun _ _ => rfl)) (pv 3)) pe_int) pa_nil))) (pg_name (i := 6) sc_law_bears.nd rfl (Or.inl rfl))
  (pss_cons (ps_set (i := 7) sc_law_bears.nd rfl (Or.inl rfl) (pe_df D_law_knot (hr.mono (by first | decide | omega)) (pa_cons (pv 0) (pa_cons (pv 1) (pa_cons (pv 5) (pa_cons (pv 6) pa_nil))))))
  (pss_one (ps_if (PW.pt (pw_or (pt_cmpR op_gt (pv 7) (pv 4) (nomark _)) (pw_or1 (PW.pt (pw_and (pt_cmpR op_eq (pv 7) (pv 4) (nomark _)) (pw_and1 (pt_cmpR (Mn.op_ltP (Mn.room20 hr)) (pe_tup (pa_cons (pv 5) (pa_cons (pv 6) pa_nil))) (pv 2) (nomark _))))))))
  (pss_one (ps_ret pe_bl))
  pss_nil))))))
  (pss_one (ps_ret pe_bl)))), ?_⟩)
  · obtain ⟨g, s, p, x, z, far, rfl, _⟩ := h
    rfl
  · obtain ⟨g, s, p, x, z, far, rfl, hp, f2, a1, a2, a3, a4, q⟩ := h
    walk_at "lw i0"
    walk_at "lw go"
    refine g_ixT (SqT.of hp) (v := .int x) (atI_nat (j := 0) (by rfl)) ?_
    walk_at "lw go"
    refine g_ixT (SqT.of hp) (v := .int z) (atI_nat (j := 1) (by rfl)) ?_
    walk_at "lw go"
    refine ⟨g, s, x, z, rfl, ?_⟩
    walk_at "lw go"
    refine g_rng2 ?_
    walk_at "lw go"
    refine g_ixT (SqT.of hp) (v := .int x) (atI_nat (j := 0) (by rfl)) ?_
    walk_at "lw go"
    refine g_ixT (SqT.of hp) (v := .int x) (atI_nat (j := 0) (by rfl)) ?_
    walk_at "lw go"
    refine ⟨_, _, rfl, ⟨by omega, by omega, by omega, by omega⟩, ?_⟩
    rw [show (x + far + 1 - (x - far)).toNat = 2 * far + 1 by omega]
    refine for_range (fun i σ G => ∃ (o5 o6 o7 : Option V), σ = [some (.int g), some (.int s), some (.ref p), some (.int far), some (.int (knotL g s x z)), o5, o6, o7] ∧ Same H G ∧ ∀ x' z', x - far ≤ x' → x' < x - far + (i : Nat) → z - far ≤ z' → z' ≤ z + far → ¬ Bt g s x' z' x z) ⟨_, _, _, rfl, Same.refl H, fun x' z' h1 h2 => by omega⟩ ?_ ?_
    · rintro i σ G hi ⟨o5, o6, o7, rfl, sG, hn⟩
      walk_at "lw go"
      refine g_rng2 ?_
      walk_at "lw go"
      refine g_ixT (SqT.of (sG _ _ hp)) (v := .int z) (atI_nat (j := 1) (by rfl)) ?_
      walk_at "lw go"
      refine g_ixT (SqT.of (sG _ _ hp)) (v := .int z) (atI_nat (j := 1) (by rfl)) ?_
      walk_at "lw go"
      refine ⟨_, _, rfl, ⟨by omega, by omega, by omega, by omega⟩, ?_⟩
      rw [show (z + far + 1 - (z - far)).toNat = 2 * far + 1 by omega]
      refine for_range (fun j σ G => ∃ (o6 o7 : Option V), σ = [some (.int g), some (.int s), some (.ref p), some (.int far), some (.int (knotL g s x z)), some (.int (x - far + (i : Nat))), o6, o7] ∧ Same H G ∧ ∀ z', z - far ≤ z' → z' < z - far + (j : Nat) → ¬ Bt g s (x - far + (i : Nat)) z' x z) ⟨_, _, rfl, sG, fun z' h1 h2 => by omega⟩ ?_ ?_
      · rintro j σ G2 hj ⟨o6, o7, rfl, sG2, hn2⟩
        walk_at "lw go"
        refine ⟨g, s, _, _, rfl, ?_⟩
        walk_at "lw go"
        have no (hB : Bt g s (x - far + (i : Nat)) (z - far + (j : Nat)) x z) : bears g s far 0 x z = false := bears_no (by omega) (by omega) (by omega) (by omega) hB
        refine g_ite (fun c => ?_) (fun c => ?_)
        · walk_at "lw go"
          have e := no (.inl c)
          have := q G2 sG2
          rw [e] at this
          exact this
        · walk_at "lw go"
          have stay (hB : ¬ Bt g s (x - far + (i : Nat)) (z - far + (j : Nat)) x z) : ∀ z', z - far ≤ z' → z' < z - far + ((j + 1 : Nat) : Int) → ¬ Bt g s (x - far + (i : Nat)) z' x z := fun z' h1 h2 => by
            by_cases e : z' = z - far + (j : Nat)
            · rw [e]; exact hB
            · exact hn2 z' h1 (by omega)
          by_cases ce : knotL g s (x - far + (i : Nat)) (z - far + (j : Nat)) = knotL g s x z
          · refine iteS (by rw [ce]) ?_
            walk_at "lw go"
            refine ⟨by show 2 ≤ sizeLine; decide, fun t ht => ?_⟩
            have sT := same_new (o := .tup [.int (x - far + (i : Nat)), .int (z - far + (j : Nat))]) ht
            walk_at "lw go"
            refine ⟨t, p, (x - far + (i : Nat), z - far + (j : Nat)), (x, z), rfl, rfl, upd_same, sT _ _ (sG2 _ _ hp), ?_⟩
            walk_at "lw go"
            cases hl : Mn.ltP2 (x - far + (i : Nat), z - far + (j : Nat)) (x, z) with
            | true =>
              walk_at "lw go"
              have e := no (.inr ⟨ce.symm, by unfold Mn.ltP2 at hl; dsimp only at hl; split at hl <;> (have := of_decide_eq_true hl; omega)⟩)
              have := q _ (sG2.trans sT)
              rw [e] at this
              exact this
            | false =>
              walk_at "lw go"
              refine ⟨_, _, rfl, sG2.trans sT, stay fun hB => ?_⟩
              rcases hB with hB | ⟨_, hB⟩
              · exact c hB
              · unfold Mn.ltP2 at hl
                dsimp only at hl
                split at hl <;> (have := of_decide_eq_false hl; omega)
          · refine iteNo (fun e => ce (by injection e)) ?_
            walk_at "lw go"
            refine ⟨_, _, rfl, sG2, stay fun hB => ?_⟩
            rcases hB with hB | ⟨hB, _⟩
            · exact c hB
            · exact ce hB.symm
      · rintro σ G2 ⟨o6, o7, rfl, sG2, hn2⟩
        refine ⟨_, _, _, rfl, sG2, fun x' z' h1 h2 h3 h4 => ?_⟩
        by_cases e : x' = x - far + (i : Nat)
        · rw [e]; exact hn2 z' h3 (by omega)
        · exact hn x' z' h1 (by omega) h3 h4
    · rintro σ G ⟨o5, o6, o7, rfl, sG, hn⟩
      walk_at "lw go"
      have e : bears g s far 0 x z = true := bears_iff.mpr ⟨(knot_in g s x z).1, fun x' z' h1 h2 h3 h4 => hn x' z' h1 (by omega) h3 h4⟩
      have := q G sG
      rw [e] at this
      exact this
abbrev N_law_things : List Str := ["_law_grain", "_law_grit", "_law_area", "_law_reach", "_law_few", "_law_found", "_law_spot_here"]
theorem sc_law_things : FnScope N_law_things ["_law_grain", "_law_grit", "_law_area", "_law_reach", "_law_few"] (defScope s_law_things) := ⟨rfl, rfl, rfl, by decide +kernel, rfl, by decide +kernel, by decide +kernel⟩
theorem ok_law_things (F : FnP K "_law_things" s_law_things f fd) (T : Bi mg) (G : Kn w K mg) (D_law_points : Df P w K mg base "_law_points" ["_law_area"] 1 spPoints) (D_law_bears : Df P w K mg base "_law_bears" ["_law_grain", "_law_grit", "_law_spot_here", "_law_reach"] 2 spBears) (D_law_knot : Df P w K mg base "_law_knot" ["_law_grain", "_law_grit", "_law_i", "_law_j"] 1 spKnot) : FnOk P w K mg base CX0 3 f fd ["_law_grain", "_law_grit", "_law_area", "_law_reach", "_law_few"] spThingsL := by
  refine F.ok sc_law_things (fun vs H Q E h => ?_) (fun cdv A outer s H vs Q E hr h => ⟨_, PSs.nox
(pss_cons (ps_set (i := 5) sc_law_things.nd rfl (Or.inl rfl) (pe_lst pa_nil))
  (pss_cons (ps_for PassesOwn.never rfl (pi_list (pe_df D_law_points (hr.mono (by first | decide | omega)) (pa_cons (pv 2) pa_nil))) (pg_name (i := 6) sc_law_things.nd rfl (Or.inl rfl))
  (pss_one (ps_if (PW.pt (pw_and (pt_cmpR op_ge (pe_df D_law_knot (hr.mono (by first | decide | omega)) (pa_cons (pv 0) (pa_cons (pv 1) (pa_cons (pe_ix ix_tup (pv 6) pe_int (fun _ _ => rfl)) (pa_cons (pe_ix ix_tup (pv 6) pe_int (fun _ _ => rfl)) pa_nil))))) (pv 4) (nomark _)) (pw_and1 (pt_val (pe_df D_law_bears (hr.mono (by first | decide | omega)) (pa_cons (pv 0) (pa_cons (pv 1) (pa_cons (pv 6) (pa_cons (pv 3) pa_nil)))))))))
  (pss_one (ps_expr (pe_bm PySem.F.plainAttrs_list PySem.F.slot_list_append PySem.F.type_list_append mt_append (pv 5) (pa_cons (pv 6) pa_nil))))
  pss_nil)))
  (pss_one (ps_ret (pv 5))))), ?_⟩)
  · obtain ⟨g, s, few, p, far, x0, z0, x1, z1, w, d, rfl, _⟩ := h
    rfl
  · obtain ⟨g, s, few, p, far, x0, z0, x1, z1, w, d, rfl, hp, ob, hw, hd, w2, d2, f2, q⟩ := h
    walk_at "lw i0"
    have ob' := ob
    obtain ⟨⟨a1, a2, a3⟩, a4, a5, a6⟩ := ob'
    walk_at "lw go"
    refine ⟨Nat.zero_le _, fun L hL => ?_⟩
    have s1 := same_new (o := .lst []) hL
    have fL := @upd_same H L (.lst [])
    obtain ⟨H1, e1⟩ : ∃ G, upd H L (.lst []) = G := ⟨_, rfl⟩
    rw [e1] at s1 fL ⊢
    clear e1
    walk_at "lw go"
    refine ⟨p, x0, z0, x1, z1, w, d, rfl, s1 _ _ hp, ob, hw, hd, by omega, by omega, fun pl H2 hpl s2 hPl => ?_⟩
    obtain ⟨lp, fpl, hP⟩ := hPl
    have npl : pl ≠ L := fun e => by rw [e, fL] at hpl; cases hpl
    replace fL := s2 _ _ fL
    have sH := s1.trans s2
    have hll : lp.length ≤ 1024 := by
      rw [Paired.length hP, boxP_len]
      exact Nat.le_trans (Nat.mul_le_mul w2 d2) (by decide)
    walk_at "lw go"
    refine ⟨pl, rfl, ⟨_, SqL.of fpl⟩, for_list (xs := lp.map V.ref) (fun i σ G => ∃ (o6 : Option V) (acc : List Addr), σ = [some (.int g), some (.int s), some (.ref p), some (.int far), some (.int few), some (.ref L), o6] ∧ Same H G ∧ Tup H2 G ∧ G pl = some (.lst (lp.map V.ref)) ∧ G L = some (.lst (acc.map V.ref)) ∧ PtsR G acc (((boxP x0 z0 w d).take i).filter fun q => bears g s far few q.1 q.2)) ⟨_, [], rfl, sH, Tup.refl, fpl, fL, .nil⟩ (fun i σ G _ h => ?_) ?_ ?_⟩
    · obtain ⟨_, _, _, _, _, f, _⟩ := h
      exact SqL.of f
    · rintro i y σ G hy ⟨o6, acc, rfl, sG, tG, fplG, fLG, hA⟩
      rw [List.getElem?_map] at hy
      obtain ⟨l, hl, rfl⟩ := Option.map_eq_some_iff.mp hy
      obtain ⟨⟨x, z⟩, hq, hlq⟩ := PtsR.at_ hP hl
      have hlG : G l = some (.tup [.int x, .int z]) := tG _ _ hlq
      have hin := mem_boxP (List.mem_of_getElem? hq)
      have hil := (List.getElem?_eq_some_iff.mp hl).1
      have hal : acc.length ≤ 1024 := by
        rw [Paired.length hA]
        refine Nat.le_trans (List.length_filter_le _ _) ?_
        rw [List.length_take]
        omega
      have eb := bears_least (g := g) (s := s) (far := far) (few := few) (x := x) (z := z)
      walk_at "lw go"
      refine g_ixT (SqT.of hlG) (v := .int x) (atI_nat (j := 0) (by rfl)) ?_
      walk_at "lw go"
      refine g_ixT (SqT.of hlG) (v := .int z) (atI_nat (j := 1) (by rfl)) ?_
      walk_at "lw go"
      refine ⟨g, s, x, z, rfl, ?_⟩
      walk_at "lw go"
      refine g_ite (fun c => ?_) (fun c => ?_)
      · rw [decide_eq_true c, Bool.true_and] at eb
        walk_at "lw go"
        refine ⟨g, s, l, x, z, far, rfl, hlG, f2, by omega, by omega, by omega, by omega, fun G2 s2 => ?_⟩
        walk_at "lw go"
        cases hb : bears g s far 0 x z with
        | true =>
          rw [hb] at eb
          walk_at "lw go"
          refine ⟨tyL (s2 _ _ fLG), ?_⟩
          walk_at "lw go"
          refine g_append (s2 _ _ fLG) (by rw [List.length_map, sizeLine_eq]; omega) ?_
          have tp := tup_putL (o := .lst (acc.map V.ref ++ [.ref l])) (s2 _ _ fLG)
          refine ⟨_, acc ++ [l], rfl, same_put (sG.trans s2) hL, (tG.trans (same_tup s2)).trans tp, by rw [upd_ne npl]; exact s2 _ _ fplG, by rw [upd_same, List.map_append]; rfl, ?_⟩
          rw [List.take_add_one, List.filter_append, hq, show (Option.toList (some (x, z))).filter (fun q => bears g s far few q.1 q.2) = [(x, z)] by simp [eb]]
          exact PtsR.snoc (tp _ _ (s2 _ _ hlG)) (PtsR.tup tp (hA.same s2))
        | false =>
          rw [hb] at eb
          walk_at "lw go"
          refine ⟨_, acc, rfl, sG.trans s2, tG.trans (same_tup s2), s2 _ _ fplG, s2 _ _ fLG, ?_⟩
          rw [List.take_add_one, List.filter_append, hq, show (Option.toList (some (x, z))).filter (fun q => bears g s far few q.1 q.2) = [] by simp [eb], List.append_nil]
          exact hA.same s2
      · rw [decide_eq_false c, Bool.false_and] at eb
        walk_at "lw go"
        refine ⟨_, acc, rfl, sG, tG, fplG, fLG, ?_⟩
        rw [List.take_add_one, List.filter_append, hq, show (Option.toList (some (x, z))).filter (fun q => bears g s far few q.1 q.2) = [] by simp [eb], List.append_nil]
        exact hA
    · rintro σ G ⟨o6, acc, rfl, sG, tG, fplG, fLG, hA⟩
      rw [List.length_map, Paired.length hP, List.take_length, ← things_box] at hA
      walk_at "lw go"
      exact q L G hL sG ⟨acc, fLG, hA⟩
abbrev N_law_parts : List Str := ["_law_purse_here", "_law_area", "_law_at_here"]
theorem sc_law_parts : FnScope N_law_parts ["_law_purse_here", "_law_area"] (defScope s_law_parts) := ⟨rfl, rfl, rfl, by decide +kernel, rfl, by decide +kernel, by decide +kernel⟩
theorem ok_law_parts (F : FnP K "_law_parts" s_law_parts f fd) (T : Bi mg) (G : Kn w K mg) (D_law_draw : Df P w K mg base "_law_draw" ["_law_purse_here", "_law_out_of"] 2 spDraw) : FnOk P w K mg base CX0 3 f fd ["_law_purse_here", "_law_area"] spParts := by
  refine F.ok sc_law_parts (fun vs H Q E h => ?_) (fun cdv A outer s H vs Q E hr h => ⟨_, PSs.nox
(pss_cons (ps_if (pt_cmpR op_eq (pe_ix ix_tup (pv 1) pe_int (fun _ _ => rfl)) (pe_ix ix_tup (pv 1) pe_int (fun _ _ => rfl)) (nomark _))
  (pss_one (ps_ret (pe_lst (pa_cons (pv 1) pa_nil))))
  pss_nil)
  (pss_cons (ps_set (i := 2) sc_law_parts.nd rfl (Or.inl rfl) (pe_op op_add (pe_ix ix_tup (pv 1) pe_int (fun _ _ => rfl)) (pe_df D_law_draw (hr.mono (by first | decide | omega)) (pa_cons (pv 0) (pa_cons (pe_op op_sub (pe_ix ix_tup (pv 1) pe_int (fun _ _ => rfl)) (pe_ix ix_tup (pv 1) pe_int (fun _ _ => rfl))) pa_nil)))))
  (pss_one (ps_ret (pe_lst (pa_cons (pe_tup (pa_cons (pe_ix ix_tup (pv 1) pe_int (fun _ _ => rfl)) (pa_cons (pe_ix ix_tup (pv 1) pe_int (fun _ _ => rfl)) (pa_cons (pv 2) (pa_cons (pe_ix ix_tup (pv 1) pe_int (fun _ _ => rfl)) pa_nil))))) (pa_cons (pe_tup (pa_cons (pe_op op_add (pv 2) pe_int) (pa_cons (pe_ix ix_tup (pv 1) pe_int (fun _ _ => rfl)) (pa_cons (pe_ix ix_tup (pv 1) pe_int (fun _ _ => rfl)) (pa_cons (pe_ix ix_tup (pv 1) pe_int (fun _ _ => rfl)) pa_nil))))) pa_nil))))))), ?_⟩)
  · obtain ⟨p, ar, m, o, x0, z0, x1, z1, rfl, _⟩ := h
    rfl
  · obtain ⟨p, ar, m, o, x0, z0, x1, z1, rfl, hp, hP, hm, f_ar, ob, q⟩ := h
    walk_at "lw i0"
    obtain ⟨⟨a1, a2, a3⟩, a4, a5, a6⟩ := ob
    have Wd : Wp p H H m := ⟨Keep.refl, o, hp, hP⟩
    clear hp hP
    walk_at "lw go"
    refine g_ixT (SqT.of f_ar) (v := .int x0) (atI_nat (j := 0) (by rfl)) ?_
    walk_at "lw go"
    refine g_ixT (SqT.of f_ar) (v := .int x1) (atI_nat (j := 2) (by rfl)) ?_
    walk_at "lw go"
    by_cases c : x0 = x1
    · refine iteS (by rw [c]) ?_
      walk_at "lw go"
      refine ⟨by show 1 ≤ sizeLine; decide, fun r hr => ?_⟩
      have W4 := Wd.same (same_new (o := .lst [.ref ar]) hr)
      obtain ⟨o', k1, k2⟩ := W4.hp
      exact q r [ar] [(x0, z0, x1, z1)] _ ⟨W4.kp, o', k1, k2.mono (by omega)⟩ hr upd_same (.cons (same_new hr _ _ f_ar) .nil) (.inl ⟨c, rfl⟩)
    · refine iteNo (fun e => c (by injection e)) ?_
      walk_at "lw go"
      refine g_ixT (SqT.of f_ar) (v := .int x0) (atI_nat (j := 0) (by rfl)) ?_
      walk_at "lw go"
      refine g_ixT (SqT.of f_ar) (v := .int x1) (atI_nat (j := 2) (by rfl)) ?_
      walk_at "lw go"
      refine g_ixT (SqT.of f_ar) (v := .int x0) (atI_nat (j := 0) (by rfl)) ?_
      walk_at "lw go"
      obtain ⟨o0, hp0, hP0⟩ := Wd.hp
      refine ⟨p, _, _, o0, rfl, hp0, hP0, by omega, by omega, by omega, fun a o1 a0 a1 hP1 => ?_⟩
      have t0 := Wd.tup (o := o1)
      have k0 : Keep p H (upd H p o1) := Keep.refl.put
      replace Wd := Wd.draw hP1
      obtain ⟨H1, e1⟩ : ∃ G, upd H p o1 = G := ⟨_, rfl⟩
      rw [e1] at t0 k0 Wd ⊢
      clear e1 hp0 hP0 hP1 o0
      replace f_ar := t0 _ _ f_ar
      clear t0 k0
      walk_at "lw go"
      refine g_ixT (SqT.of f_ar) (v := .int x0) (atI_nat (j := 0) (by rfl)) ?_
      walk_at "lw go"
      refine g_ixT (SqT.of f_ar) (v := .int z0) (atI_nat (j := 1) (by rfl)) ?_
      walk_at "lw go"
      refine g_ixT (SqT.of f_ar) (v := .int z1) (atI_nat (j := 3) (by rfl)) ?_
      walk_at "lw go"
      refine ⟨by show 4 ≤ sizeLine; decide, fun t1 ht1 => ?_⟩
      have s0 := same_new (o := .tup [.int x0, .int z0, .int (x0 + a), .int z1]) ht1
      have f_t1 := @upd_same H1 t1 (.tup [.int x0, .int z0, .int (x0 + a), .int z1])
      obtain ⟨H2, e2⟩ : ∃ G, upd H1 t1 (.tup [.int x0, .int z0, .int (x0 + a), .int z1]) = G := ⟨_, rfl⟩
      rw [e2] at s0 f_t1 ⊢
      clear e2 ht1
      replace Wd := Wd.same s0
      replace f_ar := s0 _ _ f_ar
      clear s0
      walk_at "lw go"
      refine g_ixT (SqT.of f_ar) (v := .int z0) (atI_nat (j := 1) (by rfl)) ?_
      walk_at "lw go"
      refine g_ixT (SqT.of f_ar) (v := .int x1) (atI_nat (j := 2) (by rfl)) ?_
      walk_at "lw go"
      refine g_ixT (SqT.of f_ar) (v := .int z1) (atI_nat (j := 3) (by rfl)) ?_
      walk_at "lw go"
      refine ⟨by show 4 ≤ sizeLine; decide, fun t2 ht2 => ?_⟩
      have s0 := same_new (o := .tup [.int (x0 + a + 1), .int z0, .int x1, .int z1]) ht2
      have f_t2 := @upd_same H2 t2 (.tup [.int (x0 + a + 1), .int z0, .int x1, .int z1])
      obtain ⟨H3, e3⟩ : ∃ G, upd H2 t2 (.tup [.int (x0 + a + 1), .int z0, .int x1, .int z1]) = G := ⟨_, rfl⟩
      rw [e3] at s0 f_t2 ⊢
      clear e3 ht2
      replace Wd := Wd.same s0
      replace f_ar := s0 _ _ f_ar
      replace f_t1 := s0 _ _ f_t1
      clear s0
      walk_at "lw go"
      refine ⟨by show 2 ≤ sizeLine; decide, fun r hr => ?_⟩
      exact q r [t1, t2] [(x0, z0, x0 + a, z1), (x0 + a + 1, z0, x1, z1)] _ (Wd.same (same_new hr)) (Wd.nn hr) upd_same (.cons (same_new hr _ _ f_t1) (.cons (same_new hr _ _ f_t2) .nil)) (.inr ⟨x0 + a, by omega, by omega, rfl⟩)
abbrev N_law_apart : List Str := ["_law_some", "_law_reach", "_law_k", "_law_x", "_law_z"]
theorem sc_law_apart : FnScope N_law_apart ["_law_some", "_law_reach"] (defScope s_law_apart) := ⟨rfl, rfl, rfl, by decide +kernel, rfl, by decide +kernel, by decide +kernel⟩
theorem ok_law_apart (F : FnP K "_law_apart" s_law_apart f fd) (T : Bi mg) (G : Kn w K mg)  : FnOk P w K mg base CX0 1 f fd ["_law_some", "_law_reach"] spApart := by
  refine F.ok sc_law_apart (fun vs H Q E h => ?_) (fun cdv A outer s H vs Q E hr h => ⟨_, PSs.nox
(pss_cons (ps_for PassesOwn.never rfl (pi_range1 (by rfl) T.range (pa_cons (pe_callB call_len_seq (by rfl) T.len (by decide +kernel) (pa_cons (pv 0) pa_nil)) pa_nil)) (pg_name (i := 2) sc_law_apart.nd rfl (Or.inl rfl))
  (pss_one (ps_for PassesOwn.never rfl (pi_list (pe_slice sl_list (pv 0) po_none (po_some (pv 2)))) (pg_tup (by rfl) (pgs_cons (pg_name (i := 3) sc_law_apart.nd rfl (Or.inl rfl)) (pgs_cons (pg_name (i := 4) sc_law_apart.nd rfl (Or.inl rfl)) pgs_nil)))
  (pss_one (ps_if (pt_cmpR op_le (pe_callB (call_max2 rfl) (by rfl) T.max (by decide +kernel) (pa_cons (pe_callB call_abs (by rfl) T.abs (by decide +kernel) (pa_cons (pe_op op_sub (pv 3) (pe_ix ix_tup (pe_ix ix_list (pv 0) (pv 2) (fun _ _ => rfl)) pe_int (fun _ _ => rfl))) pa_nil)) (pa_cons (pe_callB call_abs (by rfl) T.abs (by decide +kernel) (pa_cons (pe_op op_sub (pv 4) (pe_ix ix_tup (pe_ix ix_list (pv 0) (pv 2) (fun _ _ => rfl)) pe_int (fun _ _ => rfl))) pa_nil)) pa_nil))) (pv 1) (nomark _))
  (pss_one (ps_ret pe_bl))
  pss_nil)))))
  (pss_one (ps_ret pe_bl))), ?_⟩)
  · obtain ⟨l, far, ps, rfl, _⟩ := h
    rfl
  · obtain ⟨l, far, ps, rfl, ⟨ls, hl, hP⟩, hps, hap, q⟩ := h
    walk_at "lw i0"
    have hlen : ls.length = ps.length := Paired.length hP
    walk_at "lw go"
    refine ⟨l, _, rfl, .inl (SqL.of hl), ?_⟩
    walk_at "lw go"
    refine ⟨_, rfl, by omega, by rw [List.length_map]; omega, for_range (fun i σ G => ∃ (o2 o3 o4 : Option V), σ = [some (.ref l), some (.int far), o2, o3, o4] ∧ Same H G) ⟨_, _, _, rfl, Same.refl H⟩ ?_ ?_⟩
    · rintro i σ G hi ⟨o2, o3, o4, rfl, sG⟩
      rw [List.length_map] at hi
      have hil : i < ls.length := by omega
      obtain ⟨⟨x1, z1⟩, hq1, hl1⟩ := PtsR.at_ hP (List.getElem?_eq_getElem hil)
      walk_at "lw go"
      refine ⟨l, _, rfl, SqL.of (sG _ _ hl), fun np hnp => ?_⟩
      rw [show (0 : Int) + (i : Nat) = (i : Nat) by omega, cut_take _ (by rw [List.length_map]; omega), ← List.map_take]
      have s3 := same_new (o := .lst ((ls.take i).map V.ref)) hnp
      have fnp := @upd_same G np (.lst ((ls.take i).map V.ref))
      obtain ⟨G3, e3⟩ : ∃ G3, upd G np (.lst ((ls.take i).map V.ref)) = G3 := ⟨_, rfl⟩
      rw [e3] at s3 fnp ⊢
      clear e3 hnp
      refine ⟨np, rfl, ⟨_, SqL.of fnp⟩, for_list (xs := (ls.take i).map V.ref) (fun j σ G => ∃ (o3 o4 : Option V), σ = [some (.ref l), some (.int far), some (.int (i : Nat)), o3, o4] ∧ Same G3 G) ⟨_, _, rfl, Same.refl G3⟩ (fun j σ G _ ⟨_, _, _, s⟩ => SqL.of (s _ _ fnp)) ?_ ?_⟩
      · rintro j y σ G4 hy ⟨o3, o4, rfl, s4⟩
        rw [List.getElem?_map] at hy
        obtain ⟨lj, hlj, rfl⟩ := Option.map_eq_some_iff.mp hy
        have hji : j < i := by
          have := (List.getElem?_eq_some_iff.mp hlj).1
          rw [List.length_take] at this
          omega
        rw [List.getElem?_take_of_lt hji] at hlj
        obtain ⟨⟨x2, z2⟩, hq2, hl2⟩ := PtsR.at_ hP hlj
        have sH := (sG.trans s3).trans s4
        walk_at "lw go"
        refine g_tupT (SqT.of (sH _ _ hl2)) rfl ?_
        walk_at "lw go"
        refine g_ixL (SqL.of (sH _ _ hl)) (v := .ref ls[i]) (atI_nat (by rw [List.getElem?_map, List.getElem?_eq_getElem hil]; rfl)) ?_
        walk_at "lw go"
        refine g_ixT (SqT.of (sH _ _ hl1)) (v := .int x1) (atI_nat (j := 0) (by rfl)) ?_
        walk_at "lw go"
        refine ⟨_, rfl, ?_⟩
        rw [abs_if]
        walk_at "lw go"
        refine g_ixL (SqL.of (sH _ _ hl)) (v := .ref ls[i]) (atI_nat (by rw [List.getElem?_map, List.getElem?_eq_getElem hil]; rfl)) ?_
        walk_at "lw go"
        refine g_ixT (SqT.of (sH _ _ hl1)) (v := .int z1) (atI_nat (j := 1) (by rfl)) ?_
        walk_at "lw go"
        refine ⟨_, rfl, ?_⟩
        rw [abs_if]
        walk_at "lw go"
        refine ⟨_, _, rfl, ?_⟩
        rw [max_if2]
        walk_at "lw go"
        refine iteNo (hap i j (x1, z1) (x2, z2) hji hq1 hq2) ?_
        walk_at "lw go"
        exact ⟨_, _, rfl, s4⟩
      · rintro σ G4 ⟨o3, o4, rfl, s4⟩
        exact ⟨_, _, _, rfl, (sG.trans s3).trans s4⟩
    · rintro σ G ⟨o2, o3, o4, rfl, sG⟩
      walk_at "lw go"
      exact q G sG
abbrev N_Memory___init__ : List Str := ["self", "bound"]
theorem sc_Memory___init__ : FnScope N_Memory___init__ ["self", "bound"] (defScope s_Memory___init__) := ⟨rfl, rfl, rfl, by decide +kernel, rfl, by decide +kernel, by decide +kernel⟩
theorem ok_Memory___init__ (F : FunD K "__init__" "Memory.__init__" (defArgs s_Memory___init__) (defBody s_Memory___init__) (defScope s_Memory___init__) [] [] f fd) (T : Bi mg) (G : Kn w K mg)  : FnOk P w K mg base CX0 1 f fd ["self", "bound"] (spMem K) := by
  refine F.ok sc_Memory___init__ (fun vs H Q E h => ?_) (fun cdv A outer s H vs Q E hr h => ⟨_, PSs.nox
(pss_cons (ps_fld (pv 0) (pv 1) rfl)
  (pss_one (ps_fld (pv 0) pe_dnewK rfl))), ?_⟩)
  · obtain ⟨a, dx, b, rfl, _⟩ := h
    rfl
  · obtain ⟨a, dx, b, rfl, ha, q⟩ := h
    walk_at "lw i0"
    walk_at "lw go"
    refine Lc.g_sfld ?_
    walk_at "lw go"
    refine ⟨a, _, dx, [], rfl, ha, G.cl_Memory, G.na_Memory_bound, by decide, ?_⟩
    rw [show putF "bound" (.int b) [] = [(("bound" : Str), V.int b)] from rfl]
    dsimp only
    refine Lc.g_sfld ?_
    refine fun d hd => ?_
    have nad : a ≠ d := ne_of_none upd_same hd
    walk_at "lw go"
    refine ⟨a, _, dx, [("bound", .int b)], rfl, by rw [upd_ne nad, upd_same], G.cl_Memory, G.na_Memory_held, by show 1 < 1000; decide, ?_⟩
    have k : Keep a H (upd (upd (upd H a (.ins (He.ga K "Memory") dx [("bound", .int b)])) d (.dK [])) a (.ins (He.ga K "Memory") dx [("bound", .int b), ("held", .ref d)])) := ((Keep.refl.put).new hd).put
    exact q _ k ⟨dx, d, upd_same, by rw [upd_ne nad.symm, upd_same]⟩
abbrev N_Land___init__ : List Str := ["self", "rules", "seed", "memory"]
theorem sc_Land___init__ : FnScope N_Land___init__ ["self", "rules", "seed", "memory"] (defScope s_Land___init__) := ⟨rfl, rfl, rfl, by decide +kernel, rfl, by decide +kernel, by decide +kernel⟩
theorem ok_Land___init__ (F : FunD K "__init__" "Land.__init__" (defArgs s_Land___init__) (defBody s_Land___init__) (defScope s_Land___init__) [] [("memory", .int (64))] f fd) (T : Bi mg) (G : Kn w K mg) (MK_Memory : Lc.MkC P w K mg base "Memory" ["self", "bound"] [] 1 (spMem K)) (D_steps_of : Df P w K mg base "steps_of" ["rules"] 62 spSteps) (D_is_from : Df P w K mg base "is_from" ["thing", "low", "high"] 1 spFrom) : FnOk P w K mg base CX0 63 f fd ["self", "rules", "seed", "memory"] (spLand K) := by
  refine F.ok sc_Land___init__ (fun vs H Q E h => ?_) (fun cdv A outer s H vs Q E hr h => ⟨_, PSs.nox
(pss_cons (ps_fld (pv 0) (pe_callTy call_tuple_of (by rfl) T.tuple (by decide +kernel) (pa_cons (pe_df D_steps_of (hr.mono (by first | decide | omega)) (pa_cons (pv 1) pa_nil)) pa_nil)) rfl)
  (pss_cons (ps_if (pt_not (pt_val (pe_df D_is_from (hr.mono (by first | decide | omega)) (pa_cons (pv 3) (pa_cons pe_int (pa_cons (pe_gI (by rfl) G.c_GREATEST_MEMORY) pa_nil))))))
  pss_never
  pss_nil)
  (pss_cons (ps_fld (pv 0) (pv 1) rfl)
  (pss_cons (ps_fld (pv 0) (pv 2) rfl)
  (pss_cons (ps_fld (pv 0) (pv 3) rfl)
  (pss_cons (ps_fld (pv 0) (pe_tup pa_nil) rfl)
  (pss_cons (ps_fld (pv 0) (pe_tup pa_nil) rfl)
  (pss_cons (ps_fld (pv 0) pe_int rfl)
  (pss_cons (ps_fld (pv 0) (pe_lst pa_nil) rfl)
  (pss_cons (ps_fld (pv 0) (pe_lst pa_nil) rfl)
  (pss_cons (ps_fld (pv 0) pe_dnewK rfl)
  (pss_cons (ps_fld (pv 0) (Lc.pe_mkC MK_Memory (hr.mono (by first | decide | omega)) (pa_cons (pv 3) pa_nil)) rfl)
  (pss_cons (ps_fld (pv 0) (Lc.pe_mkC MK_Memory (hr.mono (by first | decide | omega)) (pa_cons (pv 3) pa_nil)) rfl)
  (pss_one (ps_fld (pv 0) (Lc.pe_mkC MK_Memory (hr.mono (by first | decide | omega)) (pa_cons (pv 3) pa_nil)) rfl))))))))))))))), ?_⟩)
  · obtain ⟨a, dx, u, F0, s0, b, rfl, _⟩ := h
    rfl
  · obtain ⟨a, dx, u, F0, s0, b, rfl, ha, hF, hG, hb0, hb1, q⟩ := h
    walk_at "lw i0"
    have kk : Keep a H H := Keep.refl
    walk_at "lw go"
    refine Lc.g_sfld ?_
    walk_at "lw go"
    refine ⟨u, F0, rfl, hF, hG, fun l H1 ws nl s1 hl hS => ?_⟩
    have k1 : Keep a H H1 := fun c v _ h => s1 c v h
    have hA := ha
    replace hF := FRep.mono (keepA_tup k1 hA) hF
    clear hA
    replace ha := s1 _ _ ha
    replace kk := kk.trans k1
    walk_at "lw go"
    refine ⟨l, ws, rfl, .inl ⟨SqL.of hl, fun t ht => ?_⟩⟩
    have nt : t ≠ a := (ne_of_none ha ht).symm
    obtain ⟨H2, eH2⟩ : ∃ G, upd H1 t (.tup ws) = G := ⟨_, rfl⟩
    have k2 : Keep a H1 H2 := eH2 ▸ Keep.refl.new ht
    have hA := ha
    replace hF := FRep.mono (keepA_tup k2 hA) hF
    replace hS := StepsR.mono (keepA_tup k2 hA) hS
    clear hA
    replace ha := (eH2 ▸ same_new ht : Same H1 H2) _ _ ha
    have ft : H2 t = some (.tup ws) := eH2 ▸ upd_same
    rw [eH2]
    clear eH2 ht
    replace kk := kk.trans k2
    walk_at "lw go"
    refine ⟨a, _, dx, ([] : List (Str × V)), rfl, ha, G.cl_Land, G.na_Land__steps, by simp, ?_⟩
    rw [show putF "_steps" (.ref t) ([] : List (Str × V)) = ([("_steps", .ref t)] : List (Str × V)) from rfl]
    obtain ⟨H3, eH3⟩ : ∃ G, upd H2 a (.ins (He.ga K "Land") dx ([("_steps", .ref t)] : List (Str × V))) = G := ⟨_, rfl⟩
    have k3 : Keep a H2 H3 := eH3 ▸ Keep.refl.put
    have hA := ha
    replace hF := FRep.mono (keepA_tup k3 hA) hF
    replace hS := StepsR.mono (keepA_tup k3 hA) hS
    replace ft := k3 _ _ nt ft
    clear hA
    replace ha : H3 a = some (.ins (He.ga K "Land") dx ([("_steps", .ref t)] : List (Str × V))) := eH3 ▸ upd_same
    rw [eH3]
    clear eH3
    replace kk := kk.trans k3
    dsimp only
    walk_at "lw go"
    refine ⟨b, 0, 1000, rfl, hb0, hb1, ?_⟩
    walk_at "lw go"
    refine Lc.g_sfld ?_
    walk_at "lw go"
    refine ⟨a, _, dx, ([("_steps", .ref t)] : List (Str × V)), rfl, ha, G.cl_Land, G.na_Land__rules, by simp, ?_⟩
    rw [show putF "_rules" (u) ([("_steps", .ref t)] : List (Str × V)) = ([("_steps", .ref t), ("_rules", u)] : List (Str × V)) from rfl]
    obtain ⟨H4, eH4⟩ : ∃ G, upd H3 a (.ins (He.ga K "Land") dx ([("_steps", .ref t), ("_rules", u)] : List (Str × V))) = G := ⟨_, rfl⟩
    have k4 : Keep a H3 H4 := eH4 ▸ Keep.refl.put
    have hA := ha
    replace hF := FRep.mono (keepA_tup k4 hA) hF
    replace hS := StepsR.mono (keepA_tup k4 hA) hS
    replace ft := k4 _ _ nt ft
    clear hA
    replace ha : H4 a = some (.ins (He.ga K "Land") dx ([("_steps", .ref t), ("_rules", u)] : List (Str × V))) := eH4 ▸ upd_same
    rw [eH4]
    clear eH4
    replace kk := kk.trans k4
    dsimp only
    walk_at "lw go"
    refine Lc.g_sfld ?_
    walk_at "lw go"
    refine ⟨a, _, dx, ([("_steps", .ref t), ("_rules", u)] : List (Str × V)), rfl, ha, G.cl_Land, G.na_Land__seed, by simp, ?_⟩
    rw [show putF "_seed" (.int s0) ([("_steps", .ref t), ("_rules", u)] : List (Str × V)) = ([("_steps", .ref t), ("_rules", u), ("_seed", .int s0)] : List (Str × V)) from rfl]
    obtain ⟨H5, eH5⟩ : ∃ G, upd H4 a (.ins (He.ga K "Land") dx ([("_steps", .ref t), ("_rules", u), ("_seed", .int s0)] : List (Str × V))) = G := ⟨_, rfl⟩
    have k5 : Keep a H4 H5 := eH5 ▸ Keep.refl.put
    have hA := ha
    replace hF := FRep.mono (keepA_tup k5 hA) hF
    replace hS := StepsR.mono (keepA_tup k5 hA) hS
    replace ft := k5 _ _ nt ft
    clear hA
    replace ha : H5 a = some (.ins (He.ga K "Land") dx ([("_steps", .ref t), ("_rules", u), ("_seed", .int s0)] : List (Str × V))) := eH5 ▸ upd_same
    rw [eH5]
    clear eH5
    replace kk := kk.trans k5
    dsimp only
    walk_at "lw go"
    refine Lc.g_sfld ?_
    walk_at "lw go"
    refine ⟨a, _, dx, ([("_steps", .ref t), ("_rules", u), ("_seed", .int s0)] : List (Str × V)), rfl, ha, G.cl_Land, G.na_Land__bound, by simp, ?_⟩
    rw [show putF "_bound" (.int b) ([("_steps", .ref t), ("_rules", u), ("_seed", .int s0)] : List (Str × V)) = ([("_steps", .ref t), ("_rules", u), ("_seed", .int s0), ("_bound", .int b)] : List (Str × V)) from rfl]
    obtain ⟨H6, eH6⟩ : ∃ G, upd H5 a (.ins (He.ga K "Land") dx ([("_steps", .ref t), ("_rules", u), ("_seed", .int s0), ("_bound", .int b)] : List (Str × V))) = G := ⟨_, rfl⟩
    have k6 : Keep a H5 H6 := eH6 ▸ Keep.refl.put
    have hA := ha
    replace hF := FRep.mono (keepA_tup k6 hA) hF
    replace hS := StepsR.mono (keepA_tup k6 hA) hS
    replace ft := k6 _ _ nt ft
    clear hA
    replace ha : H6 a = some (.ins (He.ga K "Land") dx ([("_steps", .ref t), ("_rules", u), ("_seed", .int s0), ("_bound", .int b)] : List (Str × V))) := eH6 ▸ upd_same
    rw [eH6]
    clear eH6
    replace kk := kk.trans k6
    dsimp only
    walk_at "lw go"
    refine Lc.g_sfld ?_
    walk_at "lw go"
    refine ⟨by show 0 ≤ sizeLine; decide, fun e1 he1 => ?_⟩
    have ne1 : e1 ≠ a := (ne_of_none ha he1).symm
    obtain ⟨H7, eH7⟩ : ∃ G, upd H6 e1 (.tup []) = G := ⟨_, rfl⟩
    have k7 : Keep a H6 H7 := eH7 ▸ Keep.refl.new he1
    have hA := ha
    replace hF := FRep.mono (keepA_tup k7 hA) hF
    replace hS := StepsR.mono (keepA_tup k7 hA) hS
    replace ft := k7 _ _ nt ft
    clear hA
    replace ha := (eH7 ▸ same_new he1 : Same H6 H7) _ _ ha
    have fe1 : H7 e1 = some (.tup []) := eH7 ▸ upd_same
    rw [eH7]
    clear eH7 he1
    replace kk := kk.trans k7
    walk_at "lw go"
    refine ⟨a, _, dx, ([("_steps", .ref t), ("_rules", u), ("_seed", .int s0), ("_bound", .int b)] : List (Str × V)), rfl, ha, G.cl_Land, G.na_Land__standing, by simp, ?_⟩
    rw [show putF "_standing" (.ref e1) ([("_steps", .ref t), ("_rules", u), ("_seed", .int s0), ("_bound", .int b)] : List (Str × V)) = ([("_steps", .ref t), ("_rules", u), ("_seed", .int s0), ("_bound", .int b), ("_standing", .ref e1)] : List (Str × V)) from rfl]
    obtain ⟨H8, eH8⟩ : ∃ G, upd H7 a (.ins (He.ga K "Land") dx ([("_steps", .ref t), ("_rules", u), ("_seed", .int s0), ("_bound", .int b), ("_standing", .ref e1)] : List (Str × V))) = G := ⟨_, rfl⟩
    have k8 : Keep a H7 H8 := eH8 ▸ Keep.refl.put
    have hA := ha
    replace hF := FRep.mono (keepA_tup k8 hA) hF
    replace hS := StepsR.mono (keepA_tup k8 hA) hS
    replace ft := k8 _ _ nt ft
    replace fe1 := k8 _ _ ne1 fe1
    clear hA
    replace ha : H8 a = some (.ins (He.ga K "Land") dx ([("_steps", .ref t), ("_rules", u), ("_seed", .int s0), ("_bound", .int b), ("_standing", .ref e1)] : List (Str × V))) := eH8 ▸ upd_same
    rw [eH8]
    clear eH8
    replace kk := kk.trans k8
    dsimp only
    walk_at "lw go"
    refine Lc.g_sfld ?_
    walk_at "lw go"
    refine ⟨by show 0 ≤ sizeLine; decide, fun e2 he2 => ?_⟩
    have ne2 : e2 ≠ a := (ne_of_none ha he2).symm
    obtain ⟨H9, eH9⟩ : ∃ G, upd H8 e2 (.tup []) = G := ⟨_, rfl⟩
    have k9 : Keep a H8 H9 := eH9 ▸ Keep.refl.new he2
    have hA := ha
    replace hF := FRep.mono (keepA_tup k9 hA) hF
    replace hS := StepsR.mono (keepA_tup k9 hA) hS
    replace ft := k9 _ _ nt ft
    replace fe1 := k9 _ _ ne1 fe1
    clear hA
    replace ha := (eH9 ▸ same_new he2 : Same H8 H9) _ _ ha
    have fe2 : H9 e2 = some (.tup []) := eH9 ▸ upd_same
    rw [eH9]
    clear eH9 he2
    replace kk := kk.trans k9
    walk_at "lw go"
    refine ⟨a, _, dx, ([("_steps", .ref t), ("_rules", u), ("_seed", .int s0), ("_bound", .int b), ("_standing", .ref e1)] : List (Str × V)), rfl, ha, G.cl_Land, G.na_Land__layers, by simp, ?_⟩
    rw [show putF "_layers" (.ref e2) ([("_steps", .ref t), ("_rules", u), ("_seed", .int s0), ("_bound", .int b), ("_standing", .ref e1)] : List (Str × V)) = ([("_steps", .ref t), ("_rules", u), ("_seed", .int s0), ("_bound", .int b), ("_standing", .ref e1), ("_layers", .ref e2)] : List (Str × V)) from rfl]
    obtain ⟨H10, eH10⟩ : ∃ G, upd H9 a (.ins (He.ga K "Land") dx ([("_steps", .ref t), ("_rules", u), ("_seed", .int s0), ("_bound", .int b), ("_standing", .ref e1), ("_layers", .ref e2)] : List (Str × V))) = G := ⟨_, rfl⟩
    have k10 : Keep a H9 H10 := eH10 ▸ Keep.refl.put
    have hA := ha
    replace hF := FRep.mono (keepA_tup k10 hA) hF
    replace hS := StepsR.mono (keepA_tup k10 hA) hS
    replace ft := k10 _ _ nt ft
    replace fe1 := k10 _ _ ne1 fe1
    replace fe2 := k10 _ _ ne2 fe2
    clear hA
    replace ha : H10 a = some (.ins (He.ga K "Land") dx ([("_steps", .ref t), ("_rules", u), ("_seed", .int s0), ("_bound", .int b), ("_standing", .ref e1), ("_layers", .ref e2)] : List (Str × V))) := eH10 ▸ upd_same
    rw [eH10]
    clear eH10
    replace kk := kk.trans k10
    dsimp only
    walk_at "lw go"
    refine Lc.g_sfld ?_
    walk_at "lw go"
    refine ⟨a, _, dx, ([("_steps", .ref t), ("_rules", u), ("_seed", .int s0), ("_bound", .int b), ("_standing", .ref e1), ("_layers", .ref e2)] : List (Str × V)), rfl, ha, G.cl_Land, G.na_Land__next, by simp, ?_⟩
    rw [show putF "_next" (.int 1) ([("_steps", .ref t), ("_rules", u), ("_seed", .int s0), ("_bound", .int b), ("_standing", .ref e1), ("_layers", .ref e2)] : List (Str × V)) = ([("_steps", .ref t), ("_rules", u), ("_seed", .int s0), ("_bound", .int b), ("_standing", .ref e1), ("_layers", .ref e2), ("_next", .int 1)] : List (Str × V)) from rfl]
    obtain ⟨H11, eH11⟩ : ∃ G, upd H10 a (.ins (He.ga K "Land") dx ([("_steps", .ref t), ("_rules", u), ("_seed", .int s0), ("_bound", .int b), ("_standing", .ref e1), ("_layers", .ref e2), ("_next", .int 1)] : List (Str × V))) = G := ⟨_, rfl⟩
    have k11 : Keep a H10 H11 := eH11 ▸ Keep.refl.put
    have hA := ha
    replace hF := FRep.mono (keepA_tup k11 hA) hF
    replace hS := StepsR.mono (keepA_tup k11 hA) hS
    replace ft := k11 _ _ nt ft
    replace fe1 := k11 _ _ ne1 fe1
    replace fe2 := k11 _ _ ne2 fe2
    clear hA
    replace ha : H11 a = some (.ins (He.ga K "Land") dx ([("_steps", .ref t), ("_rules", u), ("_seed", .int s0), ("_bound", .int b), ("_standing", .ref e1), ("_layers", .ref e2), ("_next", .int 1)] : List (Str × V))) := eH11 ▸ upd_same
    rw [eH11]
    clear eH11
    replace kk := kk.trans k11
    dsimp only
    walk_at "lw go"
    refine Lc.g_sfld ?_
    walk_at "lw go"
    refine ⟨by show 0 ≤ sizeLine; decide, fun l1 hl1 => ?_⟩
    have nl1 : l1 ≠ a := (ne_of_none ha hl1).symm
    have xl1 : H l1 = none := Keep.fresh kk nl1 hl1
    obtain ⟨H12, eH12⟩ : ∃ G, upd H11 l1 (.lst []) = G := ⟨_, rfl⟩
    have k12 : Keep a H11 H12 := eH12 ▸ Keep.refl.new hl1
    have hA := ha
    replace hF := FRep.mono (keepA_tup k12 hA) hF
    replace hS := StepsR.mono (keepA_tup k12 hA) hS
    replace ft := k12 _ _ nt ft
    replace fe1 := k12 _ _ ne1 fe1
    replace fe2 := k12 _ _ ne2 fe2
    clear hA
    replace ha := (eH12 ▸ same_new hl1 : Same H11 H12) _ _ ha
    have fl1 : H12 l1 = some (.lst []) := eH12 ▸ upd_same
    rw [eH12]
    clear eH12 hl1
    replace kk := kk.trans k12
    walk_at "lw go"
    refine ⟨a, _, dx, ([("_steps", .ref t), ("_rules", u), ("_seed", .int s0), ("_bound", .int b), ("_standing", .ref e1), ("_layers", .ref e2), ("_next", .int 1)] : List (Str × V)), rfl, ha, G.cl_Land, G.na_Land__done, by simp, ?_⟩
    rw [show putF "_done" (.ref l1) ([("_steps", .ref t), ("_rules", u), ("_seed", .int s0), ("_bound", .int b), ("_standing", .ref e1), ("_layers", .ref e2), ("_next", .int 1)] : List (Str × V)) = ([("_steps", .ref t), ("_rules", u), ("_seed", .int s0), ("_bound", .int b), ("_standing", .ref e1), ("_layers", .ref e2), ("_next", .int 1), ("_done", .ref l1)] : List (Str × V)) from rfl]
    obtain ⟨H13, eH13⟩ : ∃ G, upd H12 a (.ins (He.ga K "Land") dx ([("_steps", .ref t), ("_rules", u), ("_seed", .int s0), ("_bound", .int b), ("_standing", .ref e1), ("_layers", .ref e2), ("_next", .int 1), ("_done", .ref l1)] : List (Str × V))) = G := ⟨_, rfl⟩
    have k13 : Keep a H12 H13 := eH13 ▸ Keep.refl.put
    have hA := ha
    replace hF := FRep.mono (keepA_tup k13 hA) hF
    replace hS := StepsR.mono (keepA_tup k13 hA) hS
    replace ft := k13 _ _ nt ft
    replace fe1 := k13 _ _ ne1 fe1
    replace fe2 := k13 _ _ ne2 fe2
    replace fl1 := k13 _ _ nl1 fl1
    clear hA
    replace ha : H13 a = some (.ins (He.ga K "Land") dx ([("_steps", .ref t), ("_rules", u), ("_seed", .int s0), ("_bound", .int b), ("_standing", .ref e1), ("_layers", .ref e2), ("_next", .int 1), ("_done", .ref l1)] : List (Str × V))) := eH13 ▸ upd_same
    rw [eH13]
    clear eH13
    replace kk := kk.trans k13
    dsimp only
    walk_at "lw go"
    refine Lc.g_sfld ?_
    walk_at "lw go"
    refine ⟨by show 0 ≤ sizeLine; decide, fun l2 hl2 => ?_⟩
    have nl2 : l2 ≠ a := (ne_of_none ha hl2).symm
    have x12 : l1 ≠ l2 := ne_of_none fl1 hl2
    have xl2 : H l2 = none := Keep.fresh kk nl2 hl2
    obtain ⟨H14, eH14⟩ : ∃ G, upd H13 l2 (.lst []) = G := ⟨_, rfl⟩
    have k14 : Keep a H13 H14 := eH14 ▸ Keep.refl.new hl2
    have hA := ha
    replace hF := FRep.mono (keepA_tup k14 hA) hF
    replace hS := StepsR.mono (keepA_tup k14 hA) hS
    replace ft := k14 _ _ nt ft
    replace fe1 := k14 _ _ ne1 fe1
    replace fe2 := k14 _ _ ne2 fe2
    replace fl1 := k14 _ _ nl1 fl1
    clear hA
    replace ha := (eH14 ▸ same_new hl2 : Same H13 H14) _ _ ha
    have fl2 : H14 l2 = some (.lst []) := eH14 ▸ upd_same
    rw [eH14]
    clear eH14 hl2
    replace kk := kk.trans k14
    walk_at "lw go"
    refine ⟨a, _, dx, ([("_steps", .ref t), ("_rules", u), ("_seed", .int s0), ("_bound", .int b), ("_standing", .ref e1), ("_layers", .ref e2), ("_next", .int 1), ("_done", .ref l1)] : List (Str × V)), rfl, ha, G.cl_Land, G.na_Land__undone, by simp, ?_⟩
    rw [show putF "_undone" (.ref l2) ([("_steps", .ref t), ("_rules", u), ("_seed", .int s0), ("_bound", .int b), ("_standing", .ref e1), ("_layers", .ref e2), ("_next", .int 1), ("_done", .ref l1)] : List (Str × V)) = ([("_steps", .ref t), ("_rules", u), ("_seed", .int s0), ("_bound", .int b), ("_standing", .ref e1), ("_layers", .ref e2), ("_next", .int 1), ("_done", .ref l1), ("_undone", .ref l2)] : List (Str × V)) from rfl]
    obtain ⟨H15, eH15⟩ : ∃ G, upd H14 a (.ins (He.ga K "Land") dx ([("_steps", .ref t), ("_rules", u), ("_seed", .int s0), ("_bound", .int b), ("_standing", .ref e1), ("_layers", .ref e2), ("_next", .int 1), ("_done", .ref l1), ("_undone", .ref l2)] : List (Str × V))) = G := ⟨_, rfl⟩
    have k15 : Keep a H14 H15 := eH15 ▸ Keep.refl.put
    have hA := ha
    replace hF := FRep.mono (keepA_tup k15 hA) hF
    replace hS := StepsR.mono (keepA_tup k15 hA) hS
    replace ft := k15 _ _ nt ft
    replace fe1 := k15 _ _ ne1 fe1
    replace fe2 := k15 _ _ ne2 fe2
    replace fl1 := k15 _ _ nl1 fl1
    replace fl2 := k15 _ _ nl2 fl2
    clear hA
    replace ha : H15 a = some (.ins (He.ga K "Land") dx ([("_steps", .ref t), ("_rules", u), ("_seed", .int s0), ("_bound", .int b), ("_standing", .ref e1), ("_layers", .ref e2), ("_next", .int 1), ("_done", .ref l1), ("_undone", .ref l2)] : List (Str × V))) := eH15 ▸ upd_same
    rw [eH15]
    clear eH15
    replace kk := kk.trans k15
    dsimp only
    walk_at "lw go"
    refine Lc.g_sfld ?_
    walk_at "lw go"
    refine fun dk hdk => ?_
    have ndk : dk ≠ a := (ne_of_none ha hdk).symm
    obtain ⟨H16, eH16⟩ : ∃ G, upd H15 dk (.dK []) = G := ⟨_, rfl⟩
    have k16 : Keep a H15 H16 := eH16 ▸ Keep.refl.new hdk
    have hA := ha
    replace hF := FRep.mono (keepA_tup k16 hA) hF
    replace hS := StepsR.mono (keepA_tup k16 hA) hS
    replace ft := k16 _ _ nt ft
    replace fe1 := k16 _ _ ne1 fe1
    replace fe2 := k16 _ _ ne2 fe2
    replace fl1 := k16 _ _ nl1 fl1
    replace fl2 := k16 _ _ nl2 fl2
    clear hA
    replace ha := (eH16 ▸ same_new hdk : Same H15 H16) _ _ ha
    have fdk : H16 dk = some (.dK []) := eH16 ▸ upd_same
    rw [eH16]
    clear eH16 hdk
    replace kk := kk.trans k16
    walk_at "lw go"
    refine ⟨a, _, dx, ([("_steps", .ref t), ("_rules", u), ("_seed", .int s0), ("_bound", .int b), ("_standing", .ref e1), ("_layers", .ref e2), ("_next", .int 1), ("_done", .ref l1), ("_undone", .ref l2)] : List (Str × V)), rfl, ha, G.cl_Land, G.na_Land__known, by simp, ?_⟩
    rw [show putF "_known" (.ref dk) ([("_steps", .ref t), ("_rules", u), ("_seed", .int s0), ("_bound", .int b), ("_standing", .ref e1), ("_layers", .ref e2), ("_next", .int 1), ("_done", .ref l1), ("_undone", .ref l2)] : List (Str × V)) = ([("_steps", .ref t), ("_rules", u), ("_seed", .int s0), ("_bound", .int b), ("_standing", .ref e1), ("_layers", .ref e2), ("_next", .int 1), ("_done", .ref l1), ("_undone", .ref l2), ("_known", .ref dk)] : List (Str × V)) from rfl]
    obtain ⟨H17, eH17⟩ : ∃ G, upd H16 a (.ins (He.ga K "Land") dx ([("_steps", .ref t), ("_rules", u), ("_seed", .int s0), ("_bound", .int b), ("_standing", .ref e1), ("_layers", .ref e2), ("_next", .int 1), ("_done", .ref l1), ("_undone", .ref l2), ("_known", .ref dk)] : List (Str × V))) = G := ⟨_, rfl⟩
    have k17 : Keep a H16 H17 := eH17 ▸ Keep.refl.put
    have hA := ha
    replace hF := FRep.mono (keepA_tup k17 hA) hF
    replace hS := StepsR.mono (keepA_tup k17 hA) hS
    replace ft := k17 _ _ nt ft
    replace fe1 := k17 _ _ ne1 fe1
    replace fe2 := k17 _ _ ne2 fe2
    replace fl1 := k17 _ _ nl1 fl1
    replace fl2 := k17 _ _ nl2 fl2
    replace fdk := k17 _ _ ndk fdk
    clear hA
    replace ha : H17 a = some (.ins (He.ga K "Land") dx ([("_steps", .ref t), ("_rules", u), ("_seed", .int s0), ("_bound", .int b), ("_standing", .ref e1), ("_layers", .ref e2), ("_next", .int 1), ("_done", .ref l1), ("_undone", .ref l2), ("_known", .ref dk)] : List (Str × V))) := eH17 ▸ upd_same
    rw [eH17]
    clear eH17
    replace kk := kk.trans k17
    dsimp only
    walk_at "lw go"
    refine Lc.g_sfld ?_
    walk_at "lw go"
    refine Lc.g_make ?_
    walk_at "lw go"
    refine fun m1 ym1 hm1 hy nxy => ?_
    refine ⟨m1, ym1, b, rfl, upd_same, fun H18 kM Mm1 => ⟨rfl, ?_⟩⟩
    have nm1 : m1 ≠ a := (ne_of_none ha hm1).symm
    have xm1 : H m1 = none := Keep.fresh kk nm1 hm1
    have sM : Same H17 H18 := fun c v h => kM c v (ne_of_none h hm1) (by rw [upd_ne (ne_of_none h hm1), upd_ne (ne_of_none h hy)]; exact h)
    clear kM hy nxy hm1
    have k18 : Keep a H17 H18 := fun c v _ h => sM c v h
    have hA := ha
    replace hF := FRep.mono (keepA_tup k18 hA) hF
    replace hS := StepsR.mono (keepA_tup k18 hA) hS
    replace ft := k18 _ _ nt ft
    replace fe1 := k18 _ _ ne1 fe1
    replace fe2 := k18 _ _ ne2 fe2
    replace fl1 := k18 _ _ nl1 fl1
    replace fl2 := k18 _ _ nl2 fl2
    replace fdk := k18 _ _ ndk fdk
    clear hA
    replace ha := sM _ _ ha
    clear sM
    replace kk := kk.trans k18
    walk_at "lw go"
    refine ⟨a, _, dx, ([("_steps", .ref t), ("_rules", u), ("_seed", .int s0), ("_bound", .int b), ("_standing", .ref e1), ("_layers", .ref e2), ("_next", .int 1), ("_done", .ref l1), ("_undone", .ref l2), ("_known", .ref dk)] : List (Str × V)), rfl, ha, G.cl_Land, G.na_Land__tiles, by simp, ?_⟩
    rw [show putF "_tiles" (.ref m1) ([("_steps", .ref t), ("_rules", u), ("_seed", .int s0), ("_bound", .int b), ("_standing", .ref e1), ("_layers", .ref e2), ("_next", .int 1), ("_done", .ref l1), ("_undone", .ref l2), ("_known", .ref dk)] : List (Str × V)) = ([("_steps", .ref t), ("_rules", u), ("_seed", .int s0), ("_bound", .int b), ("_standing", .ref e1), ("_layers", .ref e2), ("_next", .int 1), ("_done", .ref l1), ("_undone", .ref l2), ("_known", .ref dk), ("_tiles", .ref m1)] : List (Str × V)) from rfl]
    obtain ⟨H19, eH19⟩ : ∃ G, upd H18 a (.ins (He.ga K "Land") dx ([("_steps", .ref t), ("_rules", u), ("_seed", .int s0), ("_bound", .int b), ("_standing", .ref e1), ("_layers", .ref e2), ("_next", .int 1), ("_done", .ref l1), ("_undone", .ref l2), ("_known", .ref dk), ("_tiles", .ref m1)] : List (Str × V))) = G := ⟨_, rfl⟩
    have k19 : Keep a H18 H19 := eH19 ▸ Keep.refl.put
    have hA := ha
    replace hF := FRep.mono (keepA_tup k19 hA) hF
    replace hS := StepsR.mono (keepA_tup k19 hA) hS
    replace ft := k19 _ _ nt ft
    replace fe1 := k19 _ _ ne1 fe1
    replace fe2 := k19 _ _ ne2 fe2
    replace fl1 := k19 _ _ nl1 fl1
    replace fl2 := k19 _ _ nl2 fl2
    replace fdk := k19 _ _ ndk fdk
    replace Mm1 := Mem0.keep k19 hA nm1 Mm1
    clear hA
    replace ha : H19 a = some (.ins (He.ga K "Land") dx ([("_steps", .ref t), ("_rules", u), ("_seed", .int s0), ("_bound", .int b), ("_standing", .ref e1), ("_layers", .ref e2), ("_next", .int 1), ("_done", .ref l1), ("_undone", .ref l2), ("_known", .ref dk), ("_tiles", .ref m1)] : List (Str × V))) := eH19 ▸ upd_same
    rw [eH19]
    clear eH19
    replace kk := kk.trans k19
    dsimp only
    walk_at "lw go"
    refine Lc.g_sfld ?_
    walk_at "lw go"
    refine Lc.g_make ?_
    walk_at "lw go"
    refine fun m2 ym2 hm2 hy nxy => ?_
    refine ⟨m2, ym2, b, rfl, upd_same, fun H20 kM Mm2 => ⟨rfl, ?_⟩⟩
    have nm2 : m2 ≠ a := (ne_of_none ha hm2).symm
    have xm2 : H m2 = none := Keep.fresh kk nm2 hm2
    have sM : Same H19 H20 := fun c v h => kM c v (ne_of_none h hm2) (by rw [upd_ne (ne_of_none h hm2), upd_ne (ne_of_none h hy)]; exact h)
    clear kM hy nxy hm2
    have k20 : Keep a H19 H20 := fun c v _ h => sM c v h
    have hA := ha
    replace hF := FRep.mono (keepA_tup k20 hA) hF
    replace hS := StepsR.mono (keepA_tup k20 hA) hS
    replace ft := k20 _ _ nt ft
    replace fe1 := k20 _ _ ne1 fe1
    replace fe2 := k20 _ _ ne2 fe2
    replace fl1 := k20 _ _ nl1 fl1
    replace fl2 := k20 _ _ nl2 fl2
    replace fdk := k20 _ _ ndk fdk
    replace Mm1 := Mem0.keep k20 hA nm1 Mm1
    clear hA
    replace ha := sM _ _ ha
    clear sM
    replace kk := kk.trans k20
    walk_at "lw go"
    refine ⟨a, _, dx, ([("_steps", .ref t), ("_rules", u), ("_seed", .int s0), ("_bound", .int b), ("_standing", .ref e1), ("_layers", .ref e2), ("_next", .int 1), ("_done", .ref l1), ("_undone", .ref l2), ("_known", .ref dk), ("_tiles", .ref m1)] : List (Str × V)), rfl, ha, G.cl_Land, G.na_Land__squares, by simp, ?_⟩
    rw [show putF "_squares" (.ref m2) ([("_steps", .ref t), ("_rules", u), ("_seed", .int s0), ("_bound", .int b), ("_standing", .ref e1), ("_layers", .ref e2), ("_next", .int 1), ("_done", .ref l1), ("_undone", .ref l2), ("_known", .ref dk), ("_tiles", .ref m1)] : List (Str × V)) = ([("_steps", .ref t), ("_rules", u), ("_seed", .int s0), ("_bound", .int b), ("_standing", .ref e1), ("_layers", .ref e2), ("_next", .int 1), ("_done", .ref l1), ("_undone", .ref l2), ("_known", .ref dk), ("_tiles", .ref m1), ("_squares", .ref m2)] : List (Str × V)) from rfl]
    obtain ⟨H21, eH21⟩ : ∃ G, upd H20 a (.ins (He.ga K "Land") dx ([("_steps", .ref t), ("_rules", u), ("_seed", .int s0), ("_bound", .int b), ("_standing", .ref e1), ("_layers", .ref e2), ("_next", .int 1), ("_done", .ref l1), ("_undone", .ref l2), ("_known", .ref dk), ("_tiles", .ref m1), ("_squares", .ref m2)] : List (Str × V))) = G := ⟨_, rfl⟩
    have k21 : Keep a H20 H21 := eH21 ▸ Keep.refl.put
    have hA := ha
    replace hF := FRep.mono (keepA_tup k21 hA) hF
    replace hS := StepsR.mono (keepA_tup k21 hA) hS
    replace ft := k21 _ _ nt ft
    replace fe1 := k21 _ _ ne1 fe1
    replace fe2 := k21 _ _ ne2 fe2
    replace fl1 := k21 _ _ nl1 fl1
    replace fl2 := k21 _ _ nl2 fl2
    replace fdk := k21 _ _ ndk fdk
    replace Mm1 := Mem0.keep k21 hA nm1 Mm1
    replace Mm2 := Mem0.keep k21 hA nm2 Mm2
    clear hA
    replace ha : H21 a = some (.ins (He.ga K "Land") dx ([("_steps", .ref t), ("_rules", u), ("_seed", .int s0), ("_bound", .int b), ("_standing", .ref e1), ("_layers", .ref e2), ("_next", .int 1), ("_done", .ref l1), ("_undone", .ref l2), ("_known", .ref dk), ("_tiles", .ref m1), ("_squares", .ref m2)] : List (Str × V))) := eH21 ▸ upd_same
    rw [eH21]
    clear eH21
    replace kk := kk.trans k21
    dsimp only
    walk_at "lw go"
    refine Lc.g_sfld ?_
    walk_at "lw go"
    refine Lc.g_make ?_
    walk_at "lw go"
    refine fun m3 ym3 hm3 hy nxy => ?_
    refine ⟨m3, ym3, b, rfl, upd_same, fun H22 kM Mm3 => ⟨rfl, ?_⟩⟩
    have nm3 : m3 ≠ a := (ne_of_none ha hm3).symm
    have xm3 : H m3 = none := Keep.fresh kk nm3 hm3
    have sM : Same H21 H22 := fun c v h => kM c v (ne_of_none h hm3) (by rw [upd_ne (ne_of_none h hm3), upd_ne (ne_of_none h hy)]; exact h)
    clear kM hy nxy hm3
    have k22 : Keep a H21 H22 := fun c v _ h => sM c v h
    have hA := ha
    replace hF := FRep.mono (keepA_tup k22 hA) hF
    replace hS := StepsR.mono (keepA_tup k22 hA) hS
    replace ft := k22 _ _ nt ft
    replace fe1 := k22 _ _ ne1 fe1
    replace fe2 := k22 _ _ ne2 fe2
    replace fl1 := k22 _ _ nl1 fl1
    replace fl2 := k22 _ _ nl2 fl2
    replace fdk := k22 _ _ ndk fdk
    replace Mm1 := Mem0.keep k22 hA nm1 Mm1
    replace Mm2 := Mem0.keep k22 hA nm2 Mm2
    clear hA
    replace ha := sM _ _ ha
    clear sM
    replace kk := kk.trans k22
    walk_at "lw go"
    refine ⟨a, _, dx, ([("_steps", .ref t), ("_rules", u), ("_seed", .int s0), ("_bound", .int b), ("_standing", .ref e1), ("_layers", .ref e2), ("_next", .int 1), ("_done", .ref l1), ("_undone", .ref l2), ("_known", .ref dk), ("_tiles", .ref m1), ("_squares", .ref m2)] : List (Str × V)), rfl, ha, G.cl_Land, G.na_Land__tables, by simp, ?_⟩
    rw [show putF "_tables" (.ref m3) ([("_steps", .ref t), ("_rules", u), ("_seed", .int s0), ("_bound", .int b), ("_standing", .ref e1), ("_layers", .ref e2), ("_next", .int 1), ("_done", .ref l1), ("_undone", .ref l2), ("_known", .ref dk), ("_tiles", .ref m1), ("_squares", .ref m2)] : List (Str × V)) = ([("_steps", .ref t), ("_rules", u), ("_seed", .int s0), ("_bound", .int b), ("_standing", .ref e1), ("_layers", .ref e2), ("_next", .int 1), ("_done", .ref l1), ("_undone", .ref l2), ("_known", .ref dk), ("_tiles", .ref m1), ("_squares", .ref m2), ("_tables", .ref m3)] : List (Str × V)) from rfl]
    obtain ⟨H23, eH23⟩ : ∃ G, upd H22 a (.ins (He.ga K "Land") dx ([("_steps", .ref t), ("_rules", u), ("_seed", .int s0), ("_bound", .int b), ("_standing", .ref e1), ("_layers", .ref e2), ("_next", .int 1), ("_done", .ref l1), ("_undone", .ref l2), ("_known", .ref dk), ("_tiles", .ref m1), ("_squares", .ref m2), ("_tables", .ref m3)] : List (Str × V))) = G := ⟨_, rfl⟩
    have k23 : Keep a H22 H23 := eH23 ▸ Keep.refl.put
    have hA := ha
    replace hF := FRep.mono (keepA_tup k23 hA) hF
    replace hS := StepsR.mono (keepA_tup k23 hA) hS
    replace ft := k23 _ _ nt ft
    replace fe1 := k23 _ _ ne1 fe1
    replace fe2 := k23 _ _ ne2 fe2
    replace fl1 := k23 _ _ nl1 fl1
    replace fl2 := k23 _ _ nl2 fl2
    replace fdk := k23 _ _ ndk fdk
    replace Mm1 := Mem0.keep k23 hA nm1 Mm1
    replace Mm2 := Mem0.keep k23 hA nm2 Mm2
    replace Mm3 := Mem0.keep k23 hA nm3 Mm3
    clear hA
    replace ha : H23 a = some (.ins (He.ga K "Land") dx ([("_steps", .ref t), ("_rules", u), ("_seed", .int s0), ("_bound", .int b), ("_standing", .ref e1), ("_layers", .ref e2), ("_next", .int 1), ("_done", .ref l1), ("_undone", .ref l2), ("_known", .ref dk), ("_tiles", .ref m1), ("_squares", .ref m2), ("_tables", .ref m3)] : List (Str × V))) := eH23 ▸ upd_same
    rw [eH23]
    clear eH23
    replace kk := kk.trans k23
    dsimp only
    exact q t e1 e2 l1 l2 dk m1 m2 m3 ws _ kk ⟨xl1, xl2, xm1, xm2, xm3, x12⟩ ⟨ha, ft, hS, hF, fe1, fe2, fl1, fl2, fdk, Mm1, Mm2, Mm3⟩
abbrev N_Memory_forget : List Str := ["self", "boxes", "left", "key", "held"]
theorem sc_Memory_forget : FnScope N_Memory_forget ["self", "boxes"] (defScope s_Memory_forget) := ⟨rfl, rfl, rfl, by decide +kernel, rfl, by decide +kernel, by decide +kernel⟩
theorem ok_Memory_forget (F : FunD K "forget" "Memory.forget" (defArgs s_Memory_forget) (defBody s_Memory_forget) (defScope s_Memory_forget) [] [] f fd) (T : Bi mg) (G : Kn w K mg) (D_is_met : Df P w K mg base "is_met" ["box", "boxes"] 1 (spMet K)) : FnOk P w K mg base CX0 2 f fd ["self", "boxes"] (spForget K) := by
  refine F.ok sc_Memory_forget (fun vs H Q E h => ?_) (fun cdv A outer s H vs Q E hr h => ⟨_, PSs.nox
(pss_cons (ps_set (i := 2) sc_Memory_forget.nd rfl (Or.inl rfl) pe_dnewK)
  (pss_cons (ps_lock (ps_for PassesOwn.never rfl (pi_items (pe_fld (pv 0) rfl)) (pg_tup (by rfl) (pgs_cons (pg_name (i := 3) sc_Memory_forget.nd rfl (Or.inl rfl)) (pgs_cons (pg_name (i := 4) sc_Memory_forget.nd rfl (Or.inl rfl)) pgs_nil)))
  (pss_one (ps_if (pt_not (pt_val (pe_df D_is_met (hr.mono (by first | decide | omega)) (pa_cons (pe_ix ix_tup (pv 4) pe_int (fun _ _ => rfl)) (pa_cons (pv 1) pa_nil)))))
  (pss_one (ps_asg (pv 4) (pg_sub (pv 2) (pv 3) set_list)))
  pss_nil))))
  (pss_one (ps_fld (pv 0) (pv 2) rfl)))), ?_⟩)
  · obtain ⟨a, b, bs, rfl, _⟩ := h
    rfl
  · obtain ⟨a, b, bs, rfl, ⟨dx, d, ha, hd⟩, q⟩ := h
    walk_at "lw i0"
    walk_at "lw go"
    refine fun l hl => ?_
    walk_at "lw go"
    have s1 := same_new (o := .dK []) hl
    have hl1 := @upd_same H l (.dK [])
    have nal := ne_of_none ha hl
    have ndl := ne_of_none hd hl
    obtain ⟨H1, e1⟩ : ∃ G, upd H l (.dK []) = G := ⟨_, rfl⟩
    rw [e1] at s1 hl1 ⊢
    clear e1
    refine ⟨d, _, s1 _ _ hd, trivial, fun od => ?_⟩
    walk_at "lw go"
    refine g_items ?_
    refine Lc.g_fld ?_
    walk_at "lw go"
    have nda : a ≠ d := ne_of ha hd (by intro z; cases z)
    refine ⟨a, _, dx, _, .ref d, rfl, by rw [upd_ne nda]; exact s1 _ _ ha, G.cl_Memory, G.na_Memory_held, rfl, ?_⟩
    refine ⟨d, od, [], rfl, upd_same, ⟨fun i m σ' G => σ' = _ ∧ G = upd H1 d (.frz od (.dK [])), ⟨0, rfl, rfl⟩, fun i m σ' G h => .inl ?_⟩⟩
    obtain ⟨rfl, rfl⟩ := h
    refine ⟨⟨upd_same, Nat.zero_le _⟩, upd_same, ?_⟩
    rw [upd_back (s1 _ _ hd)]
    dsimp only
    refine Lc.g_sfld ?_
    walk_at "lw go"
    refine ⟨a, _, dx, _, rfl, s1 _ _ ha, G.cl_Memory, G.na_Memory_held, by show 2 < 1000; decide, ?_⟩
    rw [show putF "held" (.ref l) ([("bound", .int b), ("held", .ref d)] : List (Str × V)) = ([("bound", .int b), ("held", .ref l)] : List (Str × V)) from rfl]
    dsimp only
    exact q _ ((Keep.of_same s1).trans Keep.refl.put) ⟨dx, l, upd_same, by rw [upd_ne nal.symm]; exact hl1⟩
abbrev N_Land__stand : List Str := ["self", "standing", "boxes", "entry"]
theorem sc_Land__stand : FnScope N_Land__stand ["self", "standing"] (defScope s_Land__stand) := ⟨rfl, rfl, rfl, by decide +kernel, rfl, by decide +kernel, by decide +kernel⟩
theorem ok_Land__stand (F : FunD K "_stand" "Land._stand" (defArgs s_Land__stand) (defBody s_Land__stand) (defScope s_Land__stand) [] [] f fd) (T : Bi mg) (G : Kn w K mg) (D_touched_boxes : Df P w K mg base "touched_boxes" ["before", "behind"] 2 (spTouch K)) (ME_Memory_forget : Lc.MeC P w K mg base "Memory" "forget" ["self", "boxes"] 2 (spForget K)) : FnOk P w K mg base CX0 3 f fd ["self", "standing"] (spStand K) := by
  refine F.ok sc_Land__stand (fun vs H Q E h => ?_) (fun cdv A outer s H vs Q E hr h => ⟨_, PSs.nox
(pss_cons (ps_set (i := 2) sc_Land__stand.nd rfl (Or.inl rfl) (pe_df D_touched_boxes (hr.mono (by first | decide | omega)) (pa_cons (pe_fld (pv 0) rfl) (pa_cons (pv 1) pa_nil))))
  (pss_cons (ps_if (pt_truth (pv 2) (by intro _; rfl))
  (pss_cons (ps_expr (Lc.pe_meC ME_Memory_forget (pe_fld (pv 0) rfl) (hr.mono (by first | decide | omega)) (pa_cons (pv 2) pa_nil)))
  (pss_cons (ps_expr (Lc.pe_meC ME_Memory_forget (pe_fld (pv 0) rfl) (hr.mono (by first | decide | omega)) (pa_cons (pv 2) pa_nil)))
  (pss_one (ps_expr (Lc.pe_meC ME_Memory_forget (pe_fld (pv 0) rfl) (hr.mono (by first | decide | omega)) (pa_cons (pv 2) pa_nil))))))
  pss_nil)
  (pss_cons (ps_fld (pv 0) (pv 1) rfl)
  (pss_one (ps_fld (pv 0) (pe_callTy call_tuple_of (by rfl) T.tuple (by decide +kernel) (pa_cons (pe_lc (own := [("entry", 3)]) (g := gName 3) (tt := tYes) rfl sc_Land__stand.nd (pi_tup (pv 1)) (blkOk_by (N := N_Land__stand) (sc := defScope s_Land__stand) (by decide +kernel)) (fun _ _ _ _ _ => pg_name (i := 3) sc_Land__stand.nd rfl (by first | exact Or.inl rfl | exact Or.inr rfl)) (fun _ _ _ _ _ => pts_nil) (fun _ _ _ _ _ => (pe_ix (ix_tupK (K := K)) (pv 3) pe_int (fun _ _ => rfl)))) pa_nil)) rfl))))), ?_⟩)
  · obtain ⟨a, sn, dx, t, e1, e2, l1, l2, dk, m1, m2, m3, u, s, b, nx, es, ss, qs, rfl, _⟩ := h
    rfl
  · obtain ⟨a, sn, dx, t, e1, e2, l1, l2, dk, m1, m2, m3, u, s0, b, nx, es, ss, qs, rfl, md, he1, hes, hel, hsn, hss, hqk, hsl, q⟩ := h
    walk_at "lw i0"
    have k0 : Kp [a, m1, m2, m3] H H := fun _ _ _ h => h
    have t0 : Tup H H := Tup.refl
    walk_at "lw go"
    refine Lc.g_fld ?_
    walk_at "lw go"
    refine ⟨a, _, dx, _, .ref e1, rfl, md.own, G.cl_Land, G.na_Land__standing, rfl, ?_⟩
    walk_at "lw go"
    refine ⟨e1, sn, es, ss, rfl, SqT.of he1, SqT.of hsn, hes, hss.ent hqk, hel, hsl, fun r us H1 nr s1 hr => ?_⟩
    replace md := md.same s1
    replace k0 := k0.trans (Kp.of_same s1)
    replace t0 := t0.trans (same_tup s1)
    walk_at "lw go"
    cases us with
    | nil =>
      refine ⟨false, .inl ⟨[], SqL.of hr, rfl⟩, ?_⟩
      walk_at "lw go"
      refine Lc.g_sfld ?_
      walk_at "lw go"
      refine ⟨a, _, dx, _, rfl, md.own, G.cl_Land, G.na_Land__standing, by show 13 < 1000; decide, ?_⟩
      rw [show putF "_standing" (.ref sn) (lfs t u s0 b e1 e2 nx l1 l2 dk m1 m2 m3) = lfs t u s0 b sn e2 nx l1 l2 dk m1 m2 m3 from rfl]
      have md5 := md.put (fs' := lfs t u s0 b sn e2 nx l1 l2 dk m1 m2 m3)
      have k5 := k0.trans (Kp.of_keep (Keep.refl.put (p := a) (o := .ins (He.ga K "Land") dx (lfs t u s0 b sn e2 nx l1 l2 dk m1 m2 m3))) (by simp))
      have t5 := t0.trans (keepA_tup (Keep.refl.put (o := .ins (He.ga K "Land") dx (lfs t u s0 b sn e2 nx l1 l2 dk m1 m2 m3))) md.own)
      obtain ⟨H5, e5⟩ : ∃ G, upd H1 a (.ins (He.ga K "Land") dx (lfs t u s0 b sn e2 nx l1 l2 dk m1 m2 m3)) = G := ⟨_, rfl⟩
      rw [e5] at md5 k5 t5 ⊢
      clear e5 md k0 t0
      dsimp only
      refine Lc.g_sfld ?_
      walk_at "lw go"
      have hs5 := t5 _ _ hsn
      have hss5 := hss.mono t5
      refine ⟨sn, rfl, ⟨_, SqT.of hs5⟩, fun D hD => lc_tup (xs := ss) (fun i H' => ∃ acc, Same H5 H' ∧ H' D = some (.lst acc) ∧ LysR H' acc ((qs.map (·.2)).take i)) ⟨[], same_new hD, upd_same, .nil⟩ (fun i H' _ ⟨_, s, _⟩ => SqT.of (s _ _ hs5)) ?_ ?_⟩
      · rintro i y H' hy' ⟨acc, s, hD', hac⟩
        have hi := (List.getElem?_eq_some_iff.mp hy').1
        obtain ⟨p, hp, t1, e1', ly, bx, bl, rfl, f1, f2, f3⟩ := (hss5.mono (same_tup s)).at_ hy'
        have hlen : acc.length ≤ i := by
          rw [Paired.length hac, List.length_take]
          omega
        walk_at "lw go"
        refine ⟨rfl, g_yes ?_⟩
        walk_at "lw go"
        refine g_ixT (SqT.of f1) (v := .ref ly) (atI_nat (j := 2) (by rfl)) ?_
        have tt : Tup H' (upd H' D (.lst (acc ++ [.ref ly]))) := keep_tup Keep.refl.put hD'
        refine ⟨acc, hD', (by rw [sizeLine_eq]; omega), acc ++ [.ref ly], same_put s hD, upd_same, ?_⟩
        rw [List.take_add_one, List.getElem?_map, hp]
        exact (LysR.mono tt hac).snoc ⟨ly, bl, rfl, f3.mono tt⟩
      · rintro H6 ⟨acc, s, hD', hac⟩
        walk_at "lw go"
        refine ⟨D, acc, rfl, .inl ⟨SqL.of hD', fun e2' he2 => ?_⟩⟩
        have s7 := same_new (o := .tup acc) he2
        have f7 := @upd_same H6 e2' (.tup acc)
        obtain ⟨H7, e7⟩ : ∃ G, upd H6 e2' (.tup acc) = G := ⟨_, rfl⟩
        rw [e7] at s7 f7 ⊢
        clear e7
        have md7 := md5.same (s.trans s7)
        walk_at "lw go"
        refine ⟨a, _, dx, _, rfl, md7.own, G.cl_Land, G.na_Land__layers, by show 13 < 1000; decide, ?_⟩
        rw [show putF "_layers" (.ref e2') (lfs t u s0 b sn e2 nx l1 l2 dk m1 m2 m3) = lfs t u s0 b sn e2' nx l1 l2 dk m1 m2 m3 from rfl]
        dsimp only
        have t8 := keepA_tup (Keep.refl.put (o := .ins (He.ga K "Land") dx (lfs t u s0 b sn e2' nx l1 l2 dk m1 m2 m3))) md7.own
        rw [show (qs.map (·.2)).take ss.length = qs.map (·.2) by rw [Paired.length hss, ← List.length_map (f := (·.2)), List.take_length]] at hac
        exact q e2' acc _ ((k5.trans (Kp.of_same (s.trans s7))).trans (Kp.of_keep Keep.refl.put (by simp))) md7.put (t8 _ _ f7) (LysR.mono t8 (LysR.mono (same_tup s7) hac))
    | cons u1 us =>
      refine ⟨true, .inl ⟨u1 :: us, SqL.of hr, rfl⟩, ?_⟩
      walk_at "lw go"
      refine Lc.g_meth ?_
      refine Lc.g_fld ?_
      walk_at "lw go"
      refine ⟨a, _, dx, _, .ref m1, rfl, md.own, G.cl_Land, G.na_Land__tiles, rfl, ?_⟩
      obtain ⟨xm, d, hm, _⟩ := id md.i1
      refine ⟨m1, xm, _, rfl, hm, rfl, ?_⟩
      clear hm
      walk_at "lw go"
      refine ⟨m1, b, _, rfl, md.i1, fun H2 k hm => ?_⟩
      replace k0 := k0.trans (Kp.of_keep k (by simp))
      replace t0 := t0.trans (md.i1.tup k)
      replace md := md.forget md.n1 k md.i1 hm
      clear k hm
      walk_at "lw go"
      refine Lc.g_meth ?_
      refine Lc.g_fld ?_
      walk_at "lw go"
      refine ⟨a, _, dx, _, .ref m2, rfl, md.own, G.cl_Land, G.na_Land__squares, rfl, ?_⟩
      obtain ⟨xm, d, hm, _⟩ := id md.i2
      refine ⟨m2, xm, _, rfl, hm, rfl, ?_⟩
      clear hm
      walk_at "lw go"
      refine ⟨m2, b, _, rfl, md.i2, fun H3 k hm => ?_⟩
      replace k0 := k0.trans (Kp.of_keep k (by simp))
      replace t0 := t0.trans (md.i2.tup k)
      replace md := md.forget md.n2 k md.i2 hm
      clear k hm
      walk_at "lw go"
      refine Lc.g_meth ?_
      refine Lc.g_fld ?_
      walk_at "lw go"
      refine ⟨a, _, dx, _, .ref m3, rfl, md.own, G.cl_Land, G.na_Land__tables, rfl, ?_⟩
      obtain ⟨xm, d, hm, _⟩ := id md.i3
      refine ⟨m3, xm, _, rfl, hm, rfl, ?_⟩
      clear hm
      walk_at "lw go"
      refine ⟨m3, b, _, rfl, md.i3, fun H4 k hm => ?_⟩
      replace k0 := k0.trans (Kp.of_keep k (by simp))
      replace t0 := t0.trans (md.i3.tup k)
      replace md := md.forget md.n3 k md.i3 hm
      clear k hm
      walk_at "lw go"
      refine Lc.g_sfld ?_
      walk_at "lw go"
      refine ⟨a, _, dx, _, rfl, md.own, G.cl_Land, G.na_Land__standing, by show 13 < 1000; decide, ?_⟩
      rw [show putF "_standing" (.ref sn) (lfs t u s0 b e1 e2 nx l1 l2 dk m1 m2 m3) = lfs t u s0 b sn e2 nx l1 l2 dk m1 m2 m3 from rfl]
      have md5 := md.put (fs' := lfs t u s0 b sn e2 nx l1 l2 dk m1 m2 m3)
      have k5 := k0.trans (Kp.of_keep (Keep.refl.put (p := a) (o := .ins (He.ga K "Land") dx (lfs t u s0 b sn e2 nx l1 l2 dk m1 m2 m3))) (by simp))
      have t5 := t0.trans (keepA_tup (Keep.refl.put (o := .ins (He.ga K "Land") dx (lfs t u s0 b sn e2 nx l1 l2 dk m1 m2 m3))) md.own)
      obtain ⟨H5, e5⟩ : ∃ G, upd H4 a (.ins (He.ga K "Land") dx (lfs t u s0 b sn e2 nx l1 l2 dk m1 m2 m3)) = G := ⟨_, rfl⟩
      rw [e5] at md5 k5 t5 ⊢
      clear e5 md k0 t0
      dsimp only
      refine Lc.g_sfld ?_
      walk_at "lw go"
      have hs5 := t5 _ _ hsn
      have hss5 := hss.mono t5
      refine ⟨sn, rfl, ⟨_, SqT.of hs5⟩, fun D hD => lc_tup (xs := ss) (fun i H' => ∃ acc, Same H5 H' ∧ H' D = some (.lst acc) ∧ LysR H' acc ((qs.map (·.2)).take i)) ⟨[], same_new hD, upd_same, .nil⟩ (fun i H' _ ⟨_, s, _⟩ => SqT.of (s _ _ hs5)) ?_ ?_⟩
      · rintro i y H' hy' ⟨acc, s, hD', hac⟩
        have hi := (List.getElem?_eq_some_iff.mp hy').1
        obtain ⟨p, hp, t1, e1', ly, bx, bl, rfl, f1, f2, f3⟩ := (hss5.mono (same_tup s)).at_ hy'
        have hlen : acc.length ≤ i := by
          rw [Paired.length hac, List.length_take]
          omega
        walk_at "lw go"
        refine ⟨rfl, g_yes ?_⟩
        walk_at "lw go"
        refine g_ixT (SqT.of f1) (v := .ref ly) (atI_nat (j := 2) (by rfl)) ?_
        have tt : Tup H' (upd H' D (.lst (acc ++ [.ref ly]))) := keep_tup Keep.refl.put hD'
        refine ⟨acc, hD', (by rw [sizeLine_eq]; omega), acc ++ [.ref ly], same_put s hD, upd_same, ?_⟩
        rw [List.take_add_one, List.getElem?_map, hp]
        exact (LysR.mono tt hac).snoc ⟨ly, bl, rfl, f3.mono tt⟩
      · rintro H6 ⟨acc, s, hD', hac⟩
        walk_at "lw go"
        refine ⟨D, acc, rfl, .inl ⟨SqL.of hD', fun e2' he2 => ?_⟩⟩
        have s7 := same_new (o := .tup acc) he2
        have f7 := @upd_same H6 e2' (.tup acc)
        obtain ⟨H7, e7⟩ : ∃ G, upd H6 e2' (.tup acc) = G := ⟨_, rfl⟩
        rw [e7] at s7 f7 ⊢
        clear e7
        have md7 := md5.same (s.trans s7)
        walk_at "lw go"
        refine ⟨a, _, dx, _, rfl, md7.own, G.cl_Land, G.na_Land__layers, by show 13 < 1000; decide, ?_⟩
        rw [show putF "_layers" (.ref e2') (lfs t u s0 b sn e2 nx l1 l2 dk m1 m2 m3) = lfs t u s0 b sn e2' nx l1 l2 dk m1 m2 m3 from rfl]
        dsimp only
        have t8 := keepA_tup (Keep.refl.put (o := .ins (He.ga K "Land") dx (lfs t u s0 b sn e2' nx l1 l2 dk m1 m2 m3))) md7.own
        rw [show (qs.map (·.2)).take ss.length = qs.map (·.2) by rw [Paired.length hss, ← List.length_map (f := (·.2)), List.take_length]] at hac
        exact q e2' acc _ ((k5.trans (Kp.of_same (s.trans s7))).trans (Kp.of_keep Keep.refl.put (by simp))) md7.put (t8 _ _ f7) (LysR.mono t8 (LysR.mono (same_tup s7) hac))
abbrev N_Land__do : List Str := ["self", "standing", "number"]
theorem sc_Land__do : FnScope N_Land__do ["self", "standing", "number"] (defScope s_Land__do) := ⟨rfl, rfl, rfl, by decide +kernel, rfl, by decide +kernel, by decide +kernel⟩
theorem ok_Land__do (F : FunD K "_do" "Land._do" (defArgs s_Land__do) (defBody s_Land__do) (defScope s_Land__do) [] [] f fd) (T : Bi mg) (G : Kn w K mg) (ME_Land__stand : Lc.MeC P w K mg base "Land" "_stand" ["self", "standing"] 3 (spStand K)) : FnOk P w K mg base CX0 4 f fd ["self", "standing", "number"] (spDo K) := by
  refine F.ok sc_Land__do (fun vs H Q E h => ?_) (fun cdv A outer s H vs Q E hr h => ⟨_, PSs.nox
(pss_cons (ps_expr (pe_bm PySem.F.plainAttrs_list PySem.F.slot_list_append PySem.F.type_list_append mt_append (pe_fld (pv 0) rfl) (pa_cons (pe_tup (pa_cons (pe_fld (pv 0) rfl) (pa_cons (pv 1) pa_nil))) pa_nil)))
  (pss_cons (ps_fld (pv 0) (pe_lst pa_nil) rfl)
  (pss_cons (ps_fld (pv 0) (pv 2) rfl)
  (pss_one (ps_expr (Lc.pe_meC ME_Land__stand (pv 0) (hr.mono (by first | decide | omega)) (pa_cons (pv 1) pa_nil))))))), ?_⟩)
  · obtain ⟨a, sn, dx, t, e1, e2, l1, l2, dk, m1, m2, m3, u, s, b, nx, n, es, ss, ds, qs, rfl, _⟩ := h
    rfl
  · obtain ⟨a, sn, dx, t, e1, e2, l1, l2, dk, m1, m2, m3, u, s0, b, nx, n, es, ss, ds, qs, rfl, md, he1, hes, hel, hsn, hss, hqk, hsl, hl1, hdl, q⟩ := h
    walk_at "lw i0"
    walk_at "lw go"
    refine Lc.g_fld ?_
    walk_at "lw go"
    refine ⟨a, _, dx, _, .ref l1, rfl, md.own, G.cl_Land, G.na_Land__done, rfl, ?_⟩
    refine ⟨tyL hl1, ?_⟩
    walk_at "lw go"
    refine Lc.g_fld ?_
    walk_at "lw go"
    refine ⟨a, _, dx, _, .ref e1, rfl, md.own, G.cl_Land, G.na_Land__standing, rfl, ?_⟩
    walk_at "lw go"
    refine ⟨by show 2 ≤ sizeLine; decide, fun tp htp => ?_⟩
    have s1 := same_new (o := .tup [.ref e1, .ref sn]) htp
    have ftp := @upd_same H tp (.tup [.ref e1, .ref sn])
    obtain ⟨H1, e1'⟩ : ∃ G, upd H tp (.tup [.ref e1, .ref sn]) = G := ⟨_, rfl⟩
    rw [e1'] at s1 ftp ⊢
    clear e1' htp
    walk_at "lw go"
    refine g_append (s1 _ _ hl1) (by rw [sizeLine_eq]; omega) ?_
    have k2 : Keep l1 H1 (upd H1 l1 (.lst (ds ++ [.ref tp]))) := Keep.refl.put
    have t2 := (same_tup s1).trans (keep_tup k2 (s1 _ _ hl1))
    have md2 := (md.same s1).keep (s1 _ _ hl1) k2
    have hl2 := @upd_same H1 l1 (.lst (ds ++ [.ref tp]))
    have kk : Kp [l1, a, m1, m2, m3] H (upd H1 l1 (.lst (ds ++ [.ref tp]))) := (Kp.of_same s1).trans (Kp.of_keep k2 (by simp))
    replace ftp := keep_tup k2 (s1 _ _ hl1) _ _ ftp
    obtain ⟨H2, e2'⟩ : ∃ G, upd H1 l1 (.lst (ds ++ [.ref tp])) = G := ⟨_, rfl⟩
    rw [e2'] at k2 t2 md2 hl2 kk ftp ⊢
    clear e2' k2 s1
    walk_at "lw go"
    refine Lc.g_sfld ?_
    walk_at "lw go"
    refine ⟨by show 0 ≤ sizeLine; decide, fun l2' hn2 => ?_⟩
    have s3 := same_new (o := .lst []) hn2
    have fl2 := @upd_same H2 l2' (.lst [])
    have xl2 : H l2' = none := by
      cases e : H l2' with
      | none => rfl
      | some o =>
        by_cases c : l2' ∈ [l1, a, m1, m2, m3]
        · exfalso
          have z : l2' = l1 ∨ l2' ∈ [a, m1, m2, m3] := by simpa using c
          rcases z with z | z
          · rw [z, hl2] at hn2; cases hn2
          · have hex : ∃ o, H2 l2' = some o := by
              have z' : l2' = a ∨ l2' = m1 ∨ l2' = m2 ∨ l2' = m3 := by simpa using z
              obtain ⟨_, _, g1, _⟩ := md2.i1
              obtain ⟨_, _, g2, _⟩ := md2.i2
              obtain ⟨_, _, g3, _⟩ := md2.i3
              rcases z' with z' | z' | z' | z'
              · exact ⟨_, z' ▸ md2.own⟩
              · exact ⟨_, z' ▸ g1⟩
              · exact ⟨_, z' ▸ g2⟩
              · exact ⟨_, z' ▸ g3⟩
            obtain ⟨o, ho⟩ := hex
            rw [ho] at hn2; cases hn2
        · rw [kk _ _ c e] at hn2; cases hn2
    have md3 := md2.same s3
    obtain ⟨H3, e3⟩ : ∃ G, upd H2 l2' (.lst []) = G := ⟨_, rfl⟩
    rw [e3] at s3 fl2 md3 ⊢
    clear e3 hn2
    walk_at "lw go"
    refine ⟨a, _, dx, _, rfl, md3.own, G.cl_Land, G.na_Land__undone, by show 13 < 1000; decide, ?_⟩
    rw [show putF "_undone" (.ref l2') (lfs t u s0 b e1 e2 nx l1 l2 dk m1 m2 m3) = lfs t u s0 b e1 e2 nx l1 l2' dk m1 m2 m3 from rfl]
    have md4 := md3.put (fs' := lfs t u s0 b e1 e2 nx l1 l2' dk m1 m2 m3)
    have k4 : Keep a H3 (upd H3 a (.ins (He.ga K "Land") dx (lfs t u s0 b e1 e2 nx l1 l2' dk m1 m2 m3))) := Keep.refl.put
    have t4 := keepA_tup k4 md3.own
    obtain ⟨H4, e4⟩ : ∃ G, upd H3 a (.ins (He.ga K "Land") dx (lfs t u s0 b e1 e2 nx l1 l2' dk m1 m2 m3)) = G := ⟨_, rfl⟩
    rw [e4] at md4 k4 t4 ⊢
    clear e4
    dsimp only
    walk_at "lw go"
    refine Lc.g_sfld ?_
    walk_at "lw go"
    refine ⟨a, _, dx, _, rfl, md4.own, G.cl_Land, G.na_Land__next, by show 13 < 1000; decide, ?_⟩
    rw [show putF "_next" (.int n) (lfs t u s0 b e1 e2 nx l1 l2' dk m1 m2 m3) = lfs t u s0 b e1 e2 n l1 l2' dk m1 m2 m3 from rfl]
    have md5 := md4.put (fs' := lfs t u s0 b e1 e2 n l1 l2' dk m1 m2 m3)
    have k5 : Keep a H4 (upd H4 a (.ins (He.ga K "Land") dx (lfs t u s0 b e1 e2 n l1 l2' dk m1 m2 m3))) := Keep.refl.put
    have t5 := keepA_tup k5 md4.own
    obtain ⟨H5, e5⟩ : ∃ G, upd H4 a (.ins (He.ga K "Land") dx (lfs t u s0 b e1 e2 n l1 l2' dk m1 m2 m3)) = G := ⟨_, rfl⟩
    rw [e5] at md5 k5 t5 ⊢
    clear e5
    dsimp only
    have na1 : l1 ≠ a := (ne_of md2.own hl2 (by intro z; cases z)).symm
    have na2 : l2' ≠ a := (ne_of md3.own fl2 (by intro z; cases z)).symm
    have k25 : Keep a H2 H5 := (fun c v n h => k5 c v n (k4 c v n (s3 c v h)))
    have k15 := kk.trans (Kp.of_keep k25 (by simp))
    have t15 := t2.trans (((same_tup s3).trans t4).trans t5)
    have hl5 := k25 _ _ na1 hl2
    have fl5 := k5 _ _ na2 (k4 _ _ na2 fl2)
    have ftp5 := (((same_tup s3).trans t4).trans t5) _ _ ftp
    clear kk t2 s3 k4 k5 t4 t5 k25 fl2 hl2 md2 md3 md4 ftp
    walk_at "lw go"
    refine Lc.g_meth ?_
    walk_at "lw go"
    refine ⟨a, dx, _, rfl, md5.own, rfl, ?_⟩
    walk_at "lw go"
    refine ⟨a, sn, dx, t, e1, e2, l1, l2', dk, m1, m2, m3, u, s0, b, n, es, ss, qs, rfl, md5, t15 _ _ he1, ?_, hel, t15 _ _ hsn, hss.mono t15, hqk, hsl, fun e2' ls H6 k6 md6 he6 hly => ?_⟩
    · intro v hv
      exact (hes v hv).mono t15
    have t6 := md5.tup k6
    walk_at "lw go"
    exact q tp l2' e2' ls H6 (k15.trans (k6.mono (by intro c hc; exact List.mem_cons_of_mem _ hc))) (t15.trans t6) xl2 (k6 _ _ (md5.not hl5 (by intro C x fs z; cases z)) hl5) (t6 _ _ ftp5) (k6 _ _ (md5.not fl5 (by intro C x fs z; cases z)) fl5) md6 he6 hly
abbrev N_Land_edit : List Str := ["self", "edit", "number"]
theorem sc_Land_edit : FnScope N_Land_edit ["self", "edit"] (defScope s_Land_edit) := ⟨rfl, rfl, rfl, by decide +kernel, rfl, by decide +kernel, by decide +kernel⟩
theorem ok_Land_edit (F : FunD K "edit" "Land.edit" (defArgs s_Land_edit) (defBody s_Land_edit) (defScope s_Land_edit) [] [] f fd) (T : Bi mg) (G : Kn w K mg) (ME_Land__do : Lc.MeC P w K mg base "Land" "_do" ["self", "standing", "number"] 4 (spDo K)) (D_with_edit : Df P w K mg base "with_edit" ["standing", "number", "edit"] 64 (spWith K)) : FnOk P w K mg base CX0 65 f fd ["self", "edit"] (spEdit K) := by
  refine F.ok sc_Land_edit (fun vs H Q E h => ?_) (fun cdv A outer s H vs Q E hr h => ⟨_, PSs.nox
(pss_cons (ps_set (i := 2) sc_Land_edit.nd rfl (Or.inl rfl) (pe_fld (pv 0) rfl))
  (pss_cons (ps_expr (Lc.pe_meC ME_Land__do (pv 0) (hr.mono (by first | decide | omega)) (pa_cons (pe_df D_with_edit (hr.mono (by first | decide | omega)) (pa_cons (pe_fld (pv 0) rfl) (pa_cons (pv 2) (pa_cons (pv 1) pa_nil)))) (pa_cons (pe_op op_add (pv 2) pe_int) pa_nil))))
  (pss_one (ps_ret (pv 2))))), ?_⟩)
  · obtain ⟨a, dx, t, l1, dk, m1, m2, m3, u, F, s, b, kd, e1, e2, l2, nx, ps, ds, e, bx, E, rfl, _⟩ := h
    rfl
  · obtain ⟨a, dx, t, l1, dk, m1, m2, m3, u, F, s0, b, kd, e1, e2, l2, nx, ps, ds, e, bx, E, rfl, L, hpl, hdl, hE, hO, q⟩ := h
    walk_at "lw i0"
    have md := L.md
    obtain ⟨es, hes, hen⟩ := L.sE
    have hel : es.length = ps.length := Paired.length hen
    walk_at "lw go"
    refine Lc.g_fld ?_
    walk_at "lw go"
    refine ⟨a, _, dx, _, .int nx, rfl, md.own, G.cl_Land, G.na_Land__next, rfl, ?_⟩
    walk_at "lw go"
    refine Lc.g_meth ?_
    walk_at "lw go"
    refine ⟨a, dx, _, rfl, md.own, rfl, ?_⟩
    walk_at "lw go"
    refine Lc.g_fld ?_
    walk_at "lw go"
    refine ⟨a, _, dx, _, .ref e1, rfl, md.own, G.cl_Land, G.na_Land__standing, rfl, ?_⟩
    walk_at "lw go"
    refine ⟨e1, e, bx, es, nx, E, rfl, SqT.of hes, by omega, hE, hO, fun s2 tt H1 s1 hs2 hEn1 => ?_⟩
    have t1 := same_tup s1
    have hEn : EntsR H1 (es ++ [.ref tt]) (ps ++ [(nx, E)]) := EntsR.snoc hEn1 (hen.mono t1)
    have hok : ∀ p ∈ ps ++ [(nx, E)], FOk p.2 := fun p hp => by
      rcases List.mem_append.mp hp with hp | hp
      · exact L.ok p hp
      · rw [List.mem_singleton.mp hp]; exact hO.fok
    walk_at "lw go"
    refine ⟨a, s2, dx, t, e1, e2, l1, l2, dk, m1, m2, m3, u, s0, b, nx, nx + 1, es, es ++ [.ref tt], ds, ps ++ [(nx, E)], rfl, md.same s1, s1 _ _ hes, (hen.mono t1).ent L.ok, by omega, hs2, hEn, hok, by rw [List.length_append, List.length_singleton]; omega, s1 _ _ L.dn, hdl,
      fun tp l2' e2' ls H2 k2 t2 xl2 hl1 htp hl2 md2 he2 hly => ?_⟩
    have t12 := t1.trans t2
    have xl : H l2' = none := fresh_of s1 xl2
    walk_at "lw go"
    obtain ⟨ws, a1, a2⟩ := L.st
    have hdk : H2 dk = some kd := by
      refine k2 _ _ ?_ (s1 _ _ L.kn)
      intro c
      have c' : dk = l1 ∨ dk ∈ [a, m1, m2, m3] := by simpa using c
      rcases c' with c' | c'
      · have := L.kn
        rw [c', L.dn] at this
        cases this
        exact L.kd.2 _ rfl
      · exact md.not L.kn L.kd.1 c'
    exact q s2 e2' l2' (.ref tp) H2 ((Kp.of_same s1).trans k2) t12 xl
      ⟨md2, L.hF.mono t12, ⟨ws, t12 _ _ a1, a2.mono t12⟩, ⟨_, t2 _ _ hs2, hEn.mono t2⟩, ⟨ls, he2, hly⟩, hl1, ⟨[], hl2⟩, (fun c => by rw [← c, L.dn] at xl; cases xl), hdk, L.kd, hok⟩
abbrev N_law : List Str := ["_law_script", "_law_cell", "_law_purse_here", "_law_grain", "_law_grit", "_law_area", "_law_reach", "_law_few", "_law_ground", "_law_due", "_law_told", "_law_parts_here", "_law_part"]
theorem sc_law : FnScope N_law ["_law_script"] (defScope s_law) := ⟨rfl, rfl, rfl, by decide +kernel, rfl, by decide +kernel, by decide +kernel⟩
theorem ok_law (F : FnP K "law" s_law f fd) (T : Bi mg) (G : Kn w K mg) (D_law_purse : Df P w K mg base "_law_purse" ["_law_script", "_law_at_here"] 2 (spPurse K)) (D_law_draw : Df P w K mg base "_law_draw" ["_law_purse_here", "_law_out_of"] 2 spDraw) (D_law_box : Df P w K mg base "_law_box" ["_law_purse_here", "_law_wide"] 3 spBoxW) (MK_Land : Lc.MkC P w K mg base "Land" ["self", "rules", "seed", "memory"] [.int (64)] 63 (spLand K)) (D_law_things : Df P w K mg base "_law_things" ["_law_grain", "_law_grit", "_law_area", "_law_reach", "_law_few"] 3 spThingsL) (DK_things_in : DfK P w K mg base "things_in" ["land", "box", "salt", "far", "least"] ["least", "far", "salt", "box", "land"] (onlyK List.reverse) 5 (spThings K)) (DN_things_in_salt : Lc.DfN P w K mg base "things_in" ["land", "box", "salt", "far", "least"] 2 ["salt"] (fun vs zs => vs ++ (zs ++ [.int (3), .int (0)])) 5 (spThings K)) (DN_things_in_salt_far_least : Lc.DfN P w K mg base "things_in" ["land", "box", "salt", "far", "least"] 2 ["salt", "far", "least"] (fun vs zs => vs ++ (zs ++ [])) 5 (spThings K)) (ME_Land_edit : Lc.MeC P w K mg base "Land" "edit" ["self", "edit"] 65 (spEdit K)) (D_law_parts : Df P w K mg base "_law_parts" ["_law_purse_here", "_law_area"] 3 spParts) (D_law_apart : Df P w K mg base "_law_apart" ["_law_some", "_law_reach"] 1 spApart) : FnOk P w K mg base CX0 66 f fd ["_law_script"] (spLaw K) := by
  refine F.ok sc_law (fun vs H Q E h => ?_) (fun cdv A outer s H vs Q E hr h => ⟨_, PSs.nox
(pss_cons (ps_for PassesOwn.never rfl (pi_range1 (by rfl) T.range (pa_cons (pe_callB (call_max2 rfl) (by rfl) T.max (by decide +kernel) (pa_cons pe_int (pa_cons (pe_callB call_len_seq (by rfl) T.len (by decide +kernel) (pa_cons (pe_slice sl_list (pv 0) po_none (po_some pe_int)) pa_nil)) pa_nil))) pa_nil)) (pg_name (i := 1) sc_law.nd rfl (Or.inl rfl))
  (pss_cons (ps_set (i := 2) sc_law.nd rfl (Or.inl rfl) (pe_df D_law_purse (hr.mono (by first | decide | omega)) (pa_cons (pv 0) (pa_cons (pv 1) pa_nil))))
  (pss_cons (ps_set (i := 3) sc_law.nd rfl (Or.inl rfl) (pe_df D_law_draw (hr.mono (by first | decide | omega)) (pa_cons (pv 2) (pa_cons (pe_op op_add (pe_op op_pow pe_int pe_int) pe_int) pa_nil))))
  (pss_cons (ps_set (i := 4) sc_law.nd rfl (Or.inl rfl) (pe_ix ix_list (pe_lst (pa_cons (pe_df D_law_draw (hr.mono (by first | decide | omega)) (pa_cons (pv 2) (pa_cons pe_int pa_nil))) (pa_cons (pe_df D_law_draw (hr.mono (by first | decide | omega)) (pa_cons (pv 2) (pa_cons (pe_op op_add (pe_op op_pow pe_int pe_int) pe_int) pa_nil))) pa_nil))) (pe_df D_law_draw (hr.mono (by first | decide | omega)) (pa_cons (pv 2) (pa_cons pe_int pa_nil))) (fun _ _ => rfl)))
  (pss_cons (ps_set (i := 5) sc_law.nd rfl (Or.inl rfl) (pe_df D_law_box (hr.mono (by first | decide | omega)) (pa_cons (pv 2) (pa_cons pe_int pa_nil))))
  (pss_cons (ps_set (i := 6) sc_law.nd rfl (Or.inl rfl) (pe_op op_add pe_int (pe_df D_law_draw (hr.mono (by first | decide | omega)) (pa_cons (pv 2) (pa_cons (pe_ix ix_list (pe_lst (pa_cons pe_int (pa_cons pe_int pa_nil))) (pe_df D_law_draw (hr.mono (by first | decide | omega)) (pa_cons (pv 2) (pa_cons pe_int pa_nil))) (fun _ _ => rfl)) pa_nil)))))
  (pss_cons (ps_set (i := 7) sc_law.nd rfl (Or.inl rfl) (pe_ix ix_list (pe_lst (pa_cons pe_int (pa_cons pe_int (pa_cons (pe_df D_law_draw (hr.mono (by first | decide | omega)) (pa_cons (pv 2) (pa_cons pe_int pa_nil))) pa_nil)))) (pe_df D_law_draw (hr.mono (by first | decide | omega)) (pa_cons (pv 2) (pa_cons pe_int pa_nil))) (fun _ _ => rfl)))
  (pss_cons (ps_set (i := 8) sc_law.nd rfl (Or.inl rfl) (Lc.pe_mkC MK_Land (hr.mono (by first | decide | omega)) (pa_cons (pe_tup (pa_cons pe_str (pa_cons pe_int pa_nil))) (pa_cons (pv 3) pa_nil))))
  (pss_cons (ps_set (i := 9) sc_law.nd rfl (Or.inl rfl) (pe_df D_law_things (hr.mono (by first | decide | omega)) (pa_cons (pv 3) (pa_cons (pv 4) (pa_cons (pv 5) (pa_cons (pv 6) (pa_cons (pv 7) pa_nil)))))))
  (pss_cons (ps_set (i := 10) sc_law.nd rfl (Or.inl rfl) (Lc.pe_dfN DN_things_in_salt_far_least (hr.mono (by first | decide | omega)) (pa_cons (pv 8) (pa_cons (pv 5) pa_nil)) (pk_cons (pv 4) (pk_cons (pv 6) (pk_cons (pv 7) pk_nil)))))
  (pss_cons (ps_if (PW.pt (pw_or (pt_cmpR (op_neD hr.units) (pv 10) (pv 9) (nomark _)) (pw_or1 (pt_not (pt_val (pe_df D_law_apart (hr.mono (by first | decide | omega)) (pa_cons (pv 10) (pa_cons (pv 6) pa_nil))))))))
  (pss_one (ps_ret pe_bl))
  pss_nil)
  (pss_cons (ps_expr (pe_bm PySem.F.plainAttrs_list PySem.F.slot_list_append PySem.F.type_list_append mt_append (pv 10) (pa_cons pe_non pa_nil)))
  (pss_cons (ps_expr (Lc.pe_meC ME_Land_edit (pv 8) (hr.mono (by first | decide | omega)) (pa_cons (pe_tup (pa_cons pe_str (pa_cons (pv 5) (pa_cons pe_int pa_nil)))) pa_nil)))
  (pss_cons (ps_set (i := 11) sc_law.nd rfl (Or.inl rfl) (pe_lst pa_nil))
  (pss_cons (ps_for PassesOwn.never rfl (pi_list (pe_df D_law_parts (hr.mono (by first | decide | omega)) (pa_cons (pv 2) (pa_cons (pv 5) pa_nil)))) (pg_name (i := 12) sc_law.nd rfl (Or.inl rfl))
  (pss_one (ps_set (i := 11) sc_law.nd rfl (Or.inl rfl) (pe_op op_cat (pv 11) (pe_dfK0 DK_things_in (hr.mono (by first | decide | omega)) (pk_cons (pv 7) (pk_cons (pv 6) (pk_cons (pv 4) (pk_cons (pv 12) (pk_cons (pv 8) pk_nil))))))))))
  (pss_cons (ps_if (pt_cmpR (op_neD hr.units) (pv 11) (pv 9) (nomark _))
  (pss_one (ps_ret pe_bl))
  pss_nil)
  (pss_one (ps_if (pt_cmpR (op_neD hr.units) (Lc.pe_dfN DN_things_in_salt (hr.mono (by first | decide | omega)) (pa_cons (pv 8) (pa_cons (pv 5) pa_nil)) (pk_cons (pv 4) pk_nil)) (pe_df D_law_things (hr.mono (by first | decide | omega)) (pa_cons (pv 3) (pa_cons (pv 4) (pa_cons (pv 5) (pa_cons (pe_gI (by rfl) G.c_FAR) (pa_cons pe_int pa_nil)))))) (nomark _))
  (pss_one (ps_ret pe_bl))
  pss_nil))))))))))))))))))
  (pss_one (ps_ret (pe_cmpR op_eq (pe_gI (by rfl) G.c_FAR) pe_int (nomark _))))), ?_⟩)
  · obtain ⟨sc, ns, rfl, _⟩ := h
    rfl
  · obtain ⟨sc, ns, rfl, hS, q⟩ := h
    walk_at "lw i0"
    walk_at "lw go"
    refine ⟨sc, _, rfl, hS, fun l hl => ?_⟩
    have s1 := same_new (o := .lst (cutV (ns.map V.int) none (some 4))) hl
    have hlen := cut4 (ns.map V.int)
    walk_at "lw go"
    refine ⟨l, _, rfl, .inl (SqL.of upd_same), ?_⟩
    walk_at "lw go"
    refine ⟨_, _, rfl, ?_⟩
    generalize hn : (if ((cutV (ns.map V.int) none (some 4)).length : Int) > 1 then ((cutV (ns.map V.int) none (some 4)).length : Int) else 1) = n
    have hn6 : 0 ≤ n ∧ n ≤ 4 := by rw [← hn]; split <;> omega
    walk_at "lw go"
    refine ⟨_, rfl, by omega, by omega, for_range (fun i σ H' => ∃ (o1 o2 o3 o4 o5 o6 o7 o8 o9 o10 o11 o12 : Option V), σ = [some (.ref sc), o1, o2, o3, o4, o5, o6, o7, o8, o9, o10, o11, o12] ∧ SqL K H' sc (ns.map V.int)) ⟨_, _, _, _, _, _, _, _, _, _, _, _, rfl, same_sqL s1 hS⟩ ?_ ?_⟩
    · rintro i σ Hs hi ⟨o1, o2, o3, o4, o5, o6, o7, o8, o9, o10, o11, o12, rfl, hS1⟩
      walk_at "lw go"
      refine ⟨sc, ns, _, rfl, hS1, by omega, by omega, fun p o hpn hP => ?_⟩
      have Wd : Wp p Hs (upd Hs p o) 64000 := ⟨Keep.refl.put, o, upd_same, hP⟩
      obtain ⟨H0, e0⟩ : ∃ H0, upd Hs p o = H0 := ⟨_, rfl⟩
      rw [e0] at Wd ⊢
      clear e0 hP
      walk_at "lw go"
      obtain ⟨o0, hp0, hP0⟩ := Wd.hp
      refine ⟨p, 1000000001, _, o0, rfl, hp0, hP0, by omega, by omega, by omega, fun g o1 g0 g1 hP1 => ?_⟩
      have t0 := Wd.tup (o := o1)
      have k0 : Keep p H0 (upd H0 p o1) := Keep.refl.put
      replace Wd := Wd.draw hP1
      obtain ⟨H1, e1⟩ : ∃ G, upd H0 p o1 = G := ⟨_, rfl⟩
      rw [e1] at t0 k0 Wd ⊢
      clear e1 hp0 hP0 hP1 o0
      clear t0 k0
      walk_at "lw go"
      obtain ⟨o0, hp0, hP0⟩ := Wd.hp
      refine ⟨p, 9, _, o0, rfl, hp0, hP0, by omega, by omega, by omega, fun a o1 a0 a1 hP1 => ?_⟩
      have t0 := Wd.tup (o := o1)
      have k0 : Keep p H1 (upd H1 p o1) := Keep.refl.put
      replace Wd := Wd.draw hP1
      obtain ⟨H2, e2⟩ : ∃ G, upd H1 p o1 = G := ⟨_, rfl⟩
      rw [e2] at t0 k0 Wd ⊢
      clear e2 hp0 hP0 hP1 o0
      clear t0 k0
      walk_at "lw go"
      obtain ⟨o0, hp0, hP0⟩ := Wd.hp
      refine ⟨p, 1000000001, _, o0, rfl, hp0, hP0, by omega, by omega, by omega, fun b o1 b0 b1 hP1 => ?_⟩
      have t0 := Wd.tup (o := o1)
      have k0 : Keep p H2 (upd H2 p o1) := Keep.refl.put
      replace Wd := Wd.draw hP1
      obtain ⟨H3, e3⟩ : ∃ G, upd H2 p o1 = G := ⟨_, rfl⟩
      rw [e3] at t0 k0 Wd ⊢
      clear e3 hp0 hP0 hP1 o0
      clear t0 k0
      walk_at "lw go"
      refine ⟨by show 2 ≤ sizeLine; decide, fun l2 hl2 => ?_⟩
      have n_l2 := Wd.ne hl2
      have s0 := same_new (o := .lst [.int a, .int b]) hl2
      have f_l2 := @upd_same H3 l2 (.lst [.int a, .int b])
      obtain ⟨H4, e4⟩ : ∃ G, upd H3 l2 (.lst [.int a, .int b]) = G := ⟨_, rfl⟩
      rw [e4] at s0 f_l2 ⊢
      clear e4 hl2
      replace Wd := Wd.same s0
      clear s0
      walk_at "lw go"
      obtain ⟨o0, hp0, hP0⟩ := Wd.hp
      refine ⟨p, 2, _, o0, rfl, hp0, hP0, by omega, by omega, by omega, fun c o1 c0 c1 hP1 => ?_⟩
      have t0 := Wd.tup (o := o1)
      have k0 : Keep p H4 (upd H4 p o1) := Keep.refl.put
      replace Wd := Wd.draw hP1
      obtain ⟨H5, e5⟩ : ∃ G, upd H4 p o1 = G := ⟨_, rfl⟩
      rw [e5] at t0 k0 Wd ⊢
      clear e5 hp0 hP0 hP1 o0
      replace f_l2 := k0 _ _ n_l2 f_l2
      clear t0 k0
      walk_at "lw go"
      obtain ⟨cn, rfl⟩ : ∃ cn : Nat, c = cn := ⟨c.toNat, by omega⟩
      obtain ⟨s0, hget⟩ : ∃ s0 : Int, ([.int a, .int b] : List V)[cn]? = some (.int s0) := by
        have hc : cn = 0 ∨ cn = 1 := by omega
        rcases hc with rfl | rfl
        · exact ⟨a, rfl⟩
        · exact ⟨b, rfl⟩
      refine g_ixL (SqL.of f_l2) (atI_nat hget) ?_
      clear f_l2 hget c0 c1 a0 a1 b0 b1
      walk_at "lw go"
      obtain ⟨o0, hp0, hP0⟩ := Wd.hp
      refine ⟨p, 12, _, o0, rfl, hp0, hP0, by omega, by omega, by omega, fun x0 z0 a b ar Hb Wb har f_ar ob a0 a1 b0 b1 => ?_⟩
      replace Wd : Wp p Hs Hb _ := ⟨Wd.kp.trans Wb.kp, Wb.hp⟩
      clear Wb har hp0 hP0 o0
      walk_at "lw go"
      refine ⟨by show 2 ≤ sizeLine; decide, fun l3 hl3 => ?_⟩
      have n_l3 := Wd.ne hl3
      have s0 := same_new (o := .lst [.int 3, .int 8]) hl3
      have f_l3 := @upd_same Hb l3 (.lst [.int 3, .int 8])
      obtain ⟨H6, e6⟩ : ∃ G, upd Hb l3 (.lst [.int 3, .int 8]) = G := ⟨_, rfl⟩
      rw [e6] at s0 f_l3 ⊢
      clear e6 hl3
      replace Wd := Wd.same s0
      replace f_ar := s0 _ _ f_ar
      clear s0
      walk_at "lw go"
      obtain ⟨o0, hp0, hP0⟩ := Wd.hp
      refine ⟨p, 2, _, o0, rfl, hp0, hP0, by omega, by omega, by omega, fun c o1 c0 c1 hP1 => ?_⟩
      have t0 := Wd.tup (o := o1)
      have k0 : Keep p H6 (upd H6 p o1) := Keep.refl.put
      replace Wd := Wd.draw hP1
      obtain ⟨H7, e7⟩ : ∃ G, upd H6 p o1 = G := ⟨_, rfl⟩
      rw [e7] at t0 k0 Wd ⊢
      clear e7 hp0 hP0 hP1 o0
      replace f_ar := t0 _ _ f_ar
      replace f_l3 := k0 _ _ n_l3 f_l3
      clear t0 k0
      walk_at "lw go"
      obtain ⟨cn, rfl⟩ : ∃ cn : Nat, c = cn := ⟨c.toNat, by omega⟩
      obtain ⟨r4, hget, r0, r1⟩ : ∃ r4 : Int, ([.int 3, .int 8] : List V)[cn]? = some (.int r4) ∧ 3 ≤ r4 ∧ r4 ≤ 8 := by
        have hc : cn = 0 ∨ cn = 1 := by omega
        rcases hc with rfl | rfl
        · exact ⟨3, rfl, by omega, by omega⟩
        · exact ⟨8, rfl, by omega, by omega⟩
      refine g_ixL (SqL.of f_l3) (atI_nat hget) ?_
      clear f_l3 hget c0 c1
      walk_at "lw go"
      obtain ⟨o0, hp0, hP0⟩ := Wd.hp
      refine ⟨p, r4, _, o0, rfl, hp0, hP0, by omega, by omega, by omega, fun c o1 c0 c1 hP1 => ?_⟩
      have t0 := Wd.tup (o := o1)
      have k0 : Keep p H7 (upd H7 p o1) := Keep.refl.put
      replace Wd := Wd.draw hP1
      obtain ⟨H8, e8⟩ : ∃ G, upd H7 p o1 = G := ⟨_, rfl⟩
      rw [e8] at t0 k0 Wd ⊢
      clear e8 hp0 hP0 hP1 o0
      replace f_ar := t0 _ _ f_ar
      clear t0 k0
      walk_at "lw go"
      obtain ⟨far, hfar⟩ : ∃ far : Nat, 1 + c = far := ⟨(1 + c).toNat, by omega⟩
      rw [hfar]
      have f1 : 1 ≤ far := by omega
      have f2 : far ≤ 8 := by omega
      clear hfar c0 c1 r0 r1
      walk_at "lw go"
      obtain ⟨o0, hp0, hP0⟩ := Wd.hp
      refine ⟨p, 65536, _, o0, rfl, hp0, hP0, by omega, by omega, by omega, fun fw o1 fw0 fw1 hP1 => ?_⟩
      have t0 := Wd.tup (o := o1)
      have k0 : Keep p H8 (upd H8 p o1) := Keep.refl.put
      replace Wd := Wd.draw hP1
      obtain ⟨H9, e9⟩ : ∃ G, upd H8 p o1 = G := ⟨_, rfl⟩
      rw [e9] at t0 k0 Wd ⊢
      clear e9 hp0 hP0 hP1 o0
      replace f_ar := t0 _ _ f_ar
      clear t0 k0
      walk_at "lw go"
      refine ⟨by show 3 ≤ sizeLine; decide, fun l4 hl4 => ?_⟩
      have n_l4 := Wd.ne hl4
      have s0 := same_new (o := .lst [.int 0, .int 0, .int fw]) hl4
      have f_l4 := @upd_same H9 l4 (.lst [.int 0, .int 0, .int fw])
      obtain ⟨H10, e10⟩ : ∃ G, upd H9 l4 (.lst [.int 0, .int 0, .int fw]) = G := ⟨_, rfl⟩
      rw [e10] at s0 f_l4 ⊢
      clear e10 hl4
      replace Wd := Wd.same s0
      replace f_ar := s0 _ _ f_ar
      clear s0
      walk_at "lw go"
      obtain ⟨o0, hp0, hP0⟩ := Wd.hp
      refine ⟨p, 3, _, o0, rfl, hp0, hP0, by omega, by omega, by omega, fun c o1 c0 c1 hP1 => ?_⟩
      have t0 := Wd.tup (o := o1)
      have k0 : Keep p H10 (upd H10 p o1) := Keep.refl.put
      replace Wd := Wd.draw hP1
      obtain ⟨H11, e11⟩ : ∃ G, upd H10 p o1 = G := ⟨_, rfl⟩
      rw [e11] at t0 k0 Wd ⊢
      clear e11 hp0 hP0 hP1 o0
      replace f_ar := t0 _ _ f_ar
      replace f_l4 := k0 _ _ n_l4 f_l4
      clear t0 k0
      walk_at "lw go"
      obtain ⟨cn, rfl⟩ : ∃ cn : Nat, c = cn := ⟨c.toNat, by omega⟩
      obtain ⟨few, hget, few0, few1⟩ : ∃ few : Int, ([.int 0, .int 0, .int fw] : List V)[cn]? = some (.int few) ∧ 0 ≤ few ∧ few < 65536 := by
        have hc : cn = 0 ∨ cn = 1 ∨ cn = 2 := by omega
        rcases hc with rfl | rfl | rfl
        · exact ⟨0, rfl, by omega, by omega⟩
        · exact ⟨0, rfl, by omega, by omega⟩
        · exact ⟨fw, rfl, by omega, by omega⟩
      refine g_ixL (SqL.of f_l4) (atI_nat hget) ?_
      clear f_l4 hget c0 c1 fw0 fw1
      walk_at "lw go"
      refine Lc.g_make ?_
      walk_at "lw go"
      refine ⟨by show 2 ≤ sizeLine; decide, fun ut hut => ?_⟩
      have s0 := same_new (o := .tup [.str "whole", .int 0]) hut
      have f_ut := @upd_same H11 ut (.tup [.str "whole", .int 0])
      obtain ⟨H12, e12⟩ : ∃ G, upd H11 ut (.tup [.str "whole", .int 0]) = G := ⟨_, rfl⟩
      rw [e12] at s0 f_ut ⊢
      clear e12 hut
      replace Wd := Wd.same s0
      replace f_ar := s0 _ _ f_ar
      clear s0
      walk_at "lw go"
      obtain ⟨mm, Wd, hmm⟩ : ∃ mm, Wp p Hs H12 mm ∧ mm ≤ 65000 := ⟨_, Wd, by omega⟩
      refine fun al dx ha hdx nxy => ?_
      have sM : Same H12 (upd (upd H12 dx (.own al)) al (.ins (He.ga K "Land") dx [])) := fun c v h => by rw [upd_ne (ne_of_none h ha), upd_ne (ne_of_none h hdx)]; exact h
      refine ⟨al, dx, .ref ut, .whole 0, g, 64, rfl, upd_same, ⟨ut, rfl, sM _ _ f_ut⟩, good_zero, by omega, by omega, fun t e1 e2 l1 l2 dk m1 m2 m3 ws HL kA ⟨y1, y2, y3, y4, y5, y6⟩ L0 => ⟨rfl, ?_⟩⟩
      have sL : Same H12 HL := fun c v h => kA c v (ne_of_none h ha) (sM c v h)
      replace y1 := none_upd2 y1
      replace y2 := none_upd2 y2
      replace y3 := none_upd2 y3
      replace y4 := none_upd2 y4
      replace y5 := none_upd2 y5
      have fr : ∀ c ∈ [l1, al, m1, m2, m3], Hs c = none ∧ c ≠ p := fun c hc => by
        have hn : H12 c = none := by
          simp only [List.mem_cons, List.not_mem_nil, or_false] at hc
          rcases hc with rfl | rfl | rfl | rfl | rfl <;> assumption
        exact ⟨Wd.nn hn, Wd.ne hn⟩
      have n_l1 := Wd.ne y1
      have n_l2 := Wd.ne y2
      replace Wd := Wd.same sL
      replace f_ar := sL _ _ f_ar
      have L := L0.toG y6
      clear L0 sL kA sM y1 y2 y3 y4 y5 y6 nxy ha hdx f_ut
      obtain ⟨wn, hwn⟩ : ∃ wn : Nat, a + 1 = wn := ⟨(a + 1).toNat, by omega⟩
      obtain ⟨dn, hdn⟩ : ∃ dn : Nat, b + 1 = dn := ⟨(b + 1).toNat, by omega⟩
      walk_at "lw go"
      refine ⟨g, s0, few, ar, far, x0, z0, x0 + a, z0 + b, wn, dn, rfl, f_ar, ob, by omega, by omega, by omega, by omega, by omega, fun du Hd hdu sr D => ?_⟩
      have n_D : du ≠ p := Wd.ne hdu
      have dL := L.ne hdu
      clear hdu
      replace L := L.same sr
      replace Wd := Wd.same sr
      replace f_ar := sr _ _ f_ar
      clear sr
      walk_at "lw go"
      refine Lc.g_callN ?_
      walk_at "lw go"
      refine ⟨rfl, rfl, ?_⟩
      refine ⟨al, ar, g, s0, few, far, x0, z0, x0 + a, z0 + b, wn, dn, rfl, L.toS, f_ar, ob, by omega, by omega, by omega, by omega, f1, f2, few0, by omega, fun to Ht hto sr T => ?_⟩
      have n_T : to ≠ p := Wd.ne hto
      have tL := L.ne hto
      have xT := Wd.nn hto
      have nDT : du ≠ to := by obtain ⟨ld, fd, _⟩ := D; exact ne_of_none fd hto
      clear hto
      replace L := L.same sr
      replace Wd := Wd.same sr
      replace f_ar := sr _ _ f_ar
      replace D := D.same sr
      clear sr
      walk_at "lw go"
      refine ne_same (shaped_pts _) (dp_pts T) (dp_pts D) ?_
      walk_at "lw go"
      refine ⟨to, far, _, rfl, T, Nat.le_trans things_len (Nat.le_trans (Nat.mul_le_mul (show _ ≤ 32 by omega) (show _ ≤ 32 by omega)) (by decide)), fun k m pa pb hkm h1 h2 hle => ?_, fun Hq sr => ?_⟩
      · have h3 : pa = pb := things_apart (List.mem_of_getElem? h1) (List.mem_of_getElem? h2) (by omega) (by omega) (by omega) (by omega)
        exact things_ne hkm h1 h2 h3
      replace L := L.same sr
      replace Wd := Wd.same sr
      replace f_ar := sr _ _ f_ar
      replace D := D.same sr
      replace T := T.same sr
      clear sr
      walk_at "lw go"
      obtain ⟨lt, ft, hT⟩ := T
      obtain ⟨ld, fd, hD⟩ := D
      have hltl : lt.length ≤ 1024 := by
        rw [Paired.length hT]
        exact Nat.le_trans things_len (Nat.le_trans (Nat.mul_le_mul (show _ ≤ 32 by omega) (show _ ≤ 32 by omega)) (by decide))
      refine ⟨tyL ft, ?_⟩
      walk_at "lw go"
      refine g_append ft (by rw [List.length_map, sizeLine_eq]; omega) ?_
      have kt : Keep to Hq (upd Hq to (.lst (lt.map V.ref ++ [.non]))) := Keep.refl.put
      have tp := tup_putL (o := .lst (lt.map V.ref ++ [.non])) ft
      replace L := L.keepL ft (tL _ (by simp)) (tL _ (by simp)) kt
      replace Wd := Wd.put (o := .lst (lt.map V.ref ++ [.non])) xT n_T
      replace f_ar := tp _ _ f_ar
      replace fd := kt _ _ nDT fd
      replace hD := hD.tup tp
      obtain ⟨Hr, er⟩ : ∃ Hr, upd Hq to (.lst (lt.map V.ref ++ [.non])) = Hr := ⟨_, rfl⟩
      rw [er] at L Wd f_ar fd hD ⊢
      clear er kt tp ft hT xT n_T tL nDT
      have D : PtsL Hr du (things g s0 far few x0 z0 wn dn) := ⟨ld, fd, hD⟩
      clear fd hD
      walk_at "lw go"
      refine Lc.g_meth ?_
      walk_at "lw go"
      refine ⟨al, dx, _, rfl, L.md.own, rfl, ?_⟩
      walk_at "lw go"
      refine ⟨by show 3 ≤ sizeLine; decide, fun ed hed => ?_⟩
      have s0 := same_new (o := .tup [.str "raise", .ref ar, .int 9]) hed
      have f_ed := @upd_same Hr ed (.tup [.str "raise", .ref ar, .int 9])
      obtain ⟨H13, e13⟩ : ∃ G, upd Hr ed (.tup [.str "raise", .ref ar, .int 9]) = G := ⟨_, rfl⟩
      rw [e13] at s0 f_ed ⊢
      clear e13 hed
      replace Wd := Wd.same s0
      replace f_ar := s0 _ _ f_ar
      replace D := D.same s0
      replace L := L.same s0
      clear s0
      walk_at "lw go"
      refine ⟨al, dx, t, l1, dk, m1, m2, m3, .ref ut, .whole 0, g, 64, .dK [], e1, e2, l2, 1, [], [], ed, ar, .chg .raise ⟨x0, z0, x0 + a, z0 + b⟩ 9, rfl, L, by decide, by decide, ⟨.non, f_ed, f_ar, True.intro⟩, ⟨ob, by omega, by omega⟩, fun e1' e2' l2' d He k t xl L' => ?_⟩
      replace Wd : Wp p Hs He mm := ⟨fun c v nc e => k _ _ (fun hc => by rw [(fr c hc).1] at e; cases e) (Wd.kp c v nc e), by obtain ⟨o, h1, h2⟩ := Wd.hp; exact ⟨o, k _ _ (fun hc => (fr p hc).2 rfl) h1, h2⟩⟩
      replace f_ar := t _ _ f_ar
      replace D : PtsL He du (things g s0 far few x0 z0 wn dn) := by
        obtain ⟨ld, fd, hD⟩ := D
        refine ⟨ld, k _ _ (fun hc => dL du ?_ rfl) fd, hD.tup t⟩
        simp only [List.mem_cons, List.not_mem_nil, or_false] at hc ⊢
        rcases hc with h | h | h | h | h <;> simp [h]
      have Sd : Sx K p Hs He mm al ar g x0 z0 (x0 + a) (z0 + b) := ⟨Wd, L'.toS, f_ar⟩
      clear k t xl L' L Wd f_ar f_ed dL fr n_l1 n_l2
      walk_at "lw go"
      refine ⟨by show 0 ≤ sizeLine; decide, fun pa0 hpa0 => ?_⟩
      have n_pa0 := Sd.W.ne hpa0
      have s0 := same_new (o := .lst []) hpa0
      have f_pa0 := @upd_same He pa0 (.lst [])
      obtain ⟨H14, e14⟩ : ∃ G, upd He pa0 (.lst []) = G := ⟨_, rfl⟩
      rw [e14] at s0 f_pa0 ⊢
      clear e14 hpa0
      replace Sd := Sd.same s0
      replace D := D.same s0
      clear s0
      walk_at "lw go"
      obtain ⟨o0, hp0, hP0⟩ := Sd.W.hp
      refine ⟨p, ar, _, o0, x0, z0, x0 + a, z0 + b, rfl, hp0, hP0, by omega, Sd.A, ob, fun pl pls bs HQ WQ hpl fpl hTil hbs => ?_⟩
      have tQ := purse_tup WQ.kp hp0 hP0
      replace D : PtsL HQ du (things g s0 far few x0 z0 wn dn) := by
        obtain ⟨ld, fd, hD⟩ := D
        exact ⟨ld, WQ.kp _ _ n_D fd, hD.tup tQ⟩
      have f_pa1 := WQ.kp _ _ n_pa0 f_pa0
      replace Sd : Sx K p Hs HQ _ al ar g x0 z0 (x0 + a) (z0 + b) := ⟨⟨Sd.W.kp.trans WQ.kp, WQ.hp⟩, Sd.L.keepP hp0 hP0 WQ.kp, tQ _ _ Sd.A⟩
      clear WQ tQ hp0 hP0 o0 f_pa0 hpl
      walk_at "lw go"
      have hbin : ∀ t ∈ bs, x0 ≤ t.1 ∧ t.1 ≤ t.2.2.1 ∧ t.2.2.1 ≤ x0 + a ∧ z0 = t.2.1 ∧ t.2.2.2 = z0 + b := by
        rcases hbs with ⟨hb1, rfl⟩ | ⟨at_, hb1, hb2, rfl⟩
        · intro t ht
          rw [List.mem_singleton.mp ht]
          dsimp only
          omega
        · intro t ht
          rcases List.mem_cons.mp ht with rfl | ht
          · dsimp only
            omega
          · rw [List.mem_singleton.mp ht]
            dsimp only
            omega
      have hbl : bs.length ≤ 2 := by rcases hbs with ⟨hb1, rfl⟩ | ⟨at_, hb1, hb2, rfl⟩ <;> simp
      have hflat : bs.flatMap (thingsB g s0 far few) = things g s0 far few x0 z0 wn dn := by
        rcases hbs with ⟨hb1, rfl⟩ | ⟨at_, hb1, hb2, rfl⟩
        · rw [List.flatMap_cons, List.flatMap_nil, List.append_nil]
          unfold thingsB
          dsimp only
          rw [show (x0 + a - x0 + 1).toNat = wn by omega, show (z0 + b - z0 + 1).toNat = dn by omega]
        · rw [List.flatMap_cons, List.flatMap_cons, List.flatMap_nil, List.append_nil]
          unfold thingsB
          dsimp only
          rw [show (z0 + b - z0 + 1).toNat = dn by omega, show wn = (at_ - x0 + 1).toNat + (x0 + a - (at_ + 1) + 1).toNat by omega, things_add, show x0 + ((at_ - x0 + 1).toNat : Int) = at_ + 1 by omega]
      refine ⟨pl, rfl, ⟨_, SqL.of fpl⟩, for_list (xs := pls.map V.ref) (fun k σ G => ∃ (o12 : Option V) (pa : Addr) (lsp : List Addr), σ = [some (.ref sc), some (.int (0 + (i : Nat))), some (.ref p), some (.int g), some (.int s0), some (.ref ar), some (.int far), some (.int few), some (.ref al), some (.ref du), some (.ref to), some (.ref pa), o12] ∧ Same HQ G ∧ G pa = some (.lst (lsp.map V.ref)) ∧ PtsR G lsp ((bs.take k).flatMap (thingsB g s0 far few))) ⟨_, pa0, [], rfl, Same.refl HQ, f_pa1, .nil⟩ (fun k σ G _ h => ?_) ?_ ?_⟩
      · obtain ⟨_, _, _, _, sG, _⟩ := h
        exact SqL.of (sG _ _ fpl)
      · rintro k y σ G hy ⟨o12, pa, lsp, rfl, sG, fpa, hP⟩
        rw [List.getElem?_map] at hy
        obtain ⟨l, hl, rfl⟩ := Option.map_eq_some_iff.mp hy
        obtain ⟨⟨t1, t2, t3, t4⟩, ht, hl2⟩ := hTil.at_ hl
        dsimp only at hl2
        have tin := hbin _ (List.mem_of_getElem? ht)
        dsimp only at tin
        obtain ⟨⟨q1, q2, q3⟩, q4, q5, q6⟩ := id ob
        have SdG := Sd.same sG
        have hk2 := (List.getElem?_eq_some_iff.mp ht).1
        walk_at "lw go"
        refine ⟨al, l, g, s0, few, far, t1, t2, t3, t4, (t3 - t1 + 1).toNat, (t4 - t2 + 1).toNat, rfl, SdG.L, sG _ _ hl2, ⟨by omega, by omega⟩, by omega, by omega, by omega, by omega, f1, f2, few0, by omega, fun tr H7 htr s7 hT7 => ?_⟩
        obtain ⟨l7, f7, hP7⟩ := hT7
        have hlen1 : lsp.length ≤ 2 * 1024 := by
          rw [Paired.length hP]
          refine Nat.le_trans (take_len (n := 1024) (fun t ht => ?_) k) (Nat.mul_le_mul_right _ (by omega))
          have tin := hbin t ht
          unfold thingsB
          refine Nat.le_trans things_len ?_
          exact Nat.le_trans (Nat.mul_le_mul (show _ ≤ 32 by omega) (show _ ≤ 32 by omega)) (by decide)
        have hlen7 : l7.length ≤ 1024 := by
          rw [Paired.length hP7]
          exact Nat.le_trans things_len (Nat.le_trans (Nat.mul_le_mul (show _ ≤ 32 by omega) (show _ ≤ 32 by omega)) (by decide))
        walk_at "lw go"
        refine ⟨pa, tr, _, _, rfl, rfl, s7 _ _ fpa, f7, by rw [List.length_map, List.length_map, sizeLine_eq]; omega, fun np hnp => ?_⟩
        walk_at "lw go"
        refine ⟨_, np, lsp ++ l7, rfl, (sG.trans s7).trans (same_new hnp), by rw [upd_same, List.map_append], ?_⟩
        have s8 := same_new (o := .lst (lsp.map V.ref ++ l7.map V.ref)) hnp
        rw [List.take_add_one, List.flatMap_append, ht]
        refine PtsR.app ((hP.same s7).same s8) ?_
        have e9 : (some (t1, t2, t3, t4)).toList.flatMap (thingsB g s0 far few) = things g s0 far few t1 t2 (t3 - t1 + 1).toNat (t4 - t2 + 1).toNat := by
          simp [thingsB]
        rw [e9]
        exact hP7.same s8
      · rintro σ G ⟨o12, pa, lsp, rfl, sG, fpa, hP⟩
        have hn : pls.length = bs.length := Paired.length hTil
        rw [List.length_map, hn, List.take_length, hflat] at hP
        replace Sd := Sd.same sG
        replace D := D.same sG
        clear hTil fpl sG f_pa1
        walk_at "lw go"
        refine ne_same (shaped_pts _) (dp_pts ⟨lsp, fpa, hP⟩) (dp_pts D) ?_
        clear fpa hP
        walk_at "lw go"
        refine Lc.g_callN ?_
        walk_at "lw go"
        refine ⟨rfl, rfl, ?_⟩
        refine ⟨al, ar, g, s0, 0, 3, x0, z0, x0 + a, z0 + b, wn, dn, rfl, Sd.L, Sd.A, ob, by omega, by omega, by omega, by omega, by decide, by decide, by decide, by decide, fun t8 H8 _ s8 T8 => ?_⟩
        replace Sd := Sd.same s8
        walk_at "lw go"
        refine ⟨g, s0, 0, ar, 3, x0, z0, x0 + a, z0 + b, wn, dn, rfl, Sd.A, ob, by omega, by omega, by omega, by omega, by decide, fun t9 H9 _ s9 T9 => ?_⟩
        replace Sd := Sd.same s9
        walk_at "lw go"
        refine ne_same (shaped_pts _) (dp_pts (T8.same s9)) (dp_pts T9) ?_
        walk_at "lw go"
        exact ⟨_, _, _, _, _, _, _, _, _, _, _, _, rfl, same_sqL (fun c v e => Sd.W.kp c v (fun z => by rw [z, hpn] at e; cases e) e) hS1⟩
    · rintro σ H1 ⟨o1, o2, o3, o4, o5, o6, o7, o8, o9, o10, o11, o12, rfl, hS1⟩
      walk_at "lw go"
      exact q H1
end

open Hd
theorem facts {P : Program} {w : World} {K : PySem.W.Frag} {h : Heap} {mg : Str → Option Value} {f : Addr} (X : K.In h) (G0 : h.Ns mainGlobals mg) (hfa : mg ("law" : Str) = some (.ref f)) (c0 : He.SaysX fa fn tabs [] ex w h K) :
    ∃ fd : FuncData, (∀ (s : Shared) (v : Value), BindsTo s fd ⟨[v], []⟩ [("_law_script", v)]) ∧ ∀ base : Heap, K.In base → base.Ns mainGlobals mg → FnOk P w K mg base CX0 66 f fd ["_law_script"] (spLaw K) := by
  have c : He.SaysD fa fn K := c0.t.d
  obtain ⟨fd_is_from, F_is_from⟩ := c.def_ 0 (d := dd_is_from) rfl
  have g_is_from := He.glo_ok X G0 (c.fact 0 (f := .glo "is_from") rfl)
  obtain ⟨fd_is_name, F_is_name⟩ := c.def_ 1 (d := dd_is_name) rfl
  have g_is_name := He.glo_ok X G0 (c.fact 1 (f := .glo "is_name") rfl)
  obtain ⟨fd_is_point, F_is_point⟩ := c.def_ 2 (d := dd_is_point) rfl
  have g_is_point := He.glo_ok X G0 (c.fact 2 (f := .glo "is_point") rfl)
  obtain ⟨fd_must_point, F_must_point⟩ := c.def_ 3 (d := dd_must_point) rfl
  have g_must_point := He.glo_ok X G0 (c.fact 3 (f := .glo "must_point") rfl)
  obtain ⟨fd_is_box, F_is_box⟩ := c.def_ 4 (d := dd_is_box) rfl
  have g_is_box := He.glo_ok X G0 (c.fact 4 (f := .glo "is_box") rfl)
  obtain ⟨fd_must_box, F_must_box⟩ := c.def_ 5 (d := dd_must_box) rfl
  have g_must_box := He.glo_ok X G0 (c.fact 5 (f := .glo "must_box") rfl)
  obtain ⟨fd_must_box_of, F_must_box_of⟩ := c.def_ 6 (d := dd_must_box_of) rfl
  have g_must_box_of := He.glo_ok X G0 (c.fact 6 (f := .glo "must_box_of") rfl)
  obtain ⟨fd_points_of, F_points_of⟩ := c.def_ 7 (d := dd_points_of) rfl
  have g_points_of := He.glo_ok X G0 (c.fact 7 (f := .glo "points_of") rfl)
  obtain ⟨fd_knot, F_knot⟩ := c.def_ 8 (d := dd_knot) rfl
  have g_knot := He.glo_ok X G0 (c.fact 8 (f := .glo "knot") rfl)
  obtain ⟨fd_four_knots, F_four_knots⟩ := c.def_ 9 (d := dd_four_knots) rfl
  have g_four_knots := He.glo_ok X G0 (c.fact 9 (f := .glo "four_knots") rfl)
  obtain ⟨fd_knot_row, F_knot_row⟩ := c.def_ 10 (d := dd_knot_row) rfl
  have g_knot_row := He.glo_ok X G0 (c.fact 10 (f := .glo "knot_row") rfl)
  obtain ⟨fd_things_in, F_things_in⟩ := c.def_ 11 (d := dd_things_in) rfl
  have g_things_in := He.glo_ok X G0 (c.fact 11 (f := .glo "things_in") rfl)
  obtain ⟨fd_ranks_of, F_ranks_of⟩ := c.def_ 12 (d := dd_ranks_of) rfl
  have g_ranks_of := He.glo_ok X G0 (c.fact 12 (f := .glo "ranks_of") rfl)
  obtain ⟨fd_greatest_near, F_greatest_near⟩ := c.def_ 13 (d := dd_greatest_near) rfl
  have g_greatest_near := He.glo_ok X G0 (c.fact 13 (f := .glo "greatest_near") rfl)
  obtain ⟨fd_noise_value, F_noise_value⟩ := c.def_ 14 (d := dd_noise_value) rfl
  have g_noise_value := He.glo_ok X G0 (c.fact 14 (f := .glo "noise_value") rfl)
  obtain ⟨fd_noise_range, F_noise_range⟩ := c.def_ 15 (d := dd_noise_range) rfl
  have g_noise_range := He.glo_ok X G0 (c.fact 15 (f := .glo "noise_range") rfl)
  obtain ⟨fd_steps_of, F_steps_of⟩ := c.def_ 16 (d := dd_steps_of) rfl
  have g_steps_of := He.glo_ok X G0 (c.fact 16 (f := .glo "steps_of") rfl)
  obtain ⟨fd_run_steps, F_run_steps⟩ := c.def_ 17 (d := dd_run_steps) rfl
  have g_run_steps := He.glo_ok X G0 (c.fact 17 (f := .glo "run_steps") rfl)
  obtain ⟨fd_greatest_of, F_greatest_of⟩ := c.def_ 18 (d := dd_greatest_of) rfl
  have g_greatest_of := He.glo_ok X G0 (c.fact 18 (f := .glo "greatest_of") rfl)
  obtain ⟨fd_weighed, F_weighed⟩ := c.def_ 19 (d := dd_weighed) rfl
  have g_weighed := He.glo_ok X G0 (c.fact 19 (f := .glo "weighed") rfl)
  obtain ⟨fd_weighed_long, F_weighed_long⟩ := c.def_ 20 (d := dd_weighed_long) rfl
  have g_weighed_long := He.glo_ok X G0 (c.fact 20 (f := .glo "weighed_long") rfl)
  obtain ⟨fd_must_ranges, F_must_ranges⟩ := c.def_ 21 (d := dd_must_ranges) rfl
  have g_must_ranges := He.glo_ok X G0 (c.fact 21 (f := .glo "must_ranges") rfl)
  obtain ⟨fd_placed, F_placed⟩ := c.def_ 22 (d := dd_placed) rfl
  have g_placed := He.glo_ok X G0 (c.fact 22 (f := .glo "placed") rfl)
  obtain ⟨fd_run_known, F_run_known⟩ := c.def_ 23 (d := dd_run_known) rfl
  have g_run_known := He.glo_ok X G0 (c.fact 23 (f := .glo "run_known") rfl)
  obtain ⟨fd_ranges_of, F_ranges_of⟩ := c.def_ 24 (d := dd_ranges_of) rfl
  have g_ranges_of := He.glo_ok X G0 (c.fact 24 (f := .glo "ranges_of") rfl)
  obtain ⟨fd_below_range, F_below_range⟩ := c.def_ 25 (d := dd_below_range) rfl
  have g_below_range := He.glo_ok X G0 (c.fact 25 (f := .glo "below_range") rfl)
  obtain ⟨fd_joined_range, F_joined_range⟩ := c.def_ 26 (d := dd_joined_range) rfl
  have g_joined_range := He.glo_ok X G0 (c.fact 26 (f := .glo "joined_range") rfl)
  obtain ⟨fd_layer_of, F_layer_of⟩ := c.def_ 27 (d := dd_layer_of) rfl
  have g_layer_of := He.glo_ok X G0 (c.fact 27 (f := .glo "layer_of") rfl)
  obtain ⟨fd_must_shape, F_must_shape⟩ := c.def_ 28 (d := dd_must_shape) rfl
  have g_must_shape := He.glo_ok X G0 (c.fact 28 (f := .glo "must_shape") rfl)
  obtain ⟨fd_is_met, F_is_met⟩ := c.def_ 29 (d := dd_is_met) rfl
  have g_is_met := He.glo_ok X G0 (c.fact 29 (f := .glo "is_met") rfl)
  obtain ⟨fd_with_edit, F_with_edit⟩ := c.def_ 30 (d := dd_with_edit) rfl
  have g_with_edit := He.glo_ok X G0 (c.fact 30 (f := .glo "with_edit") rfl)
  obtain ⟨fd_touched_boxes, F_touched_boxes⟩ := c.def_ 31 (d := dd_touched_boxes) rfl
  have g_touched_boxes := He.glo_ok X G0 (c.fact 31 (f := .glo "touched_boxes") rfl)
  obtain ⟨fd_same_many, F_same_many⟩ := c.def_ 32 (d := dd_same_many) rfl
  have g_same_many := He.glo_ok X G0 (c.fact 32 (f := .glo "same_many") rfl)
  obtain ⟨fd_read_box, F_read_box⟩ := c.def_ 33 (d := dd_read_box) rfl
  have g_read_box := He.glo_ok X G0 (c.fact 33 (f := .glo "read_box") rfl)
  obtain ⟨fd_law_at, F_law_at⟩ := c.def_ 34 (d := dd_law_at) rfl
  have g_law_at := He.glo_ok X G0 (c.fact 34 (f := .glo "_law_at") rfl)
  obtain ⟨fd_law_mixed, F_law_mixed⟩ := c.def_ 35 (d := dd_law_mixed) rfl
  have g_law_mixed := He.glo_ok X G0 (c.fact 35 (f := .glo "_law_mixed") rfl)
  obtain ⟨fd_law_purse, F_law_purse⟩ := c.def_ 36 (d := dd_law_purse) rfl
  have g_law_purse := He.glo_ok X G0 (c.fact 36 (f := .glo "_law_purse") rfl)
  obtain ⟨fd_law_draw, F_law_draw⟩ := c.def_ 37 (d := dd_law_draw) rfl
  have g_law_draw := He.glo_ok X G0 (c.fact 37 (f := .glo "_law_draw") rfl)
  obtain ⟨fd_law_knot, F_law_knot⟩ := c.def_ 38 (d := dd_law_knot) rfl
  have g_law_knot := He.glo_ok X G0 (c.fact 38 (f := .glo "_law_knot") rfl)
  obtain ⟨fd_law_box, F_law_box⟩ := c.def_ 39 (d := dd_law_box) rfl
  have g_law_box := He.glo_ok X G0 (c.fact 39 (f := .glo "_law_box") rfl)
  obtain ⟨fd_law_points, F_law_points⟩ := c.def_ 40 (d := dd_law_points) rfl
  have g_law_points := He.glo_ok X G0 (c.fact 40 (f := .glo "_law_points") rfl)
  obtain ⟨fd_law_bears, F_law_bears⟩ := c.def_ 41 (d := dd_law_bears) rfl
  have g_law_bears := He.glo_ok X G0 (c.fact 41 (f := .glo "_law_bears") rfl)
  obtain ⟨fd_law_things, F_law_things⟩ := c.def_ 42 (d := dd_law_things) rfl
  have g_law_things := He.glo_ok X G0 (c.fact 42 (f := .glo "_law_things") rfl)
  obtain ⟨fd_law_parts, F_law_parts⟩ := c.def_ 43 (d := dd_law_parts) rfl
  have g_law_parts := He.glo_ok X G0 (c.fact 43 (f := .glo "_law_parts") rfl)
  obtain ⟨fd_law_apart, F_law_apart⟩ := c.def_ 44 (d := dd_law_apart) rfl
  have g_law_apart := He.glo_ok X G0 (c.fact 44 (f := .glo "_law_apart") rfl)
  obtain ⟨fd_law, F_law⟩ := c.def_ 45 (d := dd_law) rfl
  have g_law := He.glo_ok X G0 (c.fact 45 (f := .glo "law") rfl)
  obtain ⟨fd_Memory___init__, F_Memory___init__⟩ := c.def_ 46 (d := dd_Memory___init__) rfl
  obtain ⟨fd_Land___init__, F_Land___init__⟩ := c.def_ 47 (d := dd_Land___init__) rfl
  obtain ⟨fd_Land_seed, F_Land_seed⟩ := c.def_ 48 (d := dd_Land_seed) rfl
  obtain ⟨fd_Memory_forget, F_Memory_forget⟩ := c.def_ 49 (d := dd_Memory_forget) rfl
  obtain ⟨fd_Land__stand, F_Land__stand⟩ := c.def_ 50 (d := dd_Land__stand) rfl
  obtain ⟨fd_Land__do, F_Land__do⟩ := c.def_ 51 (d := dd_Land__do) rfl
  obtain ⟨fd_Land_edit, F_Land_edit⟩ := c.def_ 52 (d := dd_Land_edit) rfl
  have g_Land := He.glo_ok X G0 (c.fact 80 (f := .glo "Land") rfl)
  have mk_Land := He.mkr_ok (c.fact 95 (f := .mkr "Land") rfl)
  have g_Memory := He.glo_ok X G0 (c.fact 96 (f := .glo "Memory") rfl)
  have mk_Memory := He.mkr_ok (c.fact 100 (f := .mkr "Memory") rfl)
  have mt_Land_seed := He.meth_ok (c.fact 101 (f := .meth "Land" "seed") rfl)
  have mt_Memory_forget := He.meth_ok (c.fact 102 (f := .meth "Memory" "forget") rfl)
  have mt_Land__stand := He.meth_ok (c.fact 103 (f := .meth "Land" "_stand") rfl)
  have mt_Land__do := He.meth_ok (c.fact 104 (f := .meth "Land" "_do") rfl)
  have mt_Land_edit := He.meth_ok (c.fact 105 (f := .meth "Land" "edit") rfl)
  have T : Bi mg := ⟨He.free_ok X G0 (c.fact 46 (f := .free "isinstance") rfl), He.free_ok X G0 (c.fact 47 (f := .free "int") rfl), He.free_ok X G0 (c.fact 48 (f := .free "bool") rfl), He.free_ok X G0 (c.fact 49 (f := .free "str") rfl), He.free_ok X G0 (c.fact 50 (f := .free "len") rfl), He.free_ok X G0 (c.fact 51 (f := .free "tuple") rfl), He.free_ok X G0 (c.fact 52 (f := .free "max") rfl), He.free_ok X G0 (c.fact 53 (f := .free "min") rfl), He.free_ok X G0 (c.fact 54 (f := .free "enumerate") rfl), He.free_ok X G0 (c.fact 55 (f := .free "list") rfl), He.free_ok X G0 (c.fact 56 (f := .free "range") rfl), He.free_ok X G0 (c.fact 57 (f := .free "zip") rfl), He.free_ok X G0 (c.fact 58 (f := .free "reversed") rfl), He.free_ok X G0 (c.fact 59 (f := .free "abs") rfl), He.free_ok X G0 (c.fact 60 (f := .free "sum") rfl)⟩
  have hx := c0.more
  obtain ⟨hx_ALL_POINTS, hx⟩ := He.ba hx
  obtain ⟨hx_PAIRS, hx⟩ := He.ba hx
  obtain ⟨hx_PLACE, hx⟩ := He.ba hx
  obtain ⟨hx_NOISE, hx⟩ := He.ba hx
  obtain ⟨hx_SHAPES_edits, hx⟩ := He.ba hx
  have G : Kn w K mg := ⟨He.int_ok X G0 (c.fact 61 (f := .int "EDGE" (1000000)) rfl), He.glo_ok X G0 (c.fact 76 (f := .glo "ALL_POINTS") rfl), fun H => He.tupB_ok hx_ALL_POINTS H, He.int_ok X G0 (c.fact 62 (f := .int "LONGEST_NAME" (8)) rfl), He.int_ok X G0 (c.fact 63 (f := .int "FAR" (3)) rfl), He.int_ok X G0 (c.fact 64 (f := .int "FARTHEST" (8)) rfl), He.int_ok X G0 (c.fact 65 (f := .int "MOST_POINTS" (1024)) rfl), He.int_ok X G0 (c.fact 66 (f := .int "MOST_SQUARES" (64)) rfl), He.int_ok X G0 (c.fact 67 (f := .int "GREATEST_KNOT" (65535)) rfl), He.int_ok X G0 (c.fact 68 (f := .int "MOST_FIELDS" (200)) rfl), He.int_ok X G0 (c.fact 69 (f := .int "GREATEST_VALUE" (1000000000000000000000000000000)) rfl), He.int_ok X G0 (c.fact 70 (f := .int "BEYOND" (1000000000000000000000000000001)) rfl), He.glo_ok X G0 (c.fact 77 (f := .glo "PAIRS") rfl), fun H => He.tupB_ok hx_PAIRS H, He.glo_ok X G0 (c.fact 78 (f := .glo "PLACE") rfl), fun H => He.tupB_ok hx_PLACE H, He.glo_ok X G0 (c.fact 79 (f := .glo "NOISE") rfl), fun H => He.tupB_ok hx_NOISE H, He.int_ok X G0 (c.fact 71 (f := .int "GREATEST_NUMBER" (999999999)) rfl), He.int_ok X G0 (c.fact 72 (f := .int "FARTHEST_COPY" (1000)) rfl), He.glo_ok X G0 (c.fact 106 (f := .glo "SHAPES_edits") rfl), Ki.tab_of (c0.t.tab 0) hx_SHAPES_edits, He.int_ok X G0 (c.fact 73 (f := .int "MEMORY" (64)) rfl), He.int_ok X G0 (c.fact 74 (f := .int "GREATEST_MEMORY" (1000)) rfl), He.int_ok X G0 (c.fact 75 (f := .int "MOST_EDITS" (60)) rfl), He.cls_ok (c.fact 81 (f := .cls "Land") rfl), He.noat_ok (c.fact 82 (f := .noat "Land" "_steps") rfl), He.noat_ok (c.fact 83 (f := .noat "Land" "_rules") rfl), He.noat_ok (c.fact 84 (f := .noat "Land" "_seed") rfl), He.noat_ok (c.fact 85 (f := .noat "Land" "_bound") rfl), He.noat_ok (c.fact 86 (f := .noat "Land" "_standing") rfl), He.noat_ok (c.fact 87 (f := .noat "Land" "_layers") rfl), He.noat_ok (c.fact 88 (f := .noat "Land" "_next") rfl), He.noat_ok (c.fact 89 (f := .noat "Land" "_done") rfl), He.noat_ok (c.fact 90 (f := .noat "Land" "_undone") rfl), He.noat_ok (c.fact 91 (f := .noat "Land" "_known") rfl), He.noat_ok (c.fact 92 (f := .noat "Land" "_tiles") rfl), He.noat_ok (c.fact 93 (f := .noat "Land" "_squares") rfl), He.noat_ok (c.fact 94 (f := .noat "Land" "_tables") rfl), He.cls_ok (c.fact 97 (f := .cls "Memory") rfl), He.noat_ok (c.fact 98 (f := .noat "Memory" "bound") rfl), He.noat_ok (c.fact 99 (f := .noat "Memory" "held") rfl)⟩
  have e := hfa.symm.trans g_law
  cases e
  refine ⟨fd_law, fun s v => FunD.bindsA (ps := ["_law_script"]) F_law (fun _ _ _ _ _ _ us hl => match us, hl with | [_], _ => rfl) s [v] rfl, fun base _ _ => ?_⟩
  have D_is_from : Df P w K mg base "is_from" ["thing", "low", "high"] 1 spFrom := ⟨_, _, g_is_from, F_is_from.kp, F_is_from.bindsN fun _ _ _ _ _ _ us hl => match us, hl with | [_, _, _], _ => rfl, ok_is_from F_is_from T G ⟩
  have D_is_name : Df P w K mg base "is_name" ["thing"] 1 spName := ⟨_, _, g_is_name, F_is_name.kp, F_is_name.bindsN fun _ _ _ _ _ _ us hl => match us, hl with | [_], _ => rfl, ok_is_name F_is_name T G ⟩
  have D_is_point : Df P w K mg base "is_point" ["x", "z"] 1 spPt := ⟨_, _, g_is_point, F_is_point.kp, F_is_point.bindsN fun _ _ _ _ _ _ us hl => match us, hl with | [_, _], _ => rfl, ok_is_point F_is_point T G ⟩
  have D_must_point : Df P w K mg base "must_point" ["x", "z"] 2 spMustPt := ⟨_, _, g_must_point, F_must_point.kp, F_must_point.bindsN fun _ _ _ _ _ _ us hl => match us, hl with | [_, _], _ => rfl, ok_must_point F_must_point T G D_is_point⟩
  have D_is_box : Df P w K mg base "is_box" ["thing"] 2 spIsBox := ⟨_, _, g_is_box, F_is_box.kp, F_is_box.bindsN fun _ _ _ _ _ _ us hl => match us, hl with | [_], _ => rfl, ok_is_box F_is_box T G D_is_point⟩
  have D_must_box : Df P w K mg base "must_box" ["box"] 3 spMustBox := ⟨_, _, g_must_box, F_must_box.kp, F_must_box.bindsN fun _ _ _ _ _ _ us hl => match us, hl with | [_], _ => rfl, ok_must_box F_must_box T G D_is_box⟩
  have D_must_box_of : Df P w K mg base "must_box_of" ["box", "most"] 4 spBoxOf := ⟨_, _, g_must_box_of, F_must_box_of.kp, F_must_box_of.bindsN fun _ _ _ _ _ _ us hl => match us, hl with | [_, _], _ => rfl, ok_must_box_of F_must_box_of T G D_must_box⟩
  have D_points_of : Df P w K mg base "points_of" ["box"] 1 spPts := ⟨_, _, g_points_of, F_points_of.kp, F_points_of.bindsN fun _ _ _ _ _ _ us hl => match us, hl with | [_], _ => rfl, ok_points_of F_points_of T G ⟩
  have D_knot : Df P w K mg base "knot" ["seed", "salt", "i", "j"] 1 spKnot := ⟨_, _, g_knot, F_knot.kp, F_knot.bindsN fun _ _ _ _ _ _ us hl => match us, hl with | [_, _, _, _], _ => rfl, ok_knot F_knot T G ⟩
  have D_four_knots : Df P w K mg base "four_knots" ["seed", "salt", "i", "j"] 1 spFour := ⟨_, _, g_four_knots, F_four_knots.kp, F_four_knots.bindsN fun _ _ _ _ _ _ us hl => match us, hl with | [_, _, _, _], _ => rfl, ok_four_knots F_four_knots T G ⟩
  have D_knot_row : Df P w K mg base "knot_row" ["seed", "salt", "i", "places"] 1 spKrow := ⟨_, _, g_knot_row, F_knot_row.kp, F_knot_row.bindsN fun _ _ _ _ _ _ us hl => match us, hl with | [_, _, _, _], _ => rfl, ok_knot_row F_knot_row T G ⟩
  have D_ranks_of : Df P w K mg base "ranks_of" ["seed", "salt", "box"] 2 spRanks := ⟨_, _, g_ranks_of, F_ranks_of.kp, F_ranks_of.bindsN fun _ _ _ _ _ _ us hl => match us, hl with | [_, _, _], _ => rfl, ok_ranks_of F_ranks_of T G D_points_of D_knot_row⟩
  have D_greatest_near : Df P w K mg base "greatest_near" ["ranks", "far"] 1 spGreat := ⟨_, _, g_greatest_near, F_greatest_near.kp, F_greatest_near.bindsN fun _ _ _ _ _ _ us hl => match us, hl with | [_, _], _ => rfl, ok_greatest_near F_greatest_near T G ⟩
  have ME_Land_seed : Lc.MeC P w K mg base "Land" "seed" ["self"] 1 (spSeed K) := ⟨_, _, G.cl_Land, mt_Land_seed, F_Land_seed.bindsN fun _ _ _ _ _ _ us hl => match us, hl with | [_], _ => rfl, ok_Land_seed F_Land_seed T G ⟩

  have DK_things_in : DfK P w K mg base "things_in" ["land", "box", "salt", "far", "least"] ["least", "far", "salt", "box", "land"] (onlyK List.reverse) 5 (spThings K) := ⟨_, _, _, g_things_in, F_things_in.kp, kb_of List.reverse F_things_in (by decide) (fun ws h => by first | exact h | (rw [List.length_reverse] at h; exact h))
    (fun r => by first | exact r | exact vals_rev r) (fun _ _ _ _ _ _ ws hl => match ws, hl with | [_, _, _, _, _], _ => rfl), ok_things_in F_things_in T G D_must_box_of D_ranks_of D_greatest_near D_is_from ME_Land_seed D_points_of⟩
  have DN_things_in_salt : Lc.DfN P w K mg base "things_in" ["land", "box", "salt", "far", "least"] 2 ["salt"] (fun vs zs => vs ++ (zs ++ [.int (3), .int (0)])) 5 (spThings K) := by
    obtain ⟨mv, hb⟩ := F_things_in.kbinds0 (ps := ["land", "box", "salt", "far", "least"]) 2 ["salt"] [("far", .int (3)), ("least", .int (0))] (fun vs mz zs => vs ++ (zs ++ mz)) (by intro z; cases z) (by intro q hq; first | exact hq | (cases hq; done) | (simp only [List.mem_cons, List.not_mem_nil, or_false] at hq; first | (subst hq; first | exact List.Mem.head _ | exact List.Mem.tail _ (List.Mem.head _)) | (rcases hq with rfl | rfl <;> first | exact List.Mem.head _ | exact List.Mem.tail _ (List.Mem.head _)))) (fun r1 r2 r3 => Vals.append r1 (Vals.append r3 r2)) (fun D doc pm an cdv ct us mv ws h1 h2 h3 => match us, mv, ws, h1, h2, h3 with | [_, _], [_, _], [_], _, _, _ => ⟨_, _, _, _, _, _, rfl, rfl, ⟨_, _, _, _, _, _, rfl, rfl, rfl⟩⟩)
    exact ⟨_, _, _, g_things_in, F_things_in.kp, hb, ok_things_in F_things_in T G D_must_box_of D_ranks_of D_greatest_near D_is_from ME_Land_seed D_points_of⟩
  have DN_things_in_salt_far_least : Lc.DfN P w K mg base "things_in" ["land", "box", "salt", "far", "least"] 2 ["salt", "far", "least"] (fun vs zs => vs ++ (zs ++ [])) 5 (spThings K) := by
    obtain ⟨mv, hb⟩ := F_things_in.kbinds0 (ps := ["land", "box", "salt", "far", "least"]) 2 ["salt", "far", "least"] [] (fun vs mz zs => vs ++ (zs ++ mz)) (by intro z; cases z) (by intro q hq; first | exact hq | (cases hq; done) | (simp only [List.mem_cons, List.not_mem_nil, or_false] at hq; first | (subst hq; first | exact List.Mem.head _ | exact List.Mem.tail _ (List.Mem.head _)) | (rcases hq with rfl | rfl <;> first | exact List.Mem.head _ | exact List.Mem.tail _ (List.Mem.head _)))) (fun r1 r2 r3 => Vals.append r1 (Vals.append r3 r2)) (fun D doc pm an cdv ct us mv ws h1 h2 h3 => match us, mv, ws, h1, h2, h3 with | [_, _], [], [_, _, _], _, _, _ => rfl)
    exact ⟨_, _, _, g_things_in, F_things_in.kp, hb, ok_things_in F_things_in T G D_must_box_of D_ranks_of D_greatest_near D_is_from ME_Land_seed D_points_of⟩
  have D_noise_value : Df P w K mg base "noise_value" ["seed", "salt", "log", "x", "z", "known"] 2 spNV := ⟨_, _, g_noise_value, F_noise_value.kp, F_noise_value.bindsN fun _ _ _ _ _ _ us hl => match us, hl with | [_, _, _, _, _, _], _ => rfl, ok_noise_value F_noise_value T G D_knot D_four_knots⟩
  have D_noise_range : Df P w K mg base "noise_range" ["seed", "salt", "log", "box"] 3 spNRg := ⟨_, _, g_noise_range, F_noise_range.kp, F_noise_range.bindsN fun _ _ _ _ _ _ us hl => match us, hl with | [_, _, _, _], _ => rfl, ok_noise_range F_noise_range T G ⟩
  have DW := ok_weighed F_weighed F_weighed_long T G g_weighed F_weighed.kp (F_weighed.bindsN (ps := ["field", "lets"]) fun _ _ _ _ _ _ us hl => match us, hl with | [_, _], _ => rfl) g_weighed_long F_weighed_long.kp (F_weighed_long.bindsN (ps := ["field", "lets"]) fun _ _ _ _ _ _ us hl => match us, hl with | [_, _], _ => rfl) D_is_from D_is_name (base := base)
  have D_weighed : Df P w K mg base "weighed" ["field", "lets"] 42 (spW K 20) := ⟨_, _, g_weighed, F_weighed.kp, F_weighed.bindsN fun _ _ _ _ _ _ us hl => match us, hl with | [_, _], _ => rfl, (DW 20).1⟩
  have D_greatest_of : Df P w K mg base "greatest_of" ["rules"] 43 spGr := ⟨_, _, g_greatest_of, F_greatest_of.kp, F_greatest_of.bindsN fun _ _ _ _ _ _ us hl => match us, hl with | [_], _ => rfl, ok_greatest_of F_greatest_of T G D_weighed⟩
  have D_placed : Df P w K mg base "placed" ["field", "dx", "dz", "lets", "made"] 61 (spPlaced 60) :=
    have bb := F_placed.bindsN (ps := ["field", "dx", "dz", "lets", "made"]) fun _ _ _ _ _ _ us hl => match us, hl with | [_, _, _, _, _], _ => rfl
    ⟨_, _, g_placed, F_placed.kp, bb, ok_placed F_placed T G  g_placed F_placed.kp bb 60⟩
  have D_below_range : Df P w K mg base "below_range" ["parts"] 1 spBelw := ⟨_, _, g_below_range, F_below_range.kp, F_below_range.bindsN fun _ _ _ _ _ _ us hl => match us, hl with | [_], _ => rfl, ok_below_range F_below_range T G ⟩
  have D_joined_range : Df P w K mg base "joined_range" ["word", "one", "other"] 1 spJoin := ⟨_, _, g_joined_range, F_joined_range.kp, F_joined_range.bindsN fun _ _ _ _ _ _ us hl => match us, hl with | [_, _, _], _ => rfl, ok_joined_range F_joined_range T G ⟩
  have D_ranges_of : Df P w K mg base "ranges_of" ["some", "seed", "box"] 4 (spRgs K) := ⟨_, _, g_ranges_of, F_ranges_of.kp, F_ranges_of.bindsN fun _ _ _ _ _ _ us hl => match us, hl with | [_, _, _], _ => rfl, ok_ranges_of F_ranges_of T G D_noise_range D_below_range D_joined_range⟩
  have D_must_ranges : Df P w K mg base "must_ranges" ["steps"] 5 (spMust K) := ⟨_, _, g_must_ranges, F_must_ranges.kp, F_must_ranges.bindsN fun _ _ _ _ _ _ us hl => match us, hl with | [_], _ => rfl, ok_must_ranges F_must_ranges T G D_ranges_of⟩
  have D_steps_of : Df P w K mg base "steps_of" ["rules"] 62 spSteps := ⟨_, _, g_steps_of, F_steps_of.kp, F_steps_of.bindsN fun _ _ _ _ _ _ us hl => match us, hl with | [_], _ => rfl, ok_steps_of F_steps_of T G D_greatest_of D_placed D_must_ranges⟩
  have D_run_known : Df P w K mg base "run_known" ["some", "seed", "x", "z", "known"] 3 (spRun K) := ⟨_, _, g_run_known, F_run_known.kp, F_run_known.bindsN fun _ _ _ _ _ _ us hl => match us, hl with | [_, _, _, _, _], _ => rfl, ok_run_known F_run_known T G D_noise_value⟩
  have D_run_steps : Df P w K mg base "run_steps" ["some", "seed", "x", "z"] 4 (spRunS K) := ⟨_, _, g_run_steps, F_run_steps.kp, F_run_steps.bindsN fun _ _ _ _ _ _ us hl => match us, hl with | [_, _, _, _], _ => rfl, ok_run_steps F_run_steps T G D_run_known⟩
  have D_must_shape : Df P w K mg base "must_shape" ["edit"] 1 spShape := ⟨_, _, g_must_shape, F_must_shape.kp, F_must_shape.bindsN fun _ _ _ _ _ _ us hl => match us, hl with | [_], _ => rfl, ok_must_shape F_must_shape T G ⟩
  have D_layer_of : Df P w K mg base "layer_of" ["edit"] 63 spLayer := ⟨_, _, g_layer_of, F_layer_of.kp, F_layer_of.bindsN fun _ _ _ _ _ _ us hl => match us, hl with | [_], _ => rfl, ok_layer_of F_layer_of T G D_must_shape D_must_box D_is_from D_steps_of⟩
  have D_is_met : Df P w K mg base "is_met" ["box", "boxes"] 1 (spMet K) := ⟨_, _, g_is_met, F_is_met.kp, F_is_met.bindsN fun _ _ _ _ _ _ us hl => match us, hl with | [_, _], _ => rfl, ok_is_met F_is_met T G ⟩
  have D_with_edit : Df P w K mg base "with_edit" ["standing", "number", "edit"] 64 (spWith K) := ⟨_, _, g_with_edit, F_with_edit.kp, F_with_edit.bindsN fun _ _ _ _ _ _ us hl => match us, hl with | [_, _, _], _ => rfl, ok_with_edit F_with_edit T G D_layer_of⟩
  have D_same_many : Df P w K mg base "same_many" ["before", "behind"] 1 (spSame K) := ⟨_, _, g_same_many, F_same_many.kp, F_same_many.bindsN fun _ _ _ _ _ _ us hl => match us, hl with | [_, _], _ => rfl, ok_same_many F_same_many T G ⟩
  have D_read_box : Df P w K mg base "read_box" ["edit"] 1 spRead := ⟨_, _, g_read_box, F_read_box.kp, F_read_box.bindsN fun _ _ _ _ _ _ us hl => match us, hl with | [_], _ => rfl, ok_read_box F_read_box T G ⟩
  have D_touched_boxes : Df P w K mg base "touched_boxes" ["before", "behind"] 2 (spTouch K) := ⟨_, _, g_touched_boxes, F_touched_boxes.kp, F_touched_boxes.bindsN fun _ _ _ _ _ _ us hl => match us, hl with | [_, _], _ => rfl, ok_touched_boxes F_touched_boxes T G D_same_many D_is_met D_read_box⟩
  have D_law_at : Df P w K mg base "_law_at" ["_law_script", "_law_k"] 1 (spAt K) := ⟨_, _, g_law_at, F_law_at.kp, F_law_at.bindsN fun _ _ _ _ _ _ us hl => match us, hl with | [_, _], _ => rfl, ok_law_at F_law_at T G ⟩
  have D_law_mixed : Df P w K mg base "_law_mixed" ["_law_cell", "_law_k"] 1 spMixed := ⟨_, _, g_law_mixed, F_law_mixed.kp, F_law_mixed.bindsN fun _ _ _ _ _ _ us hl => match us, hl with | [_, _], _ => rfl, ok_law_mixed F_law_mixed T G ⟩
  have D_law_purse : Df P w K mg base "_law_purse" ["_law_script", "_law_at_here"] 2 (spPurse K) := ⟨_, _, g_law_purse, F_law_purse.kp, F_law_purse.bindsN fun _ _ _ _ _ _ us hl => match us, hl with | [_, _], _ => rfl, ok_law_purse F_law_purse T G D_law_at⟩
  have D_law_draw : Df P w K mg base "_law_draw" ["_law_purse_here", "_law_out_of"] 2 spDraw := ⟨_, _, g_law_draw, F_law_draw.kp, F_law_draw.bindsN fun _ _ _ _ _ _ us hl => match us, hl with | [_, _], _ => rfl, ok_law_draw F_law_draw T G D_law_mixed⟩
  have D_law_knot : Df P w K mg base "_law_knot" ["_law_grain", "_law_grit", "_law_i", "_law_j"] 1 spKnot := ⟨_, _, g_law_knot, F_law_knot.kp, F_law_knot.bindsN fun _ _ _ _ _ _ us hl => match us, hl with | [_, _, _, _], _ => rfl, ok_law_knot F_law_knot T G ⟩
  have D_law_box : Df P w K mg base "_law_box" ["_law_purse_here", "_law_wide"] 3 spBoxW := ⟨_, _, g_law_box, F_law_box.kp, F_law_box.bindsN fun _ _ _ _ _ _ us hl => match us, hl with | [_, _], _ => rfl, ok_law_box F_law_box T G D_law_draw⟩
  have D_law_points : Df P w K mg base "_law_points" ["_law_area"] 1 spPoints := ⟨_, _, g_law_points, F_law_points.kp, F_law_points.bindsN fun _ _ _ _ _ _ us hl => match us, hl with | [_], _ => rfl, ok_law_points F_law_points T G ⟩
  have D_law_bears : Df P w K mg base "_law_bears" ["_law_grain", "_law_grit", "_law_spot_here", "_law_reach"] 2 spBears := ⟨_, _, g_law_bears, F_law_bears.kp, F_law_bears.bindsN fun _ _ _ _ _ _ us hl => match us, hl with | [_, _, _, _], _ => rfl, ok_law_bears F_law_bears T G D_law_knot⟩
  have D_law_things : Df P w K mg base "_law_things" ["_law_grain", "_law_grit", "_law_area", "_law_reach", "_law_few"] 3 spThingsL := ⟨_, _, g_law_things, F_law_things.kp, F_law_things.bindsN fun _ _ _ _ _ _ us hl => match us, hl with | [_, _, _, _, _], _ => rfl, ok_law_things F_law_things T G D_law_points D_law_bears D_law_knot⟩
  have D_law_parts : Df P w K mg base "_law_parts" ["_law_purse_here", "_law_area"] 3 spParts := ⟨_, _, g_law_parts, F_law_parts.kp, F_law_parts.bindsN fun _ _ _ _ _ _ us hl => match us, hl with | [_, _], _ => rfl, ok_law_parts F_law_parts T G D_law_draw⟩
  have D_law_apart : Df P w K mg base "_law_apart" ["_law_some", "_law_reach"] 1 spApart := ⟨_, _, g_law_apart, F_law_apart.kp, F_law_apart.bindsN fun _ _ _ _ _ _ us hl => match us, hl with | [_, _], _ => rfl, ok_law_apart F_law_apart T G ⟩
  have MK_Memory : Lc.MkC P w K mg base "Memory" ["self", "bound"] [] 1 (spMem K) := ⟨_, _, [], g_Memory, mk_Memory, .nil, F_Memory___init__.bindsN (ps := ["self", "bound"]) fun _ _ _ _ _ _ us hl => match us, hl with | [_, _], _ => rfl, ok_Memory___init__ F_Memory___init__ T G ⟩
  obtain ⟨ds_Land, hv_Land, hb_Land⟩ := F_Land___init__.binds0 (ps := ["self", "rules", "seed", "memory"]) 3 (by intro z; cases z) rfl (fun D doc pm an cdv ct us ks hu hk => match us, ks, hu, hk with | [_, _, _], [_], _, _ => ⟨_, _, _, _, _, _, rfl, rfl, rfl⟩)
  have MK_Land : Lc.MkC P w K mg base "Land" ["self", "rules", "seed", "memory"] [.int (64)] 63 (spLand K) := ⟨_, _, ds_Land, g_Land, mk_Land, hv_Land, hb_Land, ok_Land___init__ F_Land___init__ T G MK_Memory D_steps_of D_is_from⟩
  have ME_Memory_forget : Lc.MeC P w K mg base "Memory" "forget" ["self", "boxes"] 2 (spForget K) := ⟨_, _, G.cl_Memory, mt_Memory_forget, F_Memory_forget.bindsN fun _ _ _ _ _ _ us hl => match us, hl with | [_, _], _ => rfl, ok_Memory_forget F_Memory_forget T G D_is_met⟩
  have ME_Land__stand : Lc.MeC P w K mg base "Land" "_stand" ["self", "standing"] 3 (spStand K) := ⟨_, _, G.cl_Land, mt_Land__stand, F_Land__stand.bindsN fun _ _ _ _ _ _ us hl => match us, hl with | [_, _], _ => rfl, ok_Land__stand F_Land__stand T G D_touched_boxes ME_Memory_forget⟩
  have ME_Land__do : Lc.MeC P w K mg base "Land" "_do" ["self", "standing", "number"] 4 (spDo K) := ⟨_, _, G.cl_Land, mt_Land__do, F_Land__do.bindsN fun _ _ _ _ _ _ us hl => match us, hl with | [_, _, _], _ => rfl, ok_Land__do F_Land__do T G ME_Land__stand⟩
  have ME_Land_edit : Lc.MeC P w K mg base "Land" "edit" ["self", "edit"] 65 (spEdit K) := ⟨_, _, G.cl_Land, mt_Land_edit, F_Land_edit.bindsN fun _ _ _ _ _ _ us hl => match us, hl with | [_, _], _ => rfl, ok_Land_edit F_Land_edit T G ME_Land__do D_with_edit⟩
  exact ok_law F_law T G D_law_purse D_law_draw D_law_box MK_Land D_law_things DK_things_in DN_things_in_salt DN_things_in_salt_far_least ME_Land_edit D_law_parts D_law_apart
end L62
open PySem PySem.W PySem.Calls PyProof.Rows
theorem PySem.Challenge.cw_landweave_k62_things_holds : PySem.Challenge.rw_landweave_k62_things.Holds := by
  refine L62.Hd.pre fun w mg fa h Y G hmg => ?_
  obtain ⟨K, KX, c⟩ := Y
  obtain ⟨fd, hb, hF⟩ := L62.facts (P := (PySem.Challenge.rw_landweave_k62_things).prog) (w := w) KX G hmg c
  exact ⟨K, fd, L62.spLaw K, KX, hb, fun H a ns hl _ hS => ⟨a, ns, rfl, hS, fun _ => rfl⟩, hF⟩

