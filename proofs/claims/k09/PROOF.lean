import PyProof.Rows.All
import Wide.All
import OpenK.AllK
import Wide.FinOn
import KE.KStateDown
import Lean
import HandS.ForMost
import HandS.More
import HandS.Defaults
import HandS.Wide
import HandS.WideBits
import HandS.IsInst
import HandS.Flow
import HandS.Head0
import HandS.Head1
import HandS.Head2
import HandS.HeadEnd
import HandS.HeadHook1
import HandS.HeadHook2
import KE.KExcIs
import KE.KExcInit
import HandS.ExcInit
import HandS.HeadHook4
import HandS.ExcOwn
import HandS.ExcValue
import PyProof.ReprRoads
import HandS.Ends
import HandS.TupMul
import HandS.WordsExc
import HandS.StrMore
import HandS.TupLen
import HandS.Conv
import HandS.Style
import HandS.Star
import HandS.Deep
import HandS.TryOnly
import PySem.Challenge.RW_landweave_k09_bounds
import PyProof.DictUpdate
import PyProof.DictDisplay
import PyProof.DictTable
import PyProof.EvalArms
import HandS.Dict
import PyProof.DictMoreH
import PyProof.WalkInts
import HandS.List
import HandS.Exc
import HandS.Walk
import HandS.TupAny
import PyProof.ReprReads
import PyProof.StrLawsRepr
import PyProof.FitsInt
set_option Elab.async false
set_option linter.all false
set_option maxRecDepth 100000
set_option maxHeartbeats 4000000
/-! Words of my own over the hand layer: defs by name, readings rule by rule. -/
namespace Lw
open PySem PySem.Spec PyProof.Rows L2

/-! ### a def of the top by its name -/
structure Df (P : Program) (w : World) (K : PySem.W.Frag) (mg : Str → Option Value) (base : Heap) (x : Str) (ps : List Str) (k : Nat) (sp : Sp) : Prop where
  ex : ∃ (f : Addr) (fd : FuncData), mg x = some (.ref f) ∧ PySem.W.keepIn K (.ref f) = true ∧ Binds K fd ps [] ∧ FnOk P w K mg base CX0 k f fd ps sp
section
variable {X : Cx} {k : Nat} {ps ks : List Str} {sp : Sp} {x : Str} {p pos : Pos} {e : Expr} {es : List Expr} {kws : List Keyword} {t tk : TA} {g : List Value → List Value → List Value} {gV : List V → List V → List V}
theorem pe_df (D : Df X.prog X.w X.K X.mg X.base x ps k sp) (hr : Room k X.A) (ha : PA X (e :: es) t) (hg : Gl X x := by rfl) (hdb : (x == ("__debug__" : Str)) = false := by decide)
    (he : starEach (e :: es) X.env = (false, eval e X.env) :: starEach es X.env := by rfl) (hpl : (backTo pos (starEach es X.env)).any (·.1) = false := by rfl) :
    PE X (.Call (.Name x p) (e :: es) [] pos) (tCall sp [] E0 t) := by
  obtain ⟨f, fd, hm, hk, hb, F⟩ := D.ex
  exact pe_call F hr hg hm hk hb .nil pass0 ha hdb he hpl
theorem pe_df0 (D : Df X.prog X.w X.K X.mg X.base x ps k sp) (hr : Room k X.A) (hg : Gl X x := by rfl) (hdb : (x == ("__debug__" : Str)) = false := by decide) :
    PE X (.Call (.Name x p) [] [] pos) (tCall sp [] E0 tNil) := by
  obtain ⟨f, fd, hm, hk, hb, F⟩ := D.ex
  exact pe_call0 F hr hg hm hk hb .nil pass0 hdb
/-- f(k = v, ..) -/
theorem pe_callK0 {CX : CXT} {f : Addr} {fd : FuncData} {E : XK} (F : FnOk X.prog X.w X.K X.mg X.base CX k f fd ps sp) (hr : Room k X.A) (hg : Gl X x) (hm : X.mg x = some (.ref f)) (hk : PySem.W.keepIn X.K (.ref f) = true) (hb : KBinds X.K fd ps ks g gV) (hx : Passes CX X E)
    (hkw : PK X kws tk) (hall : (backToKw pos (keywordEach kws X.env)).all (·.1.isSome) = true := by rfl) (hks : (backToKw pos (keywordEach kws X.env)).filterMap (·.1) = ks := by rfl)
    (hdb : (x == ("__debug__" : Str)) = false := by decide)
    (hpl : ((backTo pos (starEach [] X.env)).any (·.1) || (backToKw pos (keywordEach kws X.env)).any (·.1.isNone)) = false := by rfl) :
    PE X (.Call (.Name x p) [] kws pos) (tCallK sp gV E tNil tk) := by
  refine ⟨fun pins s σ H Q I h => ?_⟩
  refine wpAny_Call_Name_kw (ld_glob I hg hm ?_ hdb)
  refine PySem.W.callWith_KW0 (h₀ := X.base) I.ok.mod.kin hk hall ?_ hpl
  refine thn (hkw.run pos pins s σ H _ I h) fun ws s2 ⟨zs, H2, I2, rz, q2⟩ => ⟨I2.kIn, ?_⟩
  rw [hks]
  exact run_fnk (us := []) (vs := []) F hr hb hx I2 .nil rz q2
/-- the same def by keywords -/
structure DfK (P : Program) (w : World) (K : PySem.W.Frag) (mg : Str → Option Value) (base : Heap) (x : Str) (ps ks : List Str) (gV : List V → List V → List V) (k : Nat) (sp : Sp) : Prop where
  ex : ∃ (f : Addr) (fd : FuncData) (g : List Value → List Value → List Value), mg x = some (.ref f) ∧ PySem.W.keepIn K (.ref f) = true ∧ KBinds K fd ps ks g gV ∧ FnOk P w K mg base CX0 k f fd ps sp
theorem pe_dfK0 (D : DfK X.prog X.w X.K X.mg X.base x ps ks gV k sp) (hr : Room k X.A) (hkw : PK X kws tk) (hg : Gl X x := by rfl)
    (hall : (backToKw pos (keywordEach kws X.env)).all (·.1.isSome) = true := by rfl) (hks : (backToKw pos (keywordEach kws X.env)).filterMap (·.1) = ks := by rfl)
    (hdb : (x == ("__debug__" : Str)) = false := by decide)
    (hpl : ((backTo pos (starEach [] X.env)).any (·.1) || (backToKw pos (keywordEach kws X.env)).any (·.1.isNone)) = false := by rfl) :
    PE X (.Call (.Name x p) [] kws pos) (tCallK sp gV E0 tNil tk) := by
  obtain ⟨f, fd, g, hm, hk, hb, F⟩ := D.ex
  exact pe_callK0 F hr hg hm hk hb pass0 hkw hall hks hdb hpl
theorem vals_rev : ∀ {zs : List V} {ws : List Value}, Vals zs ws → Vals zs.reverse ws.reverse
  | _, _, .nil => .nil
  | _, _, .cons r t => by
    rw [List.reverse_cons, List.reverse_cons]
    exact Vals.append (vals_rev t) (.cons r .nil)
/-- by keywords alone, in another order -/
def onlyK {α : Type} (g : List α → List α) : List α → List α → List α
  | [], ws => g ws
  | _ :: _, _ => []
theorem kb_of {K : PySem.W.Frag} {x qual : Str} {params : Arguments} {body : List Stmt} {scope : Scope} {kws : List (Str × V)} {f : Addr} {fd : FuncData} {ps ks : List Str} (g : {α : Type} → List α → List α) (F : FunD K x qual params body scope [] kws f fd) (hp : 0 < ps.length)
    (hl : ∀ ws : List Value, (g ws).length = ps.length → ws.length = ps.length) (hr : ∀ {zs : List V} {ws : List Value}, Vals zs ws → Vals (g zs) (g ws))
    (h : ∀ (kV doc pm : Value) (an : Option Addr) (cdv ct : Value) (ws : List Value), ws.length = ps.length → bindArgs (PySem.W.fnOf x qual params body scope .none kV doc pm an cdv ct) ⟨[], ks.zip ws⟩ = pure (ps.zip (g ws))) :
    KBinds K fd ps ks (onlyK g) (onlyK g) := by
  obtain ⟨oc, od, dV, kV, doc, pm, an, cdv, ct, osl, rfl, lk, hcd, hD, hK⟩ := F.ex
  rcases hD with ⟨_, rfl⟩ | ⟨e, _⟩
  · refine ⟨fun s us ws X e => ?_, fun {vs us zs ws} r1 r2 => ?_⟩
    · cases us with
      | nil => exact BindsTo.of_eq (h kV doc pm an cdv ct ws (hl ws e))
      | cons u us =>
        have z : (0 : Nat) = ps.length := e
        omega
    · cases r1 with
      | nil => exact hr r2
      | cons _ _ => exact .nil
  · exact absurd rfl e
/-! ### ** of a great base -/
def CPowW (i j : Int) : Prop := 0 ≤ j ∧ (Builtin.Int.intBits i : Int) * j ≤ 2 ^ 27
theorem op_powW : OpR X (binaryOp .Pow) (rI CPowW fun i j => .int (i ^ j.toNat)) := opI fun _ _ _ _ _ _ _ hc q => pow_int hc.1 hc.2 q
end

/-! ### rules whose reading names the written part itself (for the blocks of comprehensions) -/
section
variable {X : Cx} {K : PySem.W.Frag}
theorem ix_tupK (h : X.K = K := by rfl) : IxR X (rIxT K) := by subst h; exact ix_tup
theorem ix_listK (h : X.K = K := by rfl) : IxR X (rIxL K) := by subst h; exact ix_list
theorem sl_tupK (h : X.K = K := by rfl) : SlR X (rSlT K) := by subst h; exact sl_tup
theorem sl_listK (h : X.K = K := by rfl) : SlR X (rSlL K) := by subst h; exact sl_list
theorem call_lenK (h : X.K = K := by rfl) : CallR X (.builtin "len") (fun xs H Q => ∃ p ys, xs = [.ref p] ∧ (SqL K H p ys ∨ SqT K H p ys) ∧ Q (.int ys.length) H) := by subst h; exact call_len_seq
theorem call_isiK2 (h : X.K = K := by rfl) : CallR X (.builtin "isinstance") (rIsi K) := by subst h; exact call_isi
theorem op_inK (h : X.K = K := by rfl) : OpR X (compareOp .In) (rIn K false) := by subst h; exact op_in_seq
end
/-! ### readings -/
section
variable {σ σ' : L2.St} {H : Hp} {Q : VK} {v x y z : V} {ta tb tc te : TE} {r r' : R2} {i j : Int} {n : Nat} {D : Ends} {t u : TS} {c : TT} {K : PySem.W.Frag} {p : Addr} {xs : List V}
theorem g_var {m : Nat} (h : σ[m]? = some (some v)) (q : Q v H) : tVar m σ H Q := ⟨v, h, q⟩
theorem g_c (q : Q v H) : tC v σ H Q := q
theorem g_op (q : ta σ H fun x H1 => tb σ H1 fun y H2 => r x y H2 Q) : tOp r ta tb σ H Q := q
theorem g_un {r : V → Hp → VK → Prop} (q : ta σ H fun x H1 => r x H1 Q) : tUn r ta σ H Q := q
theorem g_U {g : Int → V} (q : Q (g i) H) : rU g (.int i) H Q := ⟨i, rfl, q⟩
theorem g_I0 {g : Int → Int → V} (q : Q (g i j) H) : rI0 g (.int i) (.int j) H Q := ⟨i, j, rfl, rfl, q⟩
theorem g_I {C : Int → Int → Prop} {g : Int → Int → V} (c : C i j) (q : Q (g i j) H) : rI C g (.int i) (.int j) H Q := ⟨i, j, rfl, rfl, c, q⟩
theorem g_eq (h : scal x y = true) (q : Q (.bl (decide (x = y))) H) : rEq x y H Q := ⟨h, q⟩
theorem g_ne (h : scal x y = true) (q : Q (.bl (!decide (x = y))) H) : rNe x y H Q := ⟨h, q⟩
theorem g_test {te : TE} {Q : Bool → Hp → Prop} (q : te σ H fun x H' => ∃ k, x = .bl k ∧ Q k H') : tTest te σ H Q := q
theorem g_B {te : TE} {Q : Bool → Hp → Prop} (q : te σ H fun x H' => ∃ k, x = .bl k ∧ Q k H') : tB te σ H Q := q
theorem g_bl {b : Bool} {P : Bool → Prop} (q : P b) : ∃ k, V.bl b = .bl k ∧ P k := ⟨b, rfl, q⟩
theorem g_and {t u : TT} {Q : Bool → Hp → Prop} (q : t σ H fun c H1 => if c = true then u σ H1 Q else Q false H1) : tAnd t u σ H Q := q
theorem g_or {t u : TT} {Q : Bool → Hp → Prop} (q : t σ H fun c H1 => if c = true then Q true H1 else u σ H1 Q) : tOr t u σ H Q := q
theorem g_not {t : TT} {Q : Bool → Hp → Prop} (q : t σ H fun c H1 => Q (!c) H1) : tNot t σ H Q := q
theorem g_andV (q : ta σ H fun x H1 => ∃ c, x = .bl c ∧ if c = true then tb σ H1 Q else Q (.bl false) H1) : tAndV ta tb σ H Q := q
theorem g_orV (q : ta σ H fun x H1 => ∃ c, x = .bl c ∧ if c = true then Q (.bl true) H1 else tb σ H1 Q) : tOrV ta tb σ H Q := q
theorem g_notV (q : ta σ H fun x H1 => ∃ c, x = .bl c ∧ Q (.bl (!c)) H1) : tNotV ta σ H Q := q
theorem g_if {t : TT} (q : t σ H fun c H1 => if c = true then ta σ H1 Q else tb σ H1 Q) : tIf t ta tb σ H Q := q
theorem g_chain (q : ta σ H fun x H1 => tb σ H1 fun y H2 => r x y H2 fun z H3 => ∃ k, z = .bl k ∧ (if k = true then tc σ H3 fun w' H4 => r' y w' H4 Q else Q (.bl false) H3)) : tChain r r' ta tb tc σ H Q := q
theorem g_seq (q : t { D with nx := u D } σ H) : tSeq t u D σ H := q
theorem g_next (q : D.nx σ H) : tNext D σ H := q
theorem g_asg {g : TG} (q : te σ H fun x H1 => g x σ H1 D.nx) : tAsg te g D σ H := q
theorem g_name {m : Nat} {Q : L2.St → Hp → Prop} (q : Q (σ.set m (some v)) H) : gName m v σ H Q := q
theorem g_nameN {m : Nat} {σ2 : L2.St} {Q : L2.St → Hp → Prop} (e : σ.set m (some v) = σ2) (q : Q σ2 H) : gName m v σ H Q := by
  subst e
  exact q
theorem g_cast {t : TS} {σ2 : L2.St} (e : σ = σ2) (q : t D σ2 H) : t D σ H := e ▸ q
theorem g_sub {s : TSet} {Q : L2.St → Hp → Prop} (q : ta σ H fun o H1 => tb σ H1 fun i H2 => s o i v H2 fun H3 => Q σ H3) : gSub ta tb s v σ H Q := q
theorem g_setL {Q : Hp → Prop} {m : Nat} (h : H p = some (.lst xs)) (hj : ixN xs.length i = some m) (q : Q (upd H p (.lst (xs.set m v)))) : rSetL (.ref p) (.int i) v H Q := ⟨p, xs, i, m, rfl, rfl, h, hj, q⟩
theorem g_par {i j : Nat} {ta : TA} (q : ta σ H fun vs H1 => ∃ v w, vs = [v, w] ∧ D.nx ((σ.set i (some v)).set j (some w)) H1) : tPar i j ta D σ H := q
theorem g_drop (q : te σ H fun _ H1 => D.nx σ H1) : tDrop te D σ H := q
theorem g_ret (q : te σ H D.rt) : tRet te D σ H := q
theorem g_retN (q : D.rt .non H) : tRetN D σ H := q
theorem g_ifS (q : c σ H fun b H1 => if b = true then t D σ H1 else u D σ H1) : tIfS c t u D σ H := q
theorem g_nil {Q : List V → Hp → Prop} (q : Q [] H) : tNil σ H Q := q
theorem g_cons {ts : TA} {Q : List V → Hp → Prop} (q : ta σ H fun x H1 => ts σ H1 fun xs H2 => Q (x :: xs) H2) : tCons ta ts σ H Q := q
theorem g_tup {ts : TA} (q : ts σ H fun xs H1 => xs.length ≤ sizeLine ∧ ∀ p, H1 p = none → Q (.ref p) (upd H1 p (.tup xs))) : tTup ts σ H Q := q
theorem g_lst {ts : TA} (q : ts σ H fun xs H1 => xs.length ≤ sizeLine ∧ ∀ p, H1 p = none → Q (.ref p) (upd H1 p (.lst xs))) : tLst ts σ H Q := q
theorem g_CB {f : List V → Hp → VK → Prop} {ts : TA} (q : ts σ H fun vs H1 => f vs H1 Q) : tCB f ts σ H Q := q
theorem g_call {sp : Sp} {E : XK} {ts : TA} (q : ts σ H fun vs H1 => sp vs H1 Q E) : tCall sp [] E ts σ H Q := by
  unfold tCall
  simp only [List.append_nil]
  exact q
theorem g_callK {sp : Sp} {E : XK} {gV : List V → List V → List V} {ts tk : TA} (q : ts σ H fun vs H1 => tk σ H1 fun zs H2 => sp (gV vs zs) H2 Q E) : tCallK sp gV E ts tk σ H Q := q
theorem g_bits (h : ta σ H fun x H1 => ∃ i, x = .int i ∧ Q (.int (Builtin.Int.intBits i : Nat)) H1) : tBits ta σ H Q := h
theorem g_int {P : Int → Prop} (q : P i) : ∃ j, V.int i = .int j ∧ P j := ⟨i, rfl, q⟩
theorem g_for {wi : TI} {g : TG} {tb : TS} (q : wi σ H fun J H1 => ∃ W : Nat → Nat → L2.St → Hp → Prop, (∃ m, W 0 m σ H1) ∧ ∀ i m σ H, W i m σ H →
      (J.stop i H ∧ D.nx σ H) ∨ (J.go i H ∧ ∃ N : L2.St → Hp → Prop, (∀ σ' H', N σ' H' → ∃ m', m' < m ∧ W (i + 1) m' σ' H') ∧ ∀ x H', J.yld i H x H' → g x σ H' fun σ2 H2 => tb { D with nx := N, ct := N, bk := D.nx } σ2 H2)) : tFor wi g tb D σ H := q
theorem g_rng1 {ts : TA} {R : It → Hp → Prop} (q : ts σ H fun vs H1 => ∃ j : Int, vs = [.int j] ∧ -(2 ^ 62) ≤ j ∧ j < 2 ^ 62 ∧ R (Itr 0 j.toNat) H1) : iRng1 ts σ H R := q
theorem g_ixL (h : SqL K H p xs) (ha : atI xs i = some v) (q : Q v H) : rIxL K (.ref p) (.int i) H Q := ⟨p, xs, i, v, rfl, rfl, h, ha, q⟩
theorem g_ixT (h : SqT K H p xs) (ha : atI xs i = some v) (q : Q v H) : rIxT K (.ref p) (.int i) H Q := ⟨p, xs, i, v, rfl, rfl, h, ha, q⟩
/-- a test that the facts leave open -/
theorem g_ite {c A B : Prop} [Decidable c] (h1 : c → A) (h2 : ¬ c → B) : if decide c = true then A else B := by
  by_cases h : c
  · rw [decide_eq_true h]; exact iteT (h1 h)
  · rw [decide_eq_false h]; exact iteF (h2 h)
theorem g_iteN {c A B : Prop} [Decidable c] (h1 : ¬ c → A) (h2 : c → B) : if (!decide c) = true then A else B := by
  by_cases h : c
  · rw [decide_eq_true h]; exact iteF (h2 h)
  · rw [decide_eq_false h]; exact iteT (h1 h)
theorem iteNT {A B : Prop} (h : B) : if (!true) = true then A else B := iteF h
theorem iteNF {A B : Prop} (h : A) : if (!false) = true then A else B := iteT h
theorem iteS {c A B : Prop} [Decidable c] (hc : c) (h : A) : if decide c = true then A else B := by
  rw [decide_eq_true hc]
  exact iteT h
theorem iteNo {c A B : Prop} [Decidable c] (hc : ¬ c) (h : B) : if decide c = true then A else B := by
  rw [decide_eq_false hc]
  exact iteF h
theorem iteSE {a b : Str} {A B : Prop} (h : a = b) (q : A) : if decide (V.str a = V.str b) = true then A else B := iteS (by rw [h]) q
theorem iteSN {a b : Str} {A B : Prop} (h : decide (a = b) = false) (q : B) : if decide (V.str a = V.str b) = true then A else B := iteNo (fun e => by cases e; simp at h) q
theorem g_dget {td ty : TE} (q : td σ H fun x H1 => ty σ H1 fun y H2 => ∃ a v, x = .ref a ∧ DGet H2 a y (some v) ∧ Q v H2) : tDGet td ty σ H Q := q
theorem g_dput {td ty tv : TE} (q : tv σ H fun v H1 => td σ H1 fun x H2 => ty σ H2 fun y H3 => ∃ a H4, x = .ref a ∧ DPut H3 a y v H4 ∧ D.nx σ H4) : sDPut td ty tv D σ H := q
theorem g_dnew (q : ∀ p, H p = none → Q (.ref p) (upd H p (.dK []))) : tDNewK σ H Q := q
theorem g_tupT {t : TGs} {Q : L2.St → Hp → Prop} {m : Nat} (h : SqT K H p xs) (hl : xs.length = m) (q : t xs σ H Q) : gTup K m t (.ref p) σ H Q := ⟨p, xs, rfl, h, hl, q⟩
theorem g_gcons {t : TG} {u : TGs} {Q : L2.St → Hp → Prop} (q : t v σ H fun σ' H' => u xs σ' H' Q) : gCons t u (v :: xs) σ H Q := ⟨v, xs, rfl, q⟩
theorem g_gnil {Q : L2.St → Hp → Prop} (q : Q σ H) : gNil [] σ H Q := ⟨rfl, q⟩
theorem g_itup {tl : TE} {R : It → Hp → Prop} (q : tl σ H fun x H1 => ∃ a, x = .ref a ∧ (∃ xs, SqT K H1 a xs) ∧ R (Itt K a) H1) : iTup K tl σ H R := q
theorem g_ilist {tl : TE} {R : It → Hp → Prop} (q : tl σ H fun x H1 => ∃ a, x = .ref a ∧ (∃ xs, SqL K H1 a xs) ∧ R (Itl K a) H1) : iList K tl σ H R := q
theorem g_sl {s : V → Option Int → Option Int → Hp → VK → Prop} {tl th : TO} (q : te σ H fun x H1 => tl σ H1 fun l H2 => th σ H2 fun u H3 => s x l u H3 Q) : tSl s te tl th σ H Q := q
theorem g_part {Q : Option Int → Hp → Prop} (q : te σ H fun x H1 => ∃ i, x = .int i ∧ Q (some i) H1) : tPart te σ H Q := q
theorem g_nopart {Q : Option Int → Hp → Prop} (q : Q none H) : tNoPart σ H Q := q
theorem g_slT {lo hi : Option Int} (h : SqT K H p xs) (hw : ¬ (HT.sIx xs.length 0 lo = 0 ∧ HT.sIx xs.length xs.length hi = xs.length)) (q : ∀ p', H p' = none → Q (.ref p') (upd H p' (.tup (cutV xs lo hi)))) : rSlT K (.ref p) lo hi H Q := ⟨p, xs, rfl, h, hw, q⟩
theorem g_slL {lo hi : Option Int} (h : SqL K H p xs) (q : ∀ p', H p' = none → Q (.ref p') (upd H p' (.lst (cutV xs lo hi)))) : rSlL K (.ref p) lo hi H Q := ⟨p, xs, rfl, h, q⟩
theorem g_cat {l b : Addr} {xs zs : List V} (h1 : H l = some (.lst xs)) (h2 : H b = some (.lst zs)) (hl : xs.length + zs.length ≤ sizeLine) (q : ∀ p', H p' = none → Q (.ref p') (upd H p' (.lst (xs ++ zs)))) : rCat (.ref l) (.ref b) H Q := ⟨l, b, xs, zs, rfl, rfl, h1, h2, hl, q⟩
theorem g_lc {wi : TI} {g : TG} {tt : TT} {vs : List Nat} (q : wi σ H fun J H1 => ∀ D, H1 D = none → ∃ W : Nat → Nat → Hp → Prop, (∃ m, W 0 m (upd H1 D (.lst []))) ∧ ∀ i m H, W i m H →
  (J.stop i H ∧ Q (.ref D) H) ∨ (J.go i H ∧ ∃ Nx : Hp → Prop, (∀ H', Nx H' → ∃ m', m' < m ∧ W (i + 1) m' H') ∧ ∀ x H', J.yld i H x H' → g x (wipe σ vs) H' fun σ2 H2 => wipe σ2 vs = wipe σ vs ∧ tt σ2 H2 fun b H3 =>
    if b = true then te σ2 H3 fun y H4 => ∃ acc, H4 D = some (.lst acc) ∧ acc.length < sizeLine ∧ Nx (upd H4 D (.lst (acc ++ [y]))) else Nx H3)) : tLc wi g tt te vs σ H Q := q
theorem g_bm {T : String} {r : V → List V → Hp → VK → Prop} {t : TA} (q : te σ H fun x H1 => tyV K T x H1 ∧ t σ H1 fun xs H2 => r x xs H2 Q) : tBM K T r te t σ H Q := q
theorem g_bm0 {T : String} {r : V → List V → Hp → VK → Prop} (q : te σ H fun x H1 => tyV K T x H1 ∧ r x [] H1 Q) : tBM0 K T r te σ H Q := q
theorem g_append {l : Addr} {y : V} (h : H l = some (.lst xs)) (hl : xs.length < sizeLine) (q : Q .non (upd H l (.lst (xs ++ [y])))) : rAppend (.ref l) [y] H Q := ⟨l, xs, y, rfl, rfl, h, hl, q⟩
theorem tyL {l : Addr} (h : H l = some (.lst xs)) : tyV K "list" (.ref l) H := .inl ⟨rfl, _, SqL.of h⟩
theorem g_max2 {i j : Int} {P : Int → Prop} (q : P (if j > i then j else i)) : ∃ i' j' : Int, [V.int i, V.int j] = [V.int i', V.int j'] ∧ P (if j' > i' then j' else i') := ⟨i, j, rfl, q⟩
end
theorem upd_self {H : Hp} {p : Addr} {o : HO} (h : H p = some o) : upd H p o = H := by
  funext b
  unfold upd
  by_cases e : b = p
  · rw [if_pos e, e, h]
  · rw [if_neg e]
/-- all but p is kept -/
def Keep (p : Addr) (H H' : Hp) : Prop := ∀ b u, b ≠ p → H b = some u → H' b = some u
theorem Keep.refl {p : Addr} {H : Hp} : Keep p H H := fun _ _ _ h => h
theorem Keep.trans {p : Addr} {H H1 H2 : Hp} (a : Keep p H H1) (b : Keep p H1 H2) : Keep p H H2 := fun c u n h => b c u n (a c u n h)
theorem Keep.put {p : Addr} {H H' : Hp} {o : HO} (a : Keep p H H') : Keep p H (upd H' p o) := fun c u n h => by
  rw [upd_ne n]
  exact a c u n h
theorem Keep.new {p x : Addr} {H H' : Hp} {o : HO} (a : Keep p H H') (hx : H' x = none) : Keep p H (upd H' x o) := fun c u n h => by
  rw [upd_ne (ne_of_none (a c u n h) hx)]
  exact a c u n h
theorem Keep.seq {K : PySem.W.Frag} {p a : Addr} {H H' : Hp} {xs : List V} (k : Keep p H H') (n : a ≠ p) (h : SqL K H a xs) : SqL K H' a xs := by
  rcases h with (h | ⟨o, h⟩) | h
  · exact .inl (.inl (k _ _ n h))
  · exact .inl (.inr ⟨o, k _ _ n h⟩)
  · exact .inr h
theorem Keep.seqN {K : PySem.W.Frag} {p a : Addr} {H H' : Hp} {xs : List V} (k : Keep p H H') (n : H p = none) (h : SqL K H a xs) : SqL K H' a xs := by
  rcases h with (h | ⟨o, h⟩) | h
  · exact .inl (.inl (k _ _ (ne_of_none h n) h))
  · exact .inl (.inr ⟨o, k _ _ (ne_of_none h n) h⟩)
  · exact .inr h
/-! ### numbers -/
theorem bits_le {n : Int} (h0 : 0 ≤ n) (h : n ≤ 1000000000000000000000000000000) : Builtin.Int.intBits n ≤ 100 := by
  have e : (2 : Nat) ^ 100 = 1267650600228229401496703205376 := by decide
  have hb : n.natAbs < 2 ^ 100 := by omega
  have l := PySem.Flt.log2_lt_of (by decide) hb
  unfold Builtin.Int.intBits
  split <;> omega
theorem div_ok {i n : Int} (h0 : 0 < n) (h : n ≤ 1000000000000000000000000000000) : CDivW i n := by
  have e : (2 : Nat) ^ 100 = 1267650600228229401496703205376 := by decide
  exact wide_div h0 (b := 100) (by omega) (by decide) (by decide)
theorem pow_ok {i j : Int} (h : decide (0 ≤ j ∧ (Builtin.Int.intBits i : Int) * j ≤ 2 ^ 27) = true) : CPowW i j := (show _ ∧ _ from of_decide_eq_true h)
end Lw

/-! The call of a class of errors that has its own __init__, whatever built-in class it stands over; keywords too. -/
namespace PySem
namespace EcP
open PySem.W PySem.Calls PyProof.Rows
section
variable {M : Model} {prog : Program} {w : World} {A : Around} {E : Value → Shared → Prop} {R : Result → Shared → Prop} {h : Heap} {g : Array GenState} {d : Drawn} {t : Nat} {os : OsState}
variable {nm q : Str} {C N : Addr} {bs bm bmB : List Value} {hdct : Bool} {sn : List Str} {sub : List Value} {ab : Bool} {col : Option Bool} {dd : Option Addr} {k0 k1 k2 k3 k5 : Option Value} {B newId initId : String} {rest : List Value} {kw : List (Str × Value)}
/-- what the tail of a class of errors must hold, that B's own maker makes its instances -/
structure Tail (bm : List Value) (B : String) : Prop where
  b : bm.contains (.type B) = true
  a : bm.contains (.type "AttributeError") = false
  n : bm.contains (.type "NameError") = false
theorem Tail.c {C : Addr} (T : Tail bm B) : ((Value.ref C :: bm).contains (.type B) = true ∧ (Value.ref C :: bm).contains (.type "AttributeError") = false) ∧ (Value.ref C :: bm).contains (.type "NameError") = false := by
  refine ⟨⟨?_, ?_⟩, ?_⟩ <;> rw [List.contains_cons]
  · rw [T.b, Bool.or_true]
  · rw [T.a]; rfl
  · rw [T.n]; rfl
theorem ask_new (F : ExcBaseFacts B newId initId bmB) (T : Tail bm B) {Q : Unit → Shared → Prop} (hC : h.get? C = some (excClassObj nm q C N bs bm hdct sn sub ab col dd k0 k1 k2 k3 k5 newId)) (hq : Q () ⟨h, g, d, t, os⟩) :
    wpAny M A (checkBuiltinCall newId ⟨.ref C :: rest, kw⟩) Q E ⟨h, g, d, t, os⟩ := by
  have c := (T.c (C := C)).1.1
  have st := F.noStar
  simp only [checkBuiltinCall, F.newKind, F.newSplit, F.newRow]
  repeat (first
    | refine wpAny_loadPart_at hC ?_
    | (refine wpAny_isSubtype_exc hC ?_; rw [c])
    | refine wpAny_staticBase_exc hC ?_
    | refine wpAny_madeBy_exc hC ?_
    | simp only [bne_self_eq_false, Bool.false_eq_true, if_false]
    | wp_step)
  exact hq
theorem run_new (F : ExcBaseFacts B newId initId bmB) (T : Tail bm B) (hC : h.get? C = some (excClassObj nm q C N bs bm hdct sn sub ab col dd k0 k1 k2 k3 k5 newId)) (hz : rest.length ≤ sizeLine)
    (hq : R (.ok (.ret (.ref (h.objs.size + 1)))) ⟨(h.push (kdv_tup rest)).push (HandSPX.excO C h.objs.size), g, d, t, os⟩) :
    codeAny (model prog w) A (.builtin newId ⟨.ref C :: rest, kw⟩) R ⟨h, g, d, t, os⟩ := by
  have en := F.ends
  obtain ⟨⟨cB, cA⟩, cN⟩ := T.c (C := C)
  refine codeAny_builtinAt F.entry ?_
  unfold Builtin.«BaseException.__new__»
  refine wpAt_bind ?_
  show wpAt _ _ _ (stack >>= _) _ _ _
  refine wpAt_bind (wpAt_stack fun p0 below0 => wpAt_of_wpAny ?_)
  wp_walk
  refine wpAt_of_wpAny ?_
  rw [F.owner]
  repeat (first
    | with_reducible refine wpAny_madeHere_exc F.canon hC ?_
    | with_reducible refine wpAny_loadPart_at hC ?_
    | (with_reducible refine wpAny_isSubtype_exc hC ?_; first | rw [cB] | rw [cA] | rw [cN])
    | wp_step)
  show R _ _
  rw [Heap.size_push]
  exact hq
theorem run_type (F : ExcBaseFacts B newId initId bmB) (T : Tail bm B) {fI : Addr} {Q : Fin → Shared → Prop} (hC : h.get? C = some (excClassObj nm q C N bs bm hdct sn sub ab col dd k0 k1 k2 k3 k5 newId))
    (hi : Looks (model prog w) h (typeLookup (.ref C) "__init__") (some (.ref fI))) (hb : ∀ x, Looks (model prog w) h (bindSpecial (.ref fI) x) (.ref fI, [x])) (hz : rest.length ≤ sizeLine)
    (hq : codeAny (model prog w) A (.call (.ref fI) ⟨.ref (h.objs.size + 1) :: rest, kw⟩)
      (fun r s' => match r with | .ok (.ret v) => v = .none ∧ Q (.done (.ret (.ref (h.objs.size + 1)))) s' | .ok _ => False | .error e => E e s') ⟨(h.push (kdv_tup rest)).push (HandSPX.excO C h.objs.size), g, d, t, os⟩) :
    wpAny (model prog w) A (Builtin.«type.__call__» ⟨.ref C :: rest, kw⟩) Q E ⟨h, g, d, t, os⟩ := by
  repeat (first
    | with_reducible refine wpAny_loadPart_at hC ?_
    | with_reducible refine wpAny_madeBy_exc hC ?_
    | wp_step)
  refine codeAny_call_builtin_code (Code.quiet_builtin _ F.quiet) (ask_new F T hC (run_new F T hC hz ?_))
  show wpAny _ _ _ _ _ _
  have up : ∀ b o, h.get? b = some o → ((h.push (kdv_tup rest)).push (HandSPX.excO C h.objs.size)).get? b = some o := fun b o e => Heap.get?_push_of_some _ (Heap.get?_push_of_some _ e)
  have hC1 := up _ _ hC
  have at1 : ((h.push (kdv_tup rest)).push (HandSPX.excO C h.objs.size)).get? (h.objs.size + 1) = some (HandSPX.excO C h.objs.size) := by heap_get
  have cC : (Value.ref C :: bm).contains (.ref C) = true := by simp
  have i1 := hi.keeps up
  have b1 := (hb (.ref (h.objs.size + 1))).keeps up
  unfold isInstance
  repeat (first
    | with_reducible refine wpAny_loadPart_at at1 ?_
    | (with_reducible refine wpAny_isSubtype_exc hC1 ?_; rw [cC])
    | wp_step)
  show wpAny _ _ (typeLookup (.ref C) _) _ _ _
  refine i1.at (wpAny_holding (wpAny_bind (b1.at (wpAny_bind (wpAny_call (codeAny_mono hq fun r s' z => ?_))))))
  rcases r with e | (v | _ | _ | _) <;> first | exact z | exact z.elim | skip
  obtain ⟨rfl, z⟩ := z
  first | exact wpAny_pure (wpAny_pure z) | (wp_walk; exact z)
theorem ask_type {Q : Unit → Shared → Prop} (hC : h.get? C = some (excClassObj nm q C N bs bm hdct sn sub ab col dd k0 k1 k2 k3 k5 newId)) (hq : Q () ⟨h, g, d, t, os⟩) :
    wpAny M A (checkBuiltinCall "type.__call__" ⟨.ref C :: rest, kw⟩) Q E ⟨h, g, d, t, os⟩ := by
  have ts := tc_sub
  have ty : (⟨h, g, d, t, os⟩ : Shared).TypeIs (.ref C) "type" := ⟨_, hC, rfl⟩
  simp only [checkBuiltinCall, tc_kind, tc_split]
  repeat (any_goals (first
    | assumption
    | with_reducible refine wpAny_loadPart_at hC ?_
    | with_reducible refine wpAny_onRaise ?_
    | with_reducible refine wpAny_map ?_
    | wp_step))
/-- C(.., k = ..), C with an __init__ of its own -/
theorem call_make (F : ExcBaseFacts B newId initId bmB) (T : Tail bm B) {fI : Addr} (hC : h.get? C = some (excClassObj nm q C N bs bm hdct sn sub ab col dd k0 k1 k2 k3 k5 newId))
    (hi : Looks (model prog w) h (typeLookup (.ref C) "__init__") (some (.ref fI))) (hb : ∀ x, Looks (model prog w) h (bindSpecial (.ref fI) x) (.ref fI, [x])) (hz : rest.length ≤ sizeLine)
    (hq : codeAny (model prog w) (A.under (.builtin "type.__call__" ⟨.ref C :: rest, kw⟩)) (.call (.ref fI) ⟨.ref (h.objs.size + 1) :: rest, kw⟩) (InitBack (h.objs.size + 1) R) ⟨(h.push (kdv_tup rest)).push (HandSPX.excO C h.objs.size), g, d, t, os⟩) :
    codeAny (model prog w) A (.call (.ref C) ⟨rest, kw⟩) R ⟨h, g, d, t, os⟩ := by
  have tl := tc_lookup
  have tb := tc_bind (.ref C)
  have ty : (⟨h, g, d, t, os⟩ : Shared).TypeIs (.ref C) "type" := ⟨_, hC, rfl⟩
  refine codeAny_of_tree ?_
  show wpAny _ _ (callAny (.ref C) _) _ _ _
  repeat (any_goals (first | assumption | with_reducible refine wpAny_loadPart_at hC ?_ | wp_step))
  refine ⟨rfl, codeAny_call_builtin_at (Code.quiet_builtin _ (by decide +kernel)) entry_typeCall (ask_type hC (run_type F T hC hi hb hz (codeAny_mono hq fun r s' z => ?_)))⟩
  rcases r with e | (v | _ | _ | _) <;> exact z
end
end EcP
end PySem

namespace PySem
namespace F
theorem store_KeyError : StoreFacts "KeyError" [.type "KeyError", .type "LookupError", .type "Exception", .type "BaseException", .type "object"] "object.__setattr__" "object" := ⟨by kernel_rfl,
  .of (owner := "object") (n := "__setattr__") (by rw [typeLookup_type, builtinLookup_eq_fast]; kernel_rfl) (by decide +kernel) (by decide +kernel) (by decide +kernel) (by first | exact .inl (by decide +kernel) | exact .inr (by decide +kernel))
    (by rw [isSubtype_type]; kernel_rfl), entry_object_sa, by decide +kernel, by decide +kernel, by decide +kernel, fun a b c => by unfold argsOk; kernel_rfl, fun self => by kernel_rfl⟩
end F
namespace EcP
open PySem.W PySem.Calls PyProof.Rows
def tailV : List Value := [.type "ValueError", .type "Exception", .type "BaseException", .type "object"]
def tailK : List Value := [.type "KeyError", .type "LookupError", .type "Exception", .type "BaseException", .type "object"]
/-- a built-in class of errors over which own classes may stand -/
structure Base (B newId : String) (bmT : List Value) : Prop where
  ex : ∃ initId bmB, ExcBaseFacts B newId initId bmB
  t : Tail bmT B
  s : ∃ T, StoreFacts T bmT "object.__setattr__" "object"
theorem baseV : Base "ValueError" "ValueError.__new__" tailV := ⟨⟨_, _, F.excBase_ValueError⟩, ⟨by decide +kernel, by decide +kernel, by decide +kernel⟩, ⟨_, F.store_ValueError⟩⟩
theorem baseK : Base "LookupError" "LookupError.__new__" tailK := ⟨⟨_, _, F.excBase_LookupError⟩, ⟨by decide +kernel, by decide +kernel, by decide +kernel⟩, ⟨_, F.store_KeyError⟩⟩
theorem Tail.of {bmT bm : List Value} {B : String} (T : Tail bmT B) (e : excTail bmT bm = true) : Tail bm B := ⟨(excTail_contains B _ e).trans T.b, (excTail_contains _ _ e).trans T.a, (excTail_contains _ _ e).trans T.n⟩

/-! ### self.f = v -/
section
open Builtin Builtin.ObjectAttr
variable {prog : Program} {w : World} {A : Around} {R : Result → Shared → Prop} {hp : Heap} {g : Array GenState} {d : Drawn} {t : Nat} {os : OsState}
variable {K : Frag} {name : Str} {tk : Tok} {v : Value} {x C : Addr} {fv : Array Value} {cd : ClassData} {T : String} {bmT : List Value}
theorem put_new (SF : StoreFacts T bmT "object.__setattr__" "object") (X : K.In hp) (hx : hp.get? x = some { cls := .ref C, data := .fields fv }) (ov : excOver K C bmT = true) (hcd : clsIn K C = some cd) (hh : cd.hasDict = true) (ha : findIn K (.ref C) name = some none)
    (hq : ∀ h' tk' dx, (∀ b o, b ≠ x → hp.get? b = some o → h'.get? b = some o) → hp.objs.size ≤ dx → dx ≠ x → h'.get? x = some { cls := .ref C, dict := some dx, data := .fields fv } → h'.Ns1 dx (fun y => if y = name then some v else none) → R (.ok (.ret .none)) ⟨h', g, d, tk', os⟩) :
    codeAny (model prog w) A (.call (.builtin "object.__setattr__") ⟨[.ref x, .str name tk, v], []⟩) R ⟨hp, g, d, t, os⟩ := by
  have I : InstAt hp x { cls := .ref C, data := .fields fv } C none := ⟨hx, rfl, rfl, trivial⟩
  have ne : x ≠ hp.objs.size := Nat.ne_of_lt (Heap.lt_size hx)
  have lc : Looks (model prog w) hp (classData C) cd := looks_clsIn X hcd
  refine osa_openX (r := none) SF X I ov (by unfold takerIn; rw [ha]; rfl) fun b => ?_
  show wpAny _ _ (storeInOwnDict (.ref x) (.ref C) (.str name tk) name v b) _ _ _
  obtain ⟨nm, bs, mro, ns, qn, hd, sn, sb, ab, col, del⟩ := cd
  dsimp only at hh
  subst hh
  unfold storeInOwnDict ownDictForStores
  repeat (first
    | with_reducible refine HandSPX.store_in_new ?_ ?_
    | with_reducible refine wpAny_loadPart_at hx ?_
    | with_reducible refine lc.at ?_
    | wp_step)
  · exact ⟨_, #[], _, (Heap.get?_update_ne _ _ _ _ ne.symm).trans (Heap.get?_push_at rfl rfl), rfl, fun e he => absurd he (by simp), fun _ => rfl⟩
  · intro h' tk' hn' hs
    have hx1 : (hp.push { cls := .type "dict", data := .dict #[] }).get? x = some { cls := .ref C, data := .fields fv } := Heap.get?_push_of_some _ hx
    exact hq h' tk' hp.objs.size (fun b o hb ho => (hs.2 b (Nat.ne_of_lt (Heap.lt_size ho))).trans ((Heap.get?_update_ne _ _ _ _ hb).trans (Heap.get?_push_of_some _ ho))) (Nat.le_refl _) ne.symm ((hs.2 x ne).trans (Heap.get?_update_self _ hx1 rfl)) hn'
theorem put_old {dx : Addr} {m0 : Str → Option Value} {nl : List Str} (SF : StoreFacts T bmT "object.__setattr__" "object") (X : K.In hp) (hx : hp.get? x = some { cls := .ref C, dict := some dx, data := .fields fv }) (hns : hp.Ns1 dx m0) (hw : Within m0 nl) (hz : nl.length ≤ 1000)
    (ov : excOver K C bmT = true) (hcd : clsIn K C = some cd) (hh : cd.hasDict = true) (ha : findIn K (.ref C) name = some none)
    (hq : ∀ h' tk', (∀ b o, b ≠ dx → hp.get? b = some o → h'.get? b = some o) → h'.Ns1 dx (fun y => if y = name then some v else m0 y) → R (.ok (.ret .none)) ⟨h', g, d, tk', os⟩) :
    codeAny (model prog w) A (.call (.builtin "object.__setattr__") ⟨[.ref x, .str name tk, v], []⟩) R ⟨hp, g, d, t, os⟩ := by
  obtain ⟨oD, esD, epD, hoD, hdD, _⟩ := hns.count hw
  have I : InstAt hp x { cls := .ref C, dict := some dx, data := .fields fv } C (some oD) := ⟨hx, rfl, rfl, hoD⟩
  have lc : Looks (model prog w) hp (classData C) cd := looks_clsIn X hcd
  refine osa_openX (r := none) SF X I ov (by unfold takerIn; rw [ha]; rfl) fun b => ?_
  show wpAny _ _ (storeInOwnDict (.ref x) (.ref C) (.str name tk) name v b) _ _ _
  obtain ⟨nm, bs, mro, ns, qn, hd, sn, sb, ab, col, del⟩ := cd
  dsimp only at hh
  subst hh
  unfold storeInOwnDict ownDictForStores
  repeat (first
    | with_reducible refine OEX.store_in_old hns hw hz ?_
    | with_reducible refine wpAny_loadPart_at hx ?_
    | with_reducible refine lc.at ?_
    | wp_step)
  exact fun h' tk' hn' hs => hq h' tk' (fun b o hb ho => (hs.2 b hb).trans ho) hn'
end
end EcP
end PySem

/-! Errors as values: made, written, their fields read, asked for their class. -/
namespace Ec
open PySem PySem.Spec PyProof.Rows L2

/-! ### what the written part says of an own class of errors -/
def Shape (K : PySem.W.Frag) (C : Addr) (bmT : List Value) (newId : String) : Prop :=
  ∃ nm q N bs bm sn sub ab col dd k0 k1 k2 k3 k5, K.lookup C = some (excClassObj nm q C N bs bm true sn sub ab col dd k0 k1 k2 k3 k5 newId) ∧ PySem.W.excTail bmT bm = true
def shapeB (K : PySem.W.Frag) (C : Addr) (bmT : List Value) (newId : String) : Bool := match K.lookup C with
  | some ⟨.type "type", _, .cls cd, sl⟩ => (match cd.mro, sl.toList with
    | .ref D :: bm, [_, _, _, _, some (.builtin n), _] => D == C && (n == newId && (cd.hasDict && (!cd.hasDel && PySem.W.excTail bmT bm)))
    | _, _ => false)
  | _ => false
theorem shape_ok {K : PySem.W.Frag} {C : Addr} {bmT : List Value} {newId : String} (h : shapeB K C bmT newId = true) : Shape K C bmT newId := by
  unfold shapeB at h
  split at h
  · rename_i dd cd sl hl
    split at h
    · rename_i D bm k0 k1 k2 k3 n k5 e1 e2
      obtain ⟨nm, bs, mro, ns, qn, hd, sn, sub, ab, col, hdel⟩ := cd
      obtain ⟨sll⟩ := sl
      simp only [Bool.and_eq_true, beq_iff_eq, Bool.not_eq_true'] at h e1 e2
      obtain ⟨rfl, rfl, rfl, rfl, hr⟩ := h
      subst e1
      subst e2
      exact ⟨nm, qn, ns, bs, bm, sn, sub, ab, col, dd, k0, k1, k2, k3, k5, hl, hr⟩
    · cases h
  · cases h
structure Own (K : PySem.W.Frag) (C : Addr) : Prop where
  maker : ∃ B newId bmT, PySem.EcP.Base B newId bmT ∧ Shape K C bmT newId
  sa : PySem.W.findIn K (.ref C) "__setattr__" = some (some (.builtin "object.__setattr__"))
  exC : PySem.W.subIn K (.ref C) (.type "BaseException") = some true
  tyC : PySem.W.typeIn K (.ref C) = some (.type "type")
  kC : PySem.W.keepIn K (.ref C) = true
  cl : (PySem.W.clsIn K C).isSome = true
  ga : PySem.W.findIn K (.ref C) "__getattribute__" = some (some (.builtin "BaseException.__getattribute__"))
  gg : PySem.W.findIn K (.ref C) "__getattr__" = some none
  ca : PySem.W.findIn K (.ref C) "__class__" = some (some (.builtin "object.__class__"))
  sp : PySem.W.specialIn K (.builtin "object.__class__") "__get__" = some (some (.builtin "getset_descriptor.__get__"))
  tk : PySem.W.takesIn K (.builtin "object.__class__") = some true
  mr : PySem.W.mroIn K C (.type "object") = some true
  hd : PySem.W.hasDictIn K C = true
def ownB (K : PySem.W.Frag) (C : Addr) : Bool := (shapeB K C PySem.EcP.tailV "ValueError.__new__" || shapeB K C PySem.EcP.tailK "LookupError.__new__") && (decide (PySem.W.findIn K (.ref C) "__setattr__" = some (some (.builtin "object.__setattr__"))) &&
  (decide (PySem.W.subIn K (.ref C) (.type "BaseException") = some true) && (decide (PySem.W.typeIn K (.ref C) = some (.type "type")) && (PySem.W.keepIn K (.ref C) && ((PySem.W.clsIn K C).isSome &&
  (decide (PySem.W.findIn K (.ref C) "__getattribute__" = some (some (.builtin "BaseException.__getattribute__"))) && (decide (PySem.W.findIn K (.ref C) "__getattr__" = some none) && (decide (PySem.W.findIn K (.ref C) "__class__" = some (some (.builtin "object.__class__"))) &&
  (decide (PySem.W.specialIn K (.builtin "object.__class__") "__get__" = some (some (.builtin "getset_descriptor.__get__"))) && (decide (PySem.W.takesIn K (.builtin "object.__class__") = some true) && (decide (PySem.W.mroIn K C (.type "object") = some true) && PySem.W.hasDictIn K C)))))))))))
theorem own_ok {K : PySem.W.Frag} {C : Addr} (h : ownB K C = true) : Own K C := by
  unfold ownB at h
  simp only [Bool.and_eq_true, Bool.or_eq_true, decide_eq_true_eq] at h
  obtain ⟨h1, h2, h3, h4, h5, h6, h7, h8, h9, h10, h11, h12, h13⟩ := h
  exact ⟨h1.elim (fun z => ⟨_, _, _, PySem.EcP.baseV, shape_ok z⟩) (fun z => ⟨_, _, _, PySem.EcP.baseK, shape_ok z⟩), h2, h3, h4, h5, h6, h7, h8, h9, h10, h11, h12, h13⟩

/-- at a: an error that was raised once, of this class, its dict d -/
def exg (a : Addr) (cls : Value) (d : Option Addr) : HO := .ext fun h => ∃ oe vs, h.get? a = some oe ∧ Zc cls d oe ∧ oe.data = .fields vs
theorem exg_ok {P : Program} {w : World} {H : Hp} {h : Heap} {a : Addr} {cls : Value} {d : Option Addr} {oe : Obj} {vs : Array Value} (e : h.get? a = some oe) (z : Zc cls d oe) (v : oe.data = .fields vs) : ObjOk P w H h a (exg a cls d) :=
  ⟨⟨oe, vs, e, z, v⟩, ⟨oe, e⟩, fun _ _ ⟨o, u, q, r⟩ k => ⟨o, u, k o q, r⟩⟩
theorem exg_at {P : Program} {w : World} {H : Hp} {h : Heap} {a C : Addr} {d : Option Addr} (hok : HOk P w H h) (he : H a = some (exg a (.ref C) d)) : ∃ oe, h.get? a = some oe ∧ oe.cls = .ref C ∧ oe.dict = d ∧ PySem.W.notCls oe = true := by
  have x : ObjOk P w H h a (.ext fun h => ∃ oe vs, h.get? a = some oe ∧ Zc (.ref C) d oe ∧ oe.data = .fields vs) := hok a _ he
  obtain ⟨oe, vs, e, z, v⟩ := x.1
  exact ⟨oe, e, z.1, z.2, by unfold PySem.W.notCls; rw [v] <;> rfl⟩
/-- at a: an error of the class at C, with these fields; made, or caught -/
inductive Exc (H : Hp) (a C : Addr) : List (Str × V) → Prop
  | bare (h : H a = some (exo a C none)) : Exc H a C []
  | dict {d : Addr} {fs : List (Str × V)} (h : H a = some (exo a C (some d))) (hd : H d = some (exd d fs)) : Exc H a C fs
  | heldB (h : H a = some (exg a (.ref C) none)) : Exc H a C []
  | heldD {d : Addr} {fs : List (Str × V)} (h : H a = some (exg a (.ref C) (some d))) (hd : H d = some (.xd fs)) : Exc H a C fs
theorem Exc.keep {H H' : Hp} {a C : Addr} {fs : List (Str × V)} (e : Exc H a C fs) (k : ∀ b u, H b = some u → H' b = some u) : Exc H' a C fs := by
  cases e with
  | bare h => exact .bare (k _ _ h)
  | dict h hd => exact .dict (k _ _ h) (k _ _ hd)
  | heldB h => exact .heldB (k _ _ h)
  | heldD h hd => exact .heldD (k _ _ h) (k _ _ hd)
theorem xd_at {P : Program} {w : World} {H : Hp} {h : Heap} {d : Addr} {fs : List (Str × V)} (hok : HOk P w H h) (e : H d = some (.xd fs)) : ∃ mA, h.Ns1 d mA ∧ ∀ f, RelO (fs.lookup f) (mA f) := by
  have x : ObjOk P w H h d (.xd fs) := hok d _ e
  exact x
theorem Exc.inst {P : Program} {w : World} {H : Hp} {h : Heap} {a C : Addr} {fs : List (Str × V)} (hok : HOk P w H h) (e : Exc H a C fs) : ∃ ox od, PySem.W.InstAt h a ox C od := by
  cases e with
  | bare q =>
    obtain ⟨t, ho⟩ := exo_at hok q
    exact ⟨_, none, ho, rfl, rfl, trivial⟩
  | dict q qd =>
    obtain ⟨t, ho⟩ := exo_at hok q
    obtain ⟨mA, hns, _⟩ := exd_at hok qd
    obtain ⟨o, hd, _⟩ := lookIn_ns hns
    exact ⟨_, some o, ho, rfl, rfl, hd⟩
  | heldB q =>
    obtain ⟨oe, ho, hc, hd, hn⟩ := exg_at hok q
    exact ⟨oe, none, ho, hc, hn, by rw [hd]; trivial⟩
  | heldD q qd =>
    obtain ⟨oe, ho, hc, hd, hn⟩ := exg_at hok q
    obtain ⟨mA, hns, _⟩ := xd_at hok qd
    obtain ⟨o, ho2, _⟩ := lookIn_ns hns
    exact ⟨oe, some o, ho, hc, hn, by rw [hd]; exact ho2⟩

/-! ### isinstance of such a value -/
def rIsX (K : PySem.W.Frag) : List V → Hp → VK → Prop := fun xs H Q => ∃ (a C : Addr) (fs : List (Str × V)) (c : V) (u : Value) (b : Bool), xs = [.ref a, c] ∧ Own K C ∧ Exc H a C fs ∧ ClsV c u ∧ PySem.W.kitOne K (.ref C) u = some b ∧ Q (.bl b) H
section
variable {X : Cx}
theorem call_isX : CallR X (.builtin "isinstance") (rIsX X.K) := by
  intro pins s σ H xs us Q I r h
  obtain ⟨a, C, fs, c, u, b, rfl, O, x, k, e, q⟩ := h
  obtain ⟨u1, u2, rfl, r1, r2⟩ := r.two
  cases (show u1 = Value.ref a from r1)
  have e2 := k.eq r2
  subst e2
  obtain ⟨ox, od, J⟩ := x.inst I.hok
  exact PySem.W.kia_one (PySem.W.kitx_exc O.cl O.ga O.gg O.exC O.ca O.sp O.tk O.mr) I.kIn J e (fun z => nomatch z) fun tk => ⟨.bl b, H, I.tok tk, rfl, q⟩
/-- isinstance of a plain value or of such an error -/
theorem call_isXi : CallR X (.builtin "isinstance") (fun xs H Q => rIsX X.K xs H Q ∨ rIsi X.K xs H Q) := fun pins s σ H xs us Q I r h => h.elim (call_isX pins s σ H xs us Q I r) (call_isi pins s σ H xs us Q I r)

/-! ### a field of such a value -/
def tFx (K : PySem.W.Frag) (f : Str) (te : TE) : TE := fun σ H Q => te σ H fun x H1 => ∃ (a C : Addr) (fs : List (Str × V)) (v : V), x = .ref a ∧ Own K C ∧ PySem.W.findIn K (.ref C) f = some none ∧ Exc H1 a C fs ∧ fs.lookup f = some v ∧ Q v H1
theorem pe_fx {e : Expr} {te : TE} {pos : Pos} {n : Str} (he : PE X e te) (hb : attributeBase e n X.env (eval e X.env) = eval e X.env := by rfl) :
    PE X (.Attribute e n pos) (tFx X.K n te) := by
  refine ⟨fun pins s σ H Q I h => attr_of hb (thn (he.run pins s σ H _ I h) fun u s1 hh => ?_)⟩
  obtain ⟨x, H1, I1, rx, a, C, fs, v, ex, O, hno, ee, l, q⟩ := hh
  subst ex
  obtain rfl : u = Value.ref a := rx
  have fin : ∀ {d : Addr} {mA : Str → Option Value} {oe : Obj}, s1.heap.get? a = some oe → oe.cls = .ref C → oe.dict = some d → PySem.W.notCls oe = true → s1.heap.Ns1 d mA → (∀ f, RelO (fs.lookup f) (mA f)) → wpAny (model X.prog X.w) X.A (getAttr (.ref a) n true) (EP X pins σ Q) X.xe s1 :=
    fun {d mA oe} ho hc hd hn hns hr => by
      obtain ⟨od, hod, hl⟩ := lookIn_ns hns
      obtain ⟨u, hu, ru⟩ := RelO.some_of (v := v) (o := mA n) (by rw [← l]; exact hr n)
      have J : PySem.W.InstAt s1.heap a oe C (some od) := ⟨ho, hc, hn, by rw [hd]; exact hod⟩
      exact HandSPX.exc_get I1.kIn J O.ga O.gg O.exC (PySem.W.findObj_own O.hd hno rfl (by rw [hl, hu])) (handed_of ru) ⟨v, H1, I1.tok _, ru, q⟩
  cases ee with
  | bare _ => cases l
  | heldB _ => cases l
  | dict ea ed =>
    obtain ⟨t1, ho⟩ := exo_at I1.hok ea
    obtain ⟨mA, hns, hr⟩ := exd_at I1.hok ed
    exact fin ho rfl rfl rfl hns hr
  | heldD ea ed =>
    obtain ⟨oe, ho, hc, hd, hn⟩ := exg_at I1.hok ea
    obtain ⟨mA, hns, hr⟩ := xd_at I1.hok ed
    exact fin ho hc hd hn hns hr

/-! ### self.f = y -/
variable {pins : List (Addr × Obj)} {σ : L2.St} {H : Hp} {s : Shared} {a C dx : Addr} {f : Str} {y : V} {u : Value} {fs : List (Str × V)} {Q : Unit → Shared → Prop} {E : Value → Shared → Prop} {A : Around}
theorem Own.cd {K : PySem.W.Frag} {C : Addr} (O : Own K C) : ∃ T bmT cd, StoreFacts T bmT "object.__setattr__" "object" ∧ PySem.W.excOver K C bmT = true ∧ PySem.W.clsIn K C = some cd ∧ cd.hasDict = true := by
  obtain ⟨B, newId, bmT, Bs, nm, q, N, bs, bm, sn, sub, ab, col, dd, k0, k1, k2, k3, k5, hC, ht⟩ := O.maker
  obtain ⟨T, SF⟩ := Bs.s
  have hcl : PySem.W.clsIn K C = some { name := nm, bases := bs, mro := .ref C :: bm, ns := N, qualname := q, hasDict := true, slotNames := sn, subclasses := sub, abstract := ab, collection := col, hasDel := false } := by unfold PySem.W.clsIn; rw [hC] <;> rfl
  refine ⟨T, bmT, _, SF, ?_, hcl, rfl⟩
  unfold PySem.W.excOver
  rw [hcl]
  show (C == C && PySem.W.excTail bmT bm) = true
  rw [ht, beq_self_eq_true] <;> rfl
/-- two tracked objects changed at once: the error, and the dict that it gets -/
theorem un_dict {h h' : Heap} {t1 : Addr} {o : HO} {fo : Obj} (hok : HOk X.prog X.w H h) (e : H a = some (exo a C none)) (n : h.objs.size ≤ dx) (ne : dx ≠ a) (k : ∀ b o, b ≠ a → h.get? b = some o → h'.get? b = some o) (hx : h'.get? a = some fo) :
    Un X.fs [] H (upd (upd H dx (exd dx fs)) a (exo a C (some dx))) h h' := by
  have hd : H dx = none := hok.fresh n
  have nd : ∀ {b : Addr} {o : Obj}, h.get? b = some o → b ≠ dx := fun {b o} q => Nat.ne_of_lt (Nat.lt_of_lt_of_le (Heap.lt_size q) n)
  have na : ∀ {b : Addr}, H b = none → b ≠ a := fun {b} q z => by rw [z, e] at q; cases q
  have low : ∀ {b : Addr} {v : HO}, H b = some v → b ≠ a → upd (upd H dx (exd dx fs)) a (exo a C (some dx)) b = some v := fun {b v} q z => by rw [upd_ne z, upd_ne (ne_of_none q hd)]; exact q
  refine ⟨fun b o q z _ _ => k b o (na z) q, fun b o q z _ _ => ⟨o.slots, k b o (na z) q⟩, fun b o q z _ => ?_, fun b o q _ => ?_, fun b xs q => low q (at_ne e q exo_tup), fun b o v q => low q (at_ne e q exo_frz), fun b ps q => ⟨#[], ?_⟩⟩
  · rw [upd_ne (na z), upd_ne (nd q)]
    exact z
  · by_cases hb : b = a
    · exact ⟨_, by rw [hb]; exact hx⟩
    · exact ⟨o, k b o hb q⟩
  · rw [low q (at_ne e q exo_tbl)]
    simp
theorem put_first (O : Own X.K C) (I : Inv X pins σ H s) (e : H a = some (exo a C none)) (hno : PySem.W.findIn X.K (.ref C) f = some none) (ry : RelV y u)
    (h : ∀ dx s', H dx = none → dx ≠ a → Inv X pins σ (upd (upd H dx (exd dx [(f, y)])) a (exo a C (some dx))) s' → Q () s') : wpAny (model X.prog X.w) A (setAttr (.ref a) f u) Q E s := by
  obtain ⟨T, bmT, cd, SF, ov, hcl, hh⟩ := O.cd
  obtain ⟨t1, ho⟩ := exo_at I.hok e
  obtain ⟨hp, g, d, t, os⟩ := s
  refine PySem.W.set_plain I.kIn (ox := { cls := .ref C, dict := none, data := .fields #[.ref t1, .none, .none, .none, .bool false, .none] }) (od := none) ⟨ho, rfl, rfl, trivial⟩ O.sa ?_
  refine PySem.EcP.put_new SF I.kIn ho ov hcl hh hno fun h' tk' dx k dn dne hx hn => ?_
  have hnd : H dx = none := I.hok.fresh dn
  refine h dx _ hnd dne (I.un (t' := tk') (un_dict (t1 := t1) (o := exd dx []) I.hok e dn dne k hx) fun b o q => ?_)
  by_cases hb : b = a
  · subst hb
    rw [upd_same] at q
    cases q
    exact exo_ok hx
  by_cases hd : b = dx
  · subst hd
    rw [upd_ne hb, upd_same] at q
    cases q
    exact exd_ok hn (relO_put (fs := []) ry fun g => True.intro)
  rw [upd_ne hb, upd_ne hd] at q
  refine (I.hok b o q).stay (fun c v hc z => k c v ?_ z) (fun c hc => ?_) fun c xs hc => ?_
  · rcases hc with rfl | hc
    · exact hb
    · exact at_ne e hc exo_own
  · rw [upd_ne (at_ne e hc exo_own), upd_ne (ne_of_none hc hnd)]
    exact hc
  · rw [upd_ne (at_ne e hc exo_tup), upd_ne (ne_of_none hc hnd)]
    exact hc
theorem put_more (O : Own X.K C) (I : Inv X pins σ H s) (e : H a = some (exo a C (some dx))) (ed : H dx = some (exd dx fs)) (hl : fs.length ≤ 900) (hno : PySem.W.findIn X.K (.ref C) f = some none) (ry : RelV y u)
    (h : ∀ s', Inv X pins σ (upd H dx (exd dx ((f, y) :: fs))) s' → Q () s') : wpAny (model X.prog X.w) A (setAttr (.ref a) f u) Q E s := by
  obtain ⟨T, bmT, cd, SF, ov, hcl, hh⟩ := O.cd
  obtain ⟨t1, ho⟩ := exo_at I.hok e
  obtain ⟨mA, hns, rel⟩ := exd_at I.hok ed
  have hw := within_of rel
  obtain ⟨hp, g, d, t, os⟩ := s
  obtain ⟨oD, _, _, hoD, _, _⟩ := hns.count hw
  refine PySem.W.set_plain I.kIn (ox := { cls := .ref C, dict := some dx, data := .fields #[.ref t1, .none, .none, .none, .bool false, .none] }) (od := some oD) ⟨ho, rfl, rfl, hoD⟩ O.sa ?_
  refine PySem.EcP.put_old SF I.kIn ho hns hw (by rw [List.length_map]; omega) ov hcl hh hno fun h' tk' k hn => ?_
  have hd : ∃ o, h'.get? dx = some o := by
    obtain ⟨o, _, _, e', _⟩ := hn
    exact ⟨o, e'⟩
  exact h _ (I.write (t' := tk') (x := dx) (e := dx) (o := exd dx ((f, y) :: fs)) (by rw [ed]; exact True.intro) (.inl rfl) k hd (exd_ok hn (relO_put ry rel)))
def tSt (K : PySem.W.Frag) (f : Str) (to te : TE) : TS := fun D σ H => te σ H fun y H1 => to σ H1 fun x H2 => ∃ a C : Addr, x = .ref a ∧ Own K C ∧ PySem.W.findIn K (.ref C) f = some none ∧
  ((H2 a = some (exo a C none) ∧ ∀ dx, H2 dx = none → dx ≠ a → D.nx σ (upd (upd H2 dx (exd dx [(f, y)])) a (exo a C (some dx)))) ∨
    ∃ (dx : Addr) (fs : List (Str × V)), H2 a = some (exo a C (some dx)) ∧ H2 dx = some (exd dx fs) ∧ fs.length ≤ 900 ∧ D.nx σ (upd H2 dx (exd dx ((f, y) :: fs))))
theorem ps_st {o e : Expr} {to te : TE} {f : Str} {p' pos : Pos} (ho : PE X o to) (he : PE X e te) (hs : swapsWith e (some (.Attribute o f p')) pos.line X.env = pure false := by rfl) : PS X (.Assign [.Attribute o f p'] e pos) (tSt X.K f to te) := by
  refine ⟨fun pins s σ H D I h => plainObj_wpAny_Assign_Attribute (thn (he.run pins s σ H _ I h) fun v s1 ⟨y, H1, I1, r1, q1⟩ => thn (ho.run pins s1 σ H1 _ I1 q1) fun u s2 ⟨x, H2, I2, r2, a, C, ex, O, hno, q⟩ => ?_) hs⟩
  subst ex
  obtain rfl : u = Value.ref a := r2
  rcases q with ⟨ea, q⟩ | ⟨dx, fs, ea, ed, hl, q⟩
  · exact put_first O I2 ea hno r1 fun dx s' n ne J => ⟨σ, _, J, q dx n ne⟩
  · exact put_more O I2 ea ed hl hno r1 fun s' J => ⟨σ, _, J, q⟩
end
end Ec

/-! Errors as values: the calls that make them. -/
namespace Ec
open PySem PySem.Spec PyProof.Rows L2
/-- the class at C has an __init__ of its own, at fI -/
structure Init (K : PySem.W.Frag) (C fI : Addr) : Prop where
  own : Own K C
  i : PySem.W.findIn K (.ref C) "__init__" = some (some (.ref fI))
  ty : PySem.W.typeIn K (.ref fI) = some (.type "function")
section
variable {X : Cx} {pins : List (Addr × Obj)} {σ : L2.St} {H : Hp} {s : Shared} {C fI : Addr} {fd : FuncData} {k : Nat} {ps ks : List Str} {sp : Sp} {Q : VK}
theorem make_at {us : List Value} {kw : List (Str × Value)} {args : Addr → List Value} {argV : Addr → List V} (N : Init X.K C fI) (F : FnOk X.prog X.w X.K X.mg X.base CX0 k fI fd ps sp) (hr : Room (k + 1) X.A) (I : Inv X pins σ H s) (hz : us.length ≤ sizeLine)
    (hb : ∀ (s : Shared) (a : Addr), X.K.In s.heap → (args a).length = ps.length → BindsTo s fd ⟨.ref a :: us, kw⟩ (ps.zip (args a))) (hv : ∀ a, Vals (argV a) (args a))
    (q : ∀ a, H a = none → sp (argV a) (upd H a (exo a C none)) (fun v H2 => v = .non ∧ Q (.ref a) H2) E0) : wpAny (model X.prog X.w) X.A (call (.ref C) us kw) (EP X pins σ Q) X.xe s := by
  obtain ⟨B, newId, bmT, Bs, nm, qn, Nn, bs, bm, sn, sub, ab, col, dd, k0, k1, k2, k3, k5, hC, ht⟩ := N.own.maker
  obtain ⟨initId, bmB, FB⟩ := Bs.ex
  obtain ⟨hp, g, dr, tk, os⟩ := s
  have hsz : hp.objs.size ≤ hp.objs.size + 1 := Nat.le_succ _
  have hn : H (hp.objs.size + 1) = none := I.hok.fresh hsz
  have hq := q (hp.objs.size + 1) hn
  have up : ∀ b o, hp.get? b = some o → ((hp.push (PySem.W.kdv_tup us)).push (PySem.HandSPX.excO C hp.objs.size)).get? b = some o := fun b o e => Heap.get?_push_of_some _ (Heap.get?_push_of_some _ e)
  have at1 : ((hp.push (PySem.W.kdv_tup us)).push (PySem.HandSPX.excO C hp.objs.size)).get? (hp.objs.size + 1) = some (PySem.HandSPX.excO C hp.objs.size) := by heap_get
  have I2 : Inv X pins σ (upd H (hp.objs.size + 1) (exo (hp.objs.size + 1) C none)) ⟨(hp.push (PySem.W.kdv_tup us)).push (PySem.HandSPX.excO C hp.objs.size), g, dr, tk, os⟩ := I.laid (t' := tk) (a := hp.objs.size + 1) (o := exo (hp.objs.size + 1) C none) up hsz (exo_ok at1)
  have hl : (args (hp.objs.size + 1)).length = ps.length := by rw [← (hv _).length]; exact F.len _ _ _ _ hq
  refine wpAny_call (PySem.EcP.call_make FB (Bs.t.of ht) (I.kIn _ _ hC) (PySem.W.looks_findIn I.kIn N.i) (fun x => PySem.W.bind_fn I.kIn x N.ty) hz (codeAny_mono (F.run _ X.stack _ _ ⟨Value.ref (hp.objs.size + 1) :: us, kw⟩ (args (hp.objs.size + 1)) _ _ E0 (hr.make C us kw) (I2.env0.make C us kw) (hb _ _ I2.kIn hl) (hv _) hq) fun r s' hq' => ?_))
  cases r with
  | error er => exact pass0 pins σ _ _ er s' I2 hq'
  | ok fl =>
    cases fl with
    | ret u =>
      obtain ⟨v, H2, J, rv, ev, q2⟩ := I2.after hq'
      subst ev
      exact ⟨rv, .ref (hp.objs.size + 1), H2, J, rfl, q2⟩
    | next => exact False.elim hq'
    | brk => exact False.elim hq'
    | cont => exact False.elim hq'
/-- a class without an __init__ of its own -/
structure Plain (K : PySem.W.Frag) (C : Addr) : Prop where
  own : Own K C
  e : PySem.W.excIn K C PySem.EcP.tailV "ValueError.__new__" = true
theorem make_plain {us : List Value} (N : Plain X.K C) (I : Inv X pins σ H s) (hz : us.length ≤ sizeLine) (q : ∀ a, H a = none → Q (.ref a) (upd H a (exo a C none))) : wpAny (model X.prog X.w) X.A (call (.ref C) us) (EP X pins σ Q) X.xe s := by
  obtain ⟨bm, N', nm, qn, bs, hdct, sn, sub, ab, col, dd, k0, k1, k2, k3, k5, mN, hC, hN, hni, T⟩ := exc_obj I.kIn N.e
  obtain ⟨hp, g, dr, tk, os⟩ := s
  refine wpAny_call_exc_subT F.excBase_ValueError T hC hN hni (fun h' a hm => ?_) hz
  have hn : H a = none := I.hok.gone hm.new
  obtain ⟨t, ht, _, _⟩ := hm.there
  exact ⟨.ref a, upd H a (exo a C none), I.laidN hm.keeps hm.new hn (exo_ok ht), rfl, q a hn⟩
end

/-! ### the rules -/
/-- C(e, ..), its own __init__ keeps sp -/
def tMkI (C : Addr) (sp : Sp) (dvs : List V) (t : TA) : TE := fun σ H Q => t σ H fun vs H1 => vs.length ≤ 1000 ∧ ∀ a, H1 a = none → sp (.ref a :: (vs ++ dvs)) (upd H1 a (exo a C none)) (fun v H2 => v = .non ∧ Q (.ref a) H2) E0
/-- C(k = e, ..) -/
def tMkK (C : Addr) (sp : Sp) (gV : List V → List V → List V) (tk : TA) : TE := fun σ H Q => tk σ H fun zs H1 => ∀ a, H1 a = none → sp (gV [.ref a] zs) (upd H1 a (exo a C none)) (fun v H2 => v = .non ∧ Q (.ref a) H2) E0
/-- C(e, ..), without an __init__ of its own -/
def tMkP (C : Addr) (t : TA) : TE := fun σ H Q => t σ H fun vs H1 => vs.length ≤ 1000 ∧ ∀ a, H1 a = none → Q (.ref a) (upd H1 a (exo a C none))
section
variable {X : Cx} {C fI : Addr} {fd : FuncData} {k : Nat} {ps ks : List Str} {sp : Sp} {ds : List Value} {dvs : List V} {x : Str} {p pos : Pos} {e : Expr} {es : List Expr} {kws : List Keyword} {t tk : TA} {g : List Value → List Value → List Value} {gV : List V → List V → List V}
theorem len_line {vs : List V} {us : List Value} (r : Vals vs us) (h : vs.length ≤ 1000) : us.length ≤ sizeLine := by
  rw [← Paired.length r, sizeLine_eq]
  omega
theorem pe_mkI (N : Init X.K C fI) (F : FnOk X.prog X.w X.K X.mg X.base CX0 k fI fd ps sp) (hr : Room (k + 1) X.A) (hb : Binds X.K fd ps ds) (hd : Vals dvs ds) (hm : X.mg x = some (.ref C)) (ha : PA X (e :: es) t) (hg : Gl X x := by rfl)
    (hdb : (x == ("__debug__" : Str)) = false := by decide) (he : starEach (e :: es) X.env = (false, eval e X.env) :: starEach es X.env := by rfl) (hpl : (backTo pos (starEach es X.env)).any (·.1) = false := by rfl) :
    PE X (.Call (.Name x p) (e :: es) [] pos) (tMkI C sp dvs t) := by
  refine ⟨fun pins s σ H Q I h => wpAny_Call_Name_kw (ld_glob I hg hm ?_ hdb)⟩
  refine PySem.W.callWith_K (h₀ := X.base) I.ok.mod.kin N.own.kC (thn (ha.run pos pins s σ H _ I h) fun us s1 ⟨vs, H1, I1, r1, hz, q1⟩ => ⟨I1.kIn, ?_⟩) he hpl
  exact make_at (args := fun a => .ref a :: (us ++ ds)) (argV := fun a => .ref a :: (vs ++ dvs)) N F hr I1 (len_line r1 hz) (fun s a K e => hb s (.ref a :: us) K e) (fun a => .cons rfl (r1.append hd)) q1
theorem pe_mkI0 (N : Init X.K C fI) (F : FnOk X.prog X.w X.K X.mg X.base CX0 k fI fd ps sp) (hr : Room (k + 1) X.A) (hb : Binds X.K fd ps ds) (hd : Vals dvs ds) (hm : X.mg x = some (.ref C)) (hg : Gl X x := by rfl) (hdb : (x == ("__debug__" : Str)) = false := by decide) :
    PE X (.Call (.Name x p) [] [] pos) (tMkI C sp dvs tNil) := by
  refine ⟨fun pins s σ H Q I h => wpAny_Call_Name_kw (ld_glob I hg hm ?_ hdb)⟩
  refine PySem.W.callWith_K0 I.kIn N.own.kC ?_
  obtain ⟨hz, q⟩ := h
  rw [List.nil_append] at q
  refine make_at (us := []) (args := fun a => .ref a :: ds) (argV := fun a => .ref a :: dvs) N F hr I (Nat.zero_le _) (fun s a K e => ?_) (fun a => .cons rfl hd) q
  have z := hb s [.ref a] K
  rw [show [Value.ref a] ++ ds = .ref a :: ds from rfl] at z
  exact z e
theorem pe_mkK (N : Init X.K C fI) (F : FnOk X.prog X.w X.K X.mg X.base CX0 k fI fd ps sp) (hr : Room (k + 1) X.A) (hb : KBinds X.K fd ps ks g gV) (hm : X.mg x = some (.ref C)) (hkw : PK X kws tk) (hg : Gl X x := by rfl)
    (hall : (backToKw pos (keywordEach kws X.env)).all (·.1.isSome) = true := by rfl) (hks : (backToKw pos (keywordEach kws X.env)).filterMap (·.1) = ks := by rfl) (hdb : (x == ("__debug__" : Str)) = false := by decide)
    (hpl : ((backTo pos (starEach [] X.env)).any (·.1) || (backToKw pos (keywordEach kws X.env)).any (·.1.isNone)) = false := by rfl) :
    PE X (.Call (.Name x p) [] kws pos) (tMkK C sp gV tk) := by
  refine ⟨fun pins s σ H Q I h => wpAny_Call_Name_kw (ld_glob I hg hm ?_ hdb)⟩
  refine PySem.W.callWith_KW0 (h₀ := X.base) I.ok.mod.kin N.own.kC hall ?_ hpl
  refine thn (hkw.run pos pins s σ H _ I h) fun ws s2 ⟨zs, H2, I2, rz, q2⟩ => ⟨I2.kIn, ?_⟩
  rw [hks]
  exact make_at (us := []) (kw := ks.zip ws) (args := fun a => g [.ref a] ws) (argV := fun a => gV [.ref a] zs) N F hr I2 (Nat.zero_le _) (fun s a K e => hb.to s [.ref a] ws K e) (fun a => hb.rel (.cons rfl .nil) rz) q2
theorem pe_mkP (N : Plain X.K C) (hm : X.mg x = some (.ref C)) (ha : PA X (e :: es) t) (hg : Gl X x := by rfl) (hdb : (x == ("__debug__" : Str)) = false := by decide)
    (he : starEach (e :: es) X.env = (false, eval e X.env) :: starEach es X.env := by rfl) (hpl : (backTo pos (starEach es X.env)).any (·.1) = false := by rfl) : PE X (.Call (.Name x p) (e :: es) [] pos) (tMkP C t) := by
  refine ⟨fun pins s σ H Q I h => wpAny_Call_Name_kw (ld_glob I hg hm ?_ hdb)⟩
  exact PySem.W.callWith_K (h₀ := X.base) I.ok.mod.kin N.own.kC (thn (ha.run pos pins s σ H _ I h) fun us s1 ⟨vs, H1, I1, r1, hz, q1⟩ => ⟨I1.kIn, make_plain N I1 (len_line r1 hz) q1⟩) he hpl
theorem pe_mkP0 (N : Plain X.K C) (hm : X.mg x = some (.ref C)) (hg : Gl X x := by rfl) (hdb : (x == ("__debug__" : Str)) = false := by decide) : PE X (.Call (.Name x p) [] [] pos) (tMkP C tNil) := by
  refine ⟨fun pins s σ H Q I h => wpAny_Call_Name_kw (ld_glob I hg hm ?_ hdb)⟩
  exact PySem.W.callWith_K0 I.kIn N.own.kC (make_plain (us := []) N I (Nat.zero_le _) h.2)
end
end Ec

/-! Calls by keywords of a def with defaults; what the head tells of a program's classes of errors. -/
namespace Ec
open PySem PySem.Spec PyProof.Rows L2
def grd {α : Type} (n m : Nat) (g : List α → List α → List α) (us ws : List α) : List α := if us.length = n ∧ ws.length = m then g us ws else []
theorem grd_eq {α : Type} {n m : Nat} {g : List α → List α → List α} {us ws : List α} (h : us.length = n) (h' : ws.length = m) : grd n m g us ws = g us ws := if_pos ⟨h, h'⟩
section
variable {K : PySem.W.Frag} {x qual : Str} {params : Arguments} {body : List Stmt} {scope : Scope} {dvs : List V} {kws : List (Str × V)} {f : Addr} {fd : FuncData} {ps ks : List Str}
/-- n values by place, m by keywords, the others from the defaults -/
theorem kb_dfl (G : {α : Type} → List α → List α → List α → List α) (n m : Nat) (F : FunD K x qual params body scope dvs kws f fd) (hd : dvs ≠ []) (hp : 0 < ps.length)
    (hr : ∀ {vs zs ds : List V} {us ws its : List Value}, Vals vs us → Vals zs ws → Vals ds its → Vals (G vs zs ds) (G us ws its))
    (h : ∀ (T : Addr) (kV doc pm : Value) (an : Option Addr) (cdv ct : Value) (us ws its : List Value), us.length = n → ws.length = m → its.length = dvs.length →
      ∃ k, bindArgs (PySem.W.fnOf x qual params body scope (.ref T) kV doc pm an cdv ct) ⟨us, ks.zip ws⟩ = seqItems? (.ref T) >>= k ∧ k (some its.toArray) = pure (ps.zip (G us ws its))) :
    ∃ g, KBinds K fd ps ks g (grd n m fun vs zs => G vs zs dvs) := by
  obtain ⟨oc, od, dV, kV, doc, pm, an, cdv, ct, osl, rfl, lk, hcd, hD, hK⟩ := F.ex
  rcases hD with ⟨e, _⟩ | ⟨_, T, o, its, mm, rfl, lT, oT, rT⟩
  · exact absurd e hd
  refine ⟨grd n m fun us ws => G us ws its, fun s us ws X hlen => ?_, fun {vs us zs ws} r1 r2 => ?_⟩
  · unfold grd at hlen ⊢
    by_cases c : us.length = n ∧ ws.length = m
    · rw [if_pos c] at hlen ⊢
      obtain ⟨k, e1, e2⟩ := h T kV doc pm an cdv ct us ws its c.1 c.2 rT.length.symm
      refine BindsTo.of_looks fun M => ?_
      rw [e1]
      exact looks_items X lT oT (.of_pure e2)
    · rw [if_neg c] at hlen
      have z : (0 : Nat) = ps.length := hlen
      omega
  · unfold grd
    rw [r1.length, r2.length]
    by_cases c : us.length = n ∧ ws.length = m
    · rw [if_pos c, if_pos c]
      exact hr r1 r2 rT
    · rw [if_neg c, if_neg c]
      exact .nil
end

/-! ### a program's classes of errors -/
/-- the classes: name, has it an __init__ of its own, its fields -/
abbrev Cl : Type := Str × Bool × List Str
abbrev cA (K : PySem.W.Frag) (x : Str) : Addr := He.ga K x
abbrev iA (K : PySem.W.Frag) (x : Str) : Addr := He.fAd K (x, some "__init__")
def clB (K : PySem.W.Frag) (c : Cl) : Bool := ownB K (cA K c.1) && ((if c.2.1 = true then decide (PySem.W.findIn K (.ref (cA K c.1)) "__init__" = some (some (.ref (iA K c.1)))) && decide (PySem.W.typeIn K (.ref (iA K c.1)) = some (.type "function")) else PySem.W.excIn K (cA K c.1) PySem.EcP.tailV "ValueError.__new__") &&
  c.2.2.all fun f => decide (PySem.W.findIn K (.ref (cA K c.1)) f = some none))
def kinB (K : PySem.W.Frag) (p : Str × Str × Bool) : Bool := decide (PySem.W.kitOne K (.ref (cA K p.1)) (.ref (cA K p.2.1)) = some p.2.2)
def kitB (K : PySem.W.Frag) (p : Str × String × Bool) : Bool := decide (PySem.W.kitOne K (.ref (cA K p.1)) (.type p.2.1) = some p.2.2)
def exB (cs : List Cl) (ks : List (Str × Str × Bool)) (bs : List (Str × String × Bool)) (K : PySem.W.Frag) : Bool := cs.all (clB K) && (ks.all (kinB K) && bs.all (kitB K))
structure Errs (cs : List Cl) (ks : List (Str × Str × Bool)) (bs : List (Str × String × Bool)) (K : PySem.W.Frag) : Prop where
  cl : ∀ c ∈ cs, clB K c = true
  kin : ∀ p ∈ ks, PySem.W.kitOne K (.ref (cA K p.1)) (.ref (cA K p.2.1)) = some p.2.2
  kit : ∀ p ∈ bs, PySem.W.kitOne K (.ref (cA K p.1)) (.type p.2.1) = some p.2.2
section
variable {cs : List Cl} {ks : List (Str × Str × Bool)} {bs : List (Str × String × Bool)} {K : PySem.W.Frag}
theorem errs_of (h : exB cs ks bs K = true) : Errs cs ks bs K := by
  unfold exB at h
  simp only [Bool.and_eq_true, List.all_eq_true] at h
  exact ⟨h.1, fun p hp => of_decide_eq_true (h.2.1 p hp), fun p hp => of_decide_eq_true (h.2.2 p hp)⟩
theorem Errs.own (E : Errs cs ks bs K) {x : Str} {b : Bool} {fs : List Str} (h : (x, b, fs) ∈ cs) : Own K (cA K x) := by
  have z := E.cl _ h
  unfold clB at z
  exact own_ok (Bool.and_eq_true_iff.mp z).1
theorem Errs.init (E : Errs cs ks bs K) {x : Str} {fs : List Str} (h : (x, true, fs) ∈ cs) : Init K (cA K x) (iA K x) := by
  have z := E.cl _ h
  unfold clB at z
  obtain ⟨z1, z⟩ := Bool.and_eq_true_iff.mp z
  obtain ⟨z2, _⟩ := Bool.and_eq_true_iff.mp z
  rw [if_pos rfl] at z2
  obtain ⟨z3, z4⟩ := Bool.and_eq_true_iff.mp z2
  exact ⟨own_ok z1, of_decide_eq_true z3, of_decide_eq_true z4⟩
theorem Errs.plain (E : Errs cs ks bs K) {x : Str} {fs : List Str} (h : (x, false, fs) ∈ cs) : Plain K (cA K x) := by
  have z := E.cl _ h
  unfold clB at z
  obtain ⟨z1, z⟩ := Bool.and_eq_true_iff.mp z
  obtain ⟨z2, _⟩ := Bool.and_eq_true_iff.mp z
  exact ⟨own_ok z1, z2⟩
theorem Errs.fld (E : Errs cs ks bs K) {x f : Str} {b : Bool} {fs : List Str} (h : (x, b, fs) ∈ cs) (hf : f ∈ fs) : PySem.W.findIn K (.ref (cA K x)) f = some none := by
  have z := E.cl _ h
  unfold clB at z
  obtain ⟨_, z⟩ := Bool.and_eq_true_iff.mp z
  obtain ⟨_, z⟩ := Bool.and_eq_true_iff.mp z
  exact of_decide_eq_true (List.all_eq_true.mp z f hf)
end
end Ec

/-! The law's def, run where no repr is under way around it: so repr of data is its text. -/
namespace Gd
open PySem PySem.Spec PyProof.Rows L2
/-- a def's promise where nothing that guards is under way around the call -/
structure FnG (P : Program) (w : World) (K : PySem.W.Frag) (mg : Str → Option Value) (base : Heap) (CX : CXT) (k : Nat) (f : Addr) (fd : FuncData) (ps : List Str) (sp : Sp) : Prop where
  ar : ∀ xs G Q E, sp xs G Q E → xs.length = ps.length
  go : ∀ (B : Around) (out : List Env) (t : Shared) (G : Hp) (as : Args) (us : List Value) (xs : List V) (Q : VK) (E : XK), B.guards = some [] → Room k B → Env0 P w K mg base B out t G → BindsTo t fd as (ps.zip us) → Vals xs us → sp xs G Q E →
    codeAny (model P w) B (.call (.ref f) as) (CR CX out P w G t Q E) t
theorem fnG_of {CX : CXT} {P : Program} {w : World} {K : PySem.W.Frag} {mg : Str → Option Value} {base : Heap} {k : Nat} {f : Addr} {x qu : Str} {pr : Arguments} {bd : List Stmt} {sc : Scope} {v1 v2 v3 v4 v5 v6 v7 : Value} {a1 a2 : Option Addr}
    {sl : Array (Option Value)} {N ps : List Str} {sp : Sp} (at_ : K.lookup f = some ⟨v7, a2, .func (PySem.W.fnOf x qu pr bd sc v1 v2 v3 v4 a1 v5 v6), sl⟩) (co : PySem.W.codeIn K v5 qu = true) (S : FnScope N ps sc) (ar : ∀ xs G Q E, sp xs G Q E → xs.length = ps.length)
    (body : ∀ (B : Around) (out : List Env) (t : Shared) (G : Hp) (xs : List V) (Q : VK) (E : XK), B.guards = some [] → Room k (B.deeper (envOfC qu sc t.heap.objs.size f v5)) → sp xs G Q E →
      ∃ rd, PSs (cxOf CX P w K mg base N qu sc f v5 B out t G E) bd rd ∧ rd { nx := fun _ G' => Q .non G', rt := Q } (start N xs) G) :
    FnG P w K mg base CX (k + 1) f (PySem.W.fnOf x qu pr bd sc v1 v2 v3 v4 a1 v5 v6) ps sp := by
  constructor
  · exact ar
  intro B out t G as us xs Q E gs room en bi rel pr0
  have n0 := ar _ _ _ _ pr0
  have inK : K.In t.heap := en.mod.kin.keeps fun a u z => (en.bs a u z).1
  have noL : t.heap.NoLimit := en.mod.nolimit.keeps fun a u z => (en.bs a u z).1
  have kinds : ∀ q ∈ ps.zip us, sc.names.lookup q.1 = some .local ∨ (sc.names.lookup q.1 = some .cell ∧ ((cellsFrom (t.heap.objs.size + 1) sc.names []).lookup q.1).isSome = true) := by
    rintro ⟨z, u⟩ hq
    rcases S.par z (List.of_mem_zip hq).1 with h | h
    · exact Or.inl h
    · exact Or.inr ⟨h, PySem.W.cellsFrom_some _ _ _ (Or.inl h)⟩
  refine codeAny_call_function room.depth (inK _ _ at_) rfl S.co S.gen rfl (PySem.W.codeRec_of inK co) (bi _ _ _ _ ?_)
  refine wpAny_newFunctionEnv_cells S.kind kinds fun en1 z1 t1 in1 => ?_
  subst z1
  refine ⟨noL.keeps in1.toInCall.keep, codeAny_func ?_⟩
  obtain ⟨rd, tm, hrd⟩ := body B out t G xs Q E gs (room.deeper _) pr0
  have J : Inv (cxOf CX P w K mg base N qu sc f v5 B out t G E) [] (start N xs) G t1 := inv_start S room.hd en n0 rel in1
  refine wpAny_mono (tm.run [] t1 (start N xs) G _ J hrd) (fun fl t2 end_ => ?_) fun _ _ z => z
  cases fl with
  | ret u =>
    obtain ⟨y, st, G2, J2, ry, hy⟩ := end_
    exact ⟨y, G2, J2.os, J2.bare, J2.base, J2.hok, ry, hy⟩
  | next =>
    obtain ⟨st, G2, J2, hy⟩ := end_
    exact ⟨V.non, G2, J2.os, J2.bare, J2.base, J2.hok, (rfl : Value.none = Value.none), hy⟩
  | brk =>
    obtain ⟨_, _, _, z⟩ := end_
    exact z.elim
  | cont =>
    obtain ⟨_, _, _, z⟩ := end_
    exact z.elim
theorem okG {CX : CXT} {P : Program} {w : World} {K : PySem.W.Frag} {mg : Str → Option Value} {base : Heap} {k : Nat} {x qu : Str} {pr : Arguments} {bd : List Stmt} {sc : Scope} {f : Addr} {fd : FuncData} {N ps : List Str} {sp : Sp} {dvs : List V} {kws : List (Str × V)} (F : FunD K x qu pr bd sc dvs kws f fd) (S : FnScope N ps sc)
    (ar : ∀ xs G Q E, sp xs G Q E → xs.length = ps.length)
    (body : ∀ (cdv : Value) (B : Around) (out : List Env) (t : Shared) (G : Hp) (xs : List V) (Q : VK) (E : XK), B.guards = some [] → Room k (B.deeper (envOfC qu sc t.heap.objs.size f cdv)) → sp xs G Q E →
      ∃ rd, PSs (cxOf CX P w K mg base N qu sc f cdv B out t G E) bd rd ∧ rd { nx := fun _ G' => Q .non G', rt := Q } (start N xs) G) : FnG P w K mg base CX (k + 1) f fd ps sp := by
  obtain ⟨_, _, _, _, _, _, _, cdv, _, _, rfl, at_, co, _, _⟩ := F.ex
  exact fnG_of at_ co S ar fun B out t G xs Q E gs room pr0 => body cdv B out t G xs Q E gs room pr0
/-- the call of the law behind the top -/
theorem callG {P : Program} {w : World} {K : PySem.W.Frag} {mg mb : Str → Option Value} {CX : CXT} {k : Nat} {f b0 : Addr} {fd : FuncData} {x : Str} {sp : Sp} {t : Shared} {us : List Value} {ks : List Int}
    (inK : K.In t.heap) (ns1 : t.heap.Ns mainGlobals mg) (ns2 : t.heap.Ns builtinsNs mb) (boot : ∀ z : Str, z ≠ "__name__" → mb z = bootBuiltins z) (noL : t.heap.NoLimit) (nog : t.gens = #[])
    (at_ : t.heap.get? b0 = some { cls := .type "list", data := .seq us.toArray }) (are : IntsAre us ks) (few : ks.length ≤ sizeLine) (room : Room k callerA)
    (F : ∀ base : Heap, K.In base → base.Ns mainGlobals mg → FnG P w K mg base CX k f fd [x] sp) (bi : ∀ (t : Shared) (u : Value), BindsTo t fd ⟨[u], []⟩ [(x, u)])
    (pr0 : ∀ G : Hp, Only G → SqL K G b0 (ks.map V.int) → sp [.ref b0] G (fun v _ => v = .bl true) fun _ _ _ => False)
    (noX : ∀ G e t', CX [] G t (fun _ _ _ => False) e t' → False) :
    codeAny (model P w) callerA (.call (.ref f) ⟨[.ref b0], []⟩) (fun r t' => r = .ok (.ret (.bool true)) ∧ OldK t.heap t'.heap ∧ t'.os = t.os ∧ AllBare t'.gens) t := by
  have rel := vals_ints are
  have many := are.length
  -- what is tracked: the script at most
  have main : ∀ G : Hp, Only G → SqL K G b0 (ks.map V.int) → HOk P w G t.heap → (∀ a, G a ≠ none → a = b0) → (G b0 ≠ none → K.lookup b0 = none) →
      codeAny (model P w) callerA (.call (.ref f) ⟨[.ref b0], []⟩) (fun r t' => r = .ok (.ret (.bool true)) ∧ OldK t.heap t'.heap ∧ t'.os = t.os ∧ AllBare t'.gens) t := by
    intro G oG sG okG oneG kG
    have there : ∀ {a : Addr} {u : Obj}, t.heap.get? a = some u → G a = none → (hidT t.heap G).get? a = some u := fun h1 h2 => hidT_get h1 h2
    have free : ∀ {a : Addr} {u : Obj} {es : Array DictEntry} {ep : Nat}, t.heap.get? a = some u → u.data = .dict es ep → G a = none := by
      intro a u es ep h1 h2
      rcases hG : G a with _ | y
      · rfl
      · obtain rfl : a = b0 := oneG a (by rw [hG]; simp)
        rw [at_] at h1
        cases h1
        have h3 : Data.seq us.toArray _ = Data.dict es ep := h2
        cases h3
    have keepN : ∀ {a : Addr} {m : Str → Option Value}, t.heap.Ns a m → (hidT t.heap G).Ns a m := by
      rintro a m ⟨u, es, ep, h1, h2, h3⟩
      exact ⟨u, es, ep, there h1 (free h1 h2), h2, h3⟩
    have inB : K.In (hidT t.heap G) := by
      intro a u h1
      refine there (inK a u h1) ?_
      rcases hG : G a with _ | y
      · rfl
      · obtain rfl : a = b0 := oneG a (by rw [hG]; simp)
        rw [kG (by rw [hG]; simp)] at h1
        cases h1
    have mo : Mod K mg (hidT t.heap G) := ⟨inB, keepN ns1, ⟨mb, keepN ns2, boot⟩, by obtain ⟨mc, h1, h2⟩ := noL; exact ⟨mc, keepN h1, h2⟩⟩
    have en : Env0 P w K mg (hidT t.heap G) callerA [] t G := ⟨rfl, mo, fun a u h => of_hidT h, Nat.le_of_eq (hidT_size _ _), True.intro, fun a h => absurd (show a ∈ ([] : List Addr) from h) List.not_mem_nil, okG, .of_eq nog⟩
    have run1 := (F _ inB (keepN ns1)).go callerA [] t G ⟨[.ref b0], []⟩ [.ref b0] [.ref b0] _ _ rfl room en (bi t (.ref b0)) (.cons rfl .nil) (pr0 G oG sG)
    refine codeAny_mono run1 fun r t' h => ?_
    rcases r with e | fl
    · exact (noX G e t' h).elim
    · cases fl with
      | next => exact (h : False).elim
      | brk => exact (h : False).elim
      | cont => exact (h : False).elim
      | ret u =>
        obtain ⟨y, G2, h1, h2, h3, h4, h5, h6⟩ := h
        obtain rfl : y = .bl true := h6
        obtain rfl : u = Value.bool true := h5
        refine ⟨rfl, OldK.of_keep fun a u h => ?_, h1, h2⟩
        rcases hG : G a with _ | y
        · exact h3.keep a u h hG (fun z => absurd (show a ∈ ([] : List Addr) from z) List.not_mem_nil) (by simp)
        · rcases oG a with z | ⟨oz, ys, z⟩
          · rw [hG] at z; cases z
          · obtain ⟨q1, _⟩ := okG a _ z
            obtain ⟨q2, _⟩ := h4 a _ (h3.frzs a oz _ z)
            rw [h] at q1
            cases q1
            exact q2
  rcases hk : K.lookup b0 with _ | u
  · refine main (fun a => if a = b0 then some (.frz { cls := .type "list", data := .seq us.toArray } (.lst (ks.map V.int))) else none) (fun a => ?_) (Or.inl (Or.inr ⟨{ cls := .type "list", data := .seq us.toArray }, if_pos rfl⟩)) (fun a u z => ?_) (fun a z => ?_) fun _ => hk
    · by_cases e : a = b0
      · exact Or.inr ⟨_, _, if_pos e⟩
      · exact Or.inl (if_neg e)
    · by_cases e : a = b0
      · have z2 := (if_pos e).symm.trans z
        cases z2
        subst e
        exact ⟨at_, by rw [List.length_map]; exact few, us, _, rel, at_⟩
      · have z2 := (if_neg e).symm.trans z
        cases z2
    · by_cases e : a = b0
      · exact e
      · exact absurd (if_neg e) z
  · -- the script is an object of the module's own
    have h1 := inK b0 u hk
    rw [at_] at h1
    cases h1
    refine main (fun _ => none) (fun _ => Or.inl rfl) (Or.inr ⟨_, us.toArray, _, hk, rfl, rfl, rfl, by rw [List.size_toArray, many]; exact few, by simpa using rel⟩) (fun a u z => nomatch (z : (none : Option HO) = some u)) (fun a z => absurd rfl z) fun z => absurd rfl z
/-- a law's end, with callG -/
theorem walk_ofG {l : PySem.W.OpenLaw} {n k : Nat} {q : Program} {loose : List Str} {XP : (Str → Option Value) → Heap → Prop} {YP : World → Heap → Prop} {d : DefRec} {CX : CXT} {x : Str}
    (hn : l.most = some n) (few : n ≤ sizeLine) (nod : d.params.defaults = []) (room : Room k callerA)
    (F : ∀ (w : World) (mg : Str → Option Value) (f : Addr) (h : Heap), YP w h → h.Ns mainGlobals mg → mg d.name = some (.ref f) →
      ∃ (K : PySem.W.Frag) (fd : FuncData) (sp : Sp), K.In h ∧ (∀ (t : Shared) (u : Value), BindsTo t fd ⟨[u], []⟩ [(x, u)]) ∧
        (∀ (G : Hp) (b0 : Addr) (ks : List Int), ks.length ≤ n → Only G → SqL K G b0 (ks.map V.int) → sp [.ref b0] G (fun v _ => v = .bl true) fun _ _ _ => False) ∧
        ∀ base : Heap, K.In base → base.Ns mainGlobals mg → FnG l.prog w K mg base CX k f fd [x] sp)
    (noX : ∀ (G : Hp) (t : Shared) (e : Value) (t' : Shared), CX [] G t (fun _ _ _ => False) e t' → False) :
    PySem.W.WalkO q loose XP YP l.row.toRowW d [] (fun f vs => PySem.call f vs) := by
  refine Att.attach_call hn nod fun w t0 t1 mg mb f ob _ _ _ b0 us ks Gr Y _ _ _ e1 e2 are le1 nog => ?_
  obtain ⟨K, fd, sp, inK, bi, pr0, F1⟩ := F w mg f _ Y Gr.T.g e1
  exact callG inK Gr.T.g Gr.T.b Gr.T.builtins Gr.T.nolimit nog e2 are (Nat.le_trans le1 few) room F1 bi (fun G o z => pr0 G b0 ks le1 o z) fun G e t' => noX G t1 e t'
/-- repr of data that stands in the heap -/
theorem call_reprD {X : Cx} (gs : X.A.guards = some []) (hu : X.A.units + 100 < cLine) : CallR X (.builtin "repr") (fun xs G Q => ∃ p d, xs = [.ref p] ∧ Dp X.K G (.ref p) d ∧ d.showable = true ∧ d.hasDict = false ∧ d.depth ≤ 60 ∧ d.shown.length ≤ sizeLine ∧ Q (.str d.shown) G) := by
  intro pins t σ G xs us Q I rel h
  obtain ⟨p, d, rfl, hd, h1, h2, h3, h4, hq⟩ := h
  obtain ⟨u, rfl, r1⟩ := vals1 rel
  obtain rfl : u = Value.ref p := r1
  obtain ⟨as, rd⟩ := Dp.reads I d _ _ hd rfl
  refine repr_of_reads' rd h1 (fun z => by rw [h2] at z; cases z) gs (by omega) (fun _ _ z => z) (fun h' u tk k => ?_) h4
  exact ⟨.str d.shown, G, I.kept k, ⟨_, rfl⟩, hq⟩
end Gd

namespace L09
open PySem PySem.Spec PyProof.Rows L2
open Ec
def top (i : Nat) : Stmt := PySem.Challenge.pw_landweave_k09_bounds.main.body.getD i (.Pass ⟨0, 0, 0, 0⟩)
-- ahead
def nmC : List Str := ["NoRules", "NoBox", "NoPoint", "NoLevel", "NoCount", "NoEdit", "Full", "NoDeed", "NoBrush", "NoText", "NoLine", "NoSuch"]
def nm (i : Nat) : Str := nmC.getD i ""
/-- what isinstance tells of None, or of an error of the i-th class -/
def bO : Option Nat → Str → Bool
  | none, _ => false
  | some i, y => if y = ("LandError" : Str) then decide (i < 11) else decide (nm i = y)
def csK : List Cl := [("NoBox", false, [])]
def kinsK : List (Str × Str × Bool) := (nmC ++ (["LandError"] : List Str)).map fun y => ("NoBox", y, bO (some 1) y)
-- ahead end
abbrev s_is_from : Stmt := top 18
abbrev s_is_name : Stmt := top 19
abbrev s_is_point : Stmt := top 20
abbrev s_must_point : Stmt := top 21
abbrev s_is_box : Stmt := top 22
abbrev s_must_box : Stmt := top 23
abbrev s_knot : Stmt := top 32
abbrev s_four_knots : Stmt := top 33
abbrev s_knot_row : Stmt := top 34
abbrev s_noise_value : Stmt := top 38
abbrev s_knots_beside : Stmt := top 40
abbrev s_noise_grid : Stmt := top 39
abbrev s_corner_values : Stmt := top 42
abbrev s_turns : Stmt := top 43
abbrev s_noise_range : Stmt := top 41
abbrev s_weighed : Stmt := top 56
abbrev s_weighed_long : Stmt := top 57
abbrev s_greatest_of : Stmt := top 55
abbrev s_placed : Stmt := top 59
abbrev s_below_range : Stmt := top 63
abbrev s_joined_range : Stmt := top 64
abbrev s_ranges_of : Stmt := top 62
abbrev s_must_ranges : Stmt := top 58
abbrev s_steps_of : Stmt := top 52
abbrev s_run_known : Stmt := top 60
abbrev s_run_steps : Stmt := top 53
abbrev s_value_at : Stmt := top 51
abbrev s_steps_range : Stmt := top 61
abbrev s_bounds_of : Stmt := top 54
abbrev s_law_at : Stmt := top 66
abbrev s_law_mixed : Stmt := top 67
abbrev s_law_purse : Stmt := top 68
abbrev s_law_draw : Stmt := top 69
abbrev s_law_whole : Stmt := top 70
abbrev s_law_knot : Stmt := top 71
abbrev s_law_noise : Stmt := top 72
abbrev s_law_two : Stmt := top 73
abbrev s_law_value : Stmt := top 74
abbrev s_law_noise_range : Stmt := top 75
abbrev s_law_two_range : Stmt := top 76
abbrev s_law_below_range : Stmt := top 77
abbrev s_law_range : Stmt := top 78
abbrev s_law_number : Stmt := top 79
abbrev s_law_leaf : Stmt := top 80
abbrev s_law_field : Stmt := top 81
abbrev s_law_all_ranges : Stmt := top 82
abbrev s_law_small : Stmt := top 83
abbrev s_law_rules : Stmt := top 84
abbrev s_law_grain : Stmt := top 85
abbrev s_law_place : Stmt := top 86
abbrev s_law_area : Stmt := top 87
abbrev s_law_class : Stmt := top 88
abbrev s_law_caught : Stmt := top 89
abbrev s_law_areas : Stmt := top 90
abbrev s_law_spots : Stmt := top 91
abbrev s_law_all_points : Stmt := top 92
abbrev s_law_right : Stmt := top 93
abbrev s_law : Stmt := top 94
namespace Hd
/-! ### the head: facts by names, the run -/
def dd_is_from : He.DefD := ⟨("is_from", none), "is_from", "is_from", defArgs s_is_from, defBody s_is_from, defScope s_is_from, [], []⟩
def dd_is_name : He.DefD := ⟨("is_name", none), "is_name", "is_name", defArgs s_is_name, defBody s_is_name, defScope s_is_name, [], []⟩
def dd_is_point : He.DefD := ⟨("is_point", none), "is_point", "is_point", defArgs s_is_point, defBody s_is_point, defScope s_is_point, [], []⟩
def dd_must_point : He.DefD := ⟨("must_point", none), "must_point", "must_point", defArgs s_must_point, defBody s_must_point, defScope s_must_point, [], []⟩
def dd_is_box : He.DefD := ⟨("is_box", none), "is_box", "is_box", defArgs s_is_box, defBody s_is_box, defScope s_is_box, [], []⟩
def dd_must_box : He.DefD := ⟨("must_box", none), "must_box", "must_box", defArgs s_must_box, defBody s_must_box, defScope s_must_box, [], []⟩
def dd_knot : He.DefD := ⟨("knot", none), "knot", "knot", defArgs s_knot, defBody s_knot, defScope s_knot, [], []⟩
def dd_four_knots : He.DefD := ⟨("four_knots", none), "four_knots", "four_knots", defArgs s_four_knots, defBody s_four_knots, defScope s_four_knots, [], []⟩
def dd_knot_row : He.DefD := ⟨("knot_row", none), "knot_row", "knot_row", defArgs s_knot_row, defBody s_knot_row, defScope s_knot_row, [], []⟩
def dd_noise_value : He.DefD := ⟨("noise_value", none), "noise_value", "noise_value", defArgs s_noise_value, defBody s_noise_value, defScope s_noise_value, [], []⟩
def dd_noise_grid : He.DefD := ⟨("noise_grid", none), "noise_grid", "noise_grid", defArgs s_noise_grid, defBody s_noise_grid, defScope s_noise_grid, [], []⟩
def dd_knots_beside : He.DefD := ⟨("knots_beside", none), "knots_beside", "knots_beside", defArgs s_knots_beside, defBody s_knots_beside, defScope s_knots_beside, [], []⟩
def dd_noise_range : He.DefD := ⟨("noise_range", none), "noise_range", "noise_range", defArgs s_noise_range, defBody s_noise_range, defScope s_noise_range, [], []⟩
def dd_corner_values : He.DefD := ⟨("corner_values", none), "corner_values", "corner_values", defArgs s_corner_values, defBody s_corner_values, defScope s_corner_values, [], []⟩
def dd_turns : He.DefD := ⟨("turns", none), "turns", "turns", defArgs s_turns, defBody s_turns, defScope s_turns, [], []⟩
def dd_value_at : He.DefD := ⟨("value_at", none), "value_at", "value_at", defArgs s_value_at, defBody s_value_at, defScope s_value_at, [], []⟩
def dd_steps_of : He.DefD := ⟨("steps_of", none), "steps_of", "steps_of", defArgs s_steps_of, defBody s_steps_of, defScope s_steps_of, [], []⟩
def dd_run_steps : He.DefD := ⟨("run_steps", none), "run_steps", "run_steps", defArgs s_run_steps, defBody s_run_steps, defScope s_run_steps, [], []⟩
def dd_bounds_of : He.DefD := ⟨("bounds_of", none), "bounds_of", "bounds_of", defArgs s_bounds_of, defBody s_bounds_of, defScope s_bounds_of, [], []⟩
def dd_greatest_of : He.DefD := ⟨("greatest_of", none), "greatest_of", "greatest_of", defArgs s_greatest_of, defBody s_greatest_of, defScope s_greatest_of, [], []⟩
def dd_weighed : He.DefD := ⟨("weighed", none), "weighed", "weighed", defArgs s_weighed, defBody s_weighed, defScope s_weighed, [], []⟩
def dd_weighed_long : He.DefD := ⟨("weighed_long", none), "weighed_long", "weighed_long", defArgs s_weighed_long, defBody s_weighed_long, defScope s_weighed_long, [], []⟩
def dd_must_ranges : He.DefD := ⟨("must_ranges", none), "must_ranges", "must_ranges", defArgs s_must_ranges, defBody s_must_ranges, defScope s_must_ranges, [], []⟩
def dd_placed : He.DefD := ⟨("placed", none), "placed", "placed", defArgs s_placed, defBody s_placed, defScope s_placed, [], []⟩
def dd_run_known : He.DefD := ⟨("run_known", none), "run_known", "run_known", defArgs s_run_known, defBody s_run_known, defScope s_run_known, [], []⟩
def dd_steps_range : He.DefD := ⟨("steps_range", none), "steps_range", "steps_range", defArgs s_steps_range, defBody s_steps_range, defScope s_steps_range, [], []⟩
def dd_ranges_of : He.DefD := ⟨("ranges_of", none), "ranges_of", "ranges_of", defArgs s_ranges_of, defBody s_ranges_of, defScope s_ranges_of, [], []⟩
def dd_below_range : He.DefD := ⟨("below_range", none), "below_range", "below_range", defArgs s_below_range, defBody s_below_range, defScope s_below_range, [], []⟩
def dd_joined_range : He.DefD := ⟨("joined_range", none), "joined_range", "joined_range", defArgs s_joined_range, defBody s_joined_range, defScope s_joined_range, [], []⟩
def dd_law_at : He.DefD := ⟨("_law_at", none), "_law_at", "_law_at", defArgs s_law_at, defBody s_law_at, defScope s_law_at, [], []⟩
def dd_law_mixed : He.DefD := ⟨("_law_mixed", none), "_law_mixed", "_law_mixed", defArgs s_law_mixed, defBody s_law_mixed, defScope s_law_mixed, [], []⟩
def dd_law_purse : He.DefD := ⟨("_law_purse", none), "_law_purse", "_law_purse", defArgs s_law_purse, defBody s_law_purse, defScope s_law_purse, [], []⟩
def dd_law_draw : He.DefD := ⟨("_law_draw", none), "_law_draw", "_law_draw", defArgs s_law_draw, defBody s_law_draw, defScope s_law_draw, [], []⟩
def dd_law_whole : He.DefD := ⟨("_law_whole", none), "_law_whole", "_law_whole", defArgs s_law_whole, defBody s_law_whole, defScope s_law_whole, [], []⟩
def dd_law_knot : He.DefD := ⟨("_law_knot", none), "_law_knot", "_law_knot", defArgs s_law_knot, defBody s_law_knot, defScope s_law_knot, [], []⟩
def dd_law_noise : He.DefD := ⟨("_law_noise", none), "_law_noise", "_law_noise", defArgs s_law_noise, defBody s_law_noise, defScope s_law_noise, [], []⟩
def dd_law_two : He.DefD := ⟨("_law_two", none), "_law_two", "_law_two", defArgs s_law_two, defBody s_law_two, defScope s_law_two, [], []⟩
def dd_law_value : He.DefD := ⟨("_law_value", none), "_law_value", "_law_value", defArgs s_law_value, defBody s_law_value, defScope s_law_value, [], []⟩
def dd_law_noise_range : He.DefD := ⟨("_law_noise_range", none), "_law_noise_range", "_law_noise_range", defArgs s_law_noise_range, defBody s_law_noise_range, defScope s_law_noise_range, [], []⟩
def dd_law_two_range : He.DefD := ⟨("_law_two_range", none), "_law_two_range", "_law_two_range", defArgs s_law_two_range, defBody s_law_two_range, defScope s_law_two_range, [], []⟩
def dd_law_below_range : He.DefD := ⟨("_law_below_range", none), "_law_below_range", "_law_below_range", defArgs s_law_below_range, defBody s_law_below_range, defScope s_law_below_range, [], []⟩
def dd_law_range : He.DefD := ⟨("_law_range", none), "_law_range", "_law_range", defArgs s_law_range, defBody s_law_range, defScope s_law_range, [], []⟩
def dd_law_number : He.DefD := ⟨("_law_number", none), "_law_number", "_law_number", defArgs s_law_number, defBody s_law_number, defScope s_law_number, [], []⟩
def dd_law_leaf : He.DefD := ⟨("_law_leaf", none), "_law_leaf", "_law_leaf", defArgs s_law_leaf, defBody s_law_leaf, defScope s_law_leaf, [], []⟩
def dd_law_field : He.DefD := ⟨("_law_field", none), "_law_field", "_law_field", defArgs s_law_field, defBody s_law_field, defScope s_law_field, [], []⟩
def dd_law_all_ranges : He.DefD := ⟨("_law_all_ranges", none), "_law_all_ranges", "_law_all_ranges", defArgs s_law_all_ranges, defBody s_law_all_ranges, defScope s_law_all_ranges, [], []⟩
def dd_law_small : He.DefD := ⟨("_law_small", none), "_law_small", "_law_small", defArgs s_law_small, defBody s_law_small, defScope s_law_small, [], []⟩
def dd_law_rules : He.DefD := ⟨("_law_rules", none), "_law_rules", "_law_rules", defArgs s_law_rules, defBody s_law_rules, defScope s_law_rules, [], []⟩
def dd_law_grain : He.DefD := ⟨("_law_grain", none), "_law_grain", "_law_grain", defArgs s_law_grain, defBody s_law_grain, defScope s_law_grain, [], []⟩
def dd_law_place : He.DefD := ⟨("_law_place", none), "_law_place", "_law_place", defArgs s_law_place, defBody s_law_place, defScope s_law_place, [], []⟩
def dd_law_area : He.DefD := ⟨("_law_area", none), "_law_area", "_law_area", defArgs s_law_area, defBody s_law_area, defScope s_law_area, [], []⟩
def dd_law_class : He.DefD := ⟨("_law_class", none), "_law_class", "_law_class", defArgs s_law_class, defBody s_law_class, defScope s_law_class, [], []⟩
def dd_law_caught : He.DefD := ⟨("_law_caught", none), "_law_caught", "_law_caught", defArgs s_law_caught, defBody s_law_caught, defScope s_law_caught, [], []⟩
def dd_law_areas : He.DefD := ⟨("_law_areas", none), "_law_areas", "_law_areas", defArgs s_law_areas, defBody s_law_areas, defScope s_law_areas, [], []⟩
def dd_law_spots : He.DefD := ⟨("_law_spots", none), "_law_spots", "_law_spots", defArgs s_law_spots, defBody s_law_spots, defScope s_law_spots, [], []⟩
def dd_law_all_points : He.DefD := ⟨("_law_all_points", none), "_law_all_points", "_law_all_points", defArgs s_law_all_points, defBody s_law_all_points, defScope s_law_all_points, [], []⟩
def dd_law_right : He.DefD := ⟨("_law_right", none), "_law_right", "_law_right", defArgs s_law_right, defBody s_law_right, defScope s_law_right, [], []⟩
def dd_law : He.DefD := ⟨("law", none), "law", "law", defArgs s_law, defBody s_law, defScope s_law, [], []⟩
def fn : List He.DefD := [dd_is_from, dd_is_name, dd_is_point, dd_must_point, dd_is_box, dd_must_box, dd_knot, dd_four_knots, dd_knot_row, dd_noise_value, dd_noise_grid, dd_knots_beside, dd_noise_range, dd_corner_values, dd_turns, dd_value_at, dd_steps_of, dd_run_steps, dd_bounds_of, dd_greatest_of, dd_weighed, dd_weighed_long, dd_must_ranges, dd_placed, dd_run_known, dd_steps_range, dd_ranges_of, dd_below_range, dd_joined_range, dd_law_at, dd_law_mixed, dd_law_purse, dd_law_draw, dd_law_whole, dd_law_knot, dd_law_noise, dd_law_two, dd_law_value, dd_law_noise_range, dd_law_two_range, dd_law_below_range, dd_law_range, dd_law_number, dd_law_leaf, dd_law_field, dd_law_all_ranges, dd_law_small, dd_law_rules, dd_law_grain, dd_law_place, dd_law_area, dd_law_class, dd_law_caught, dd_law_areas, dd_law_spots, dd_law_all_points, dd_law_right, dd_law]
def fa : List He.Fa := [.glo "is_from", .glo "is_name", .glo "is_point", .glo "must_point", .glo "is_box", .glo "must_box", .glo "knot", .glo "four_knots", .glo "knot_row", .glo "noise_value", .glo "noise_grid", .glo "knots_beside", .glo "noise_range", .glo "corner_values", .glo "turns", .glo "value_at", .glo "steps_of", .glo "run_steps", .glo "bounds_of", .glo "greatest_of", .glo "weighed", .glo "weighed_long", .glo "must_ranges", .glo "placed", .glo "run_known", .glo "steps_range", .glo "ranges_of", .glo "below_range", .glo "joined_range", .glo "_law_at", .glo "_law_mixed", .glo "_law_purse", .glo "_law_draw", .glo "_law_whole", .glo "_law_knot", .glo "_law_noise", .glo "_law_two", .glo "_law_value", .glo "_law_noise_range", .glo "_law_two_range", .glo "_law_below_range", .glo "_law_range", .glo "_law_number", .glo "_law_leaf", .glo "_law_field", .glo "_law_all_ranges", .glo "_law_small", .glo "_law_rules", .glo "_law_grain", .glo "_law_place", .glo "_law_area", .glo "_law_class", .glo "_law_caught", .glo "_law_areas", .glo "_law_spots", .glo "_law_all_points", .glo "_law_right", .glo "law", .free "isinstance", .free "int", .free "bool", .free "str", .free "len", .free "tuple", .free "reversed", .free "enumerate", .free "zip", .free "min", .free "max", .free "range", .free "list", .free "abs", .free "sum", .free "dict", .free "repr", .int "EDGE" (1000000), .int "LONGEST_NAME" (8), .int "MOST_SQUARES" (64), .int "GREATEST_KNOT" (65535), .int "MOST_FIELDS" (200), .int "GREATEST_VALUE" (1000000000000000000000000000000), .int "BEYOND" (1000000000000000000000000000001), .glo "ALL_POINTS", .glo "PAIRS", .glo "PLACE", .glo "NOISE", .glo "NoRules", .glo "NoBox", .glo "NoPoint", .glo "NoLevel", .glo "NoCount", .glo "NoEdit", .glo "Full", .glo "NoDeed", .glo "NoBrush", .glo "NoText", .glo "NoLine", .glo "NoSuch", .glo "LandError"]
def loose : List Str := (["LandError", "NoRules", "NoBox", "NoPoint", "NoLevel", "NoCount", "NoEdit", "Full", "NoDeed", "NoBrush", "NoText", "NoLine", "NoSuch", "EDGE", "ALL_POINTS", "LONGEST_NAME", "is_from", "is_name", "is_point", "must_point", "is_box", "must_box", "SHAPES", "NUMBERS", "must_parts", "must_field", "is_shaped", "parts_of", "knot", "four_knots"] : List Str) ++ (["knot_row", "MOST_SQUARES", "GREATEST_KNOT", "noise_value", "noise_grid", "knots_beside", "noise_range", "corner_values", "turns", "MOST_FIELDS", "GREATEST_VALUE", "BEYOND", "PAIRS", "PLACE", "NOISE", "value_at", "steps_of", "run_steps", "bounds_of", "greatest_of", "weighed", "weighed_long", "must_ranges", "placed", "run_known", "steps_range", "ranges_of", "below_range", "joined_range", "_law_at"] : List Str) ++ (["_law_mixed", "_law_purse", "_law_draw", "_law_whole", "_law_knot", "_law_noise", "_law_two", "_law_value", "_law_noise_range", "_law_two_range", "_law_below_range", "_law_range", "_law_number", "_law_leaf", "_law_field", "_law_all_ranges", "_law_small", "_law_rules", "_law_grain", "_law_place", "_law_area", "_law_class", "_law_caught", "_law_areas", "_law_spots", "_law_all_points", "_law_right"] : List Str)
abbrev R : PySem.W.OpenRow := PySem.W.OpenLaw.row PySem.Challenge.rw_landweave_k09_bounds
def ex (K : PySem.W.Frag) : Bool := He.tupB K "ALL_POINTS" [.int (-1000000), .int (-1000000), .int (1000000), .int (1000000)] && (He.tupB K "PAIRS" [.str "plus", .str "less", .str "times", .str "least", .str "most"] && (He.tupB K "PLACE" [.int (1), .int (1200000)] && (He.tupB K "NOISE" [.int (1), .int (65535)] && (exB csK kinsK [] K && (decide (PySem.W.exmOne K (.ref (cA K "NoBox")) (.ref (cA K "LandError")) = some true) && ((nmC ++ (["LandError"] : List Str)).all (fun y => decide (PySem.W.kitOne K (.type "NoneType") (.ref (cA K y)) = some false)) && (true)))))))
abbrev hk : PySem.W.Hook := He.hookX 2 fa fn [] [] ex
def ob (s : PySem.W.SharedT) : He.AlX := He.obsX 2 fa fn [] [] ex (HandSHeadRun.getT s)
theorem ob_eq (s : PySem.W.SharedT) : ob s = hk.obs s.abs := He.obsX_eq (HandSHeadRun.getT_eq s)
theorem run_f (w : World) : HandSHeadRun.RunEq R (PySem.W.view R.prog [94]) hk ob 30000 loose (w.withFollow "special-get-raises" false) := by
  intro os
  kernel_rfl
theorem run_t (w : World) : HandSHeadRun.RunEq R (PySem.W.view R.prog [94]) hk ob 30000 loose (w.withFollow "special-get-raises" true) := by
  intro os
  kernel_rfl
theorem run (w : World) : HandSHeadRun.RunEq R (PySem.W.view R.prog [94]) hk ob 30000 loose w := PySem.W.byRow2 "special-get-raises" run_f run_t w
open PySem.W in
theorem pre (F : ∀ (w : World) (mg : Str → Option Value) (fa : Addr) (h : Heap), hk.says w h → h.Ns mainGlobals mg → mg ("law" : Str) = some (.ref fa) →
      ∃ (K : PySem.W.Frag) (fd : FuncData) (sp : Sp), K.In h ∧ (∀ (s : Shared) (u : Value), BindsTo s fd ⟨[u], []⟩ [("_law_script", u)]) ∧
        (∀ (H : Hp) (a : Addr) (ns : List Int), ns.length ≤ 63 → Only H → SqL K H a (ns.map V.int) → sp [.ref a] H (fun v _ => v = .bl true) fun _ _ _ => False) ∧
        ∀ base : Heap, K.In base → base.Ns mainGlobals mg → Gd.FnG (PySem.Challenge.rw_landweave_k09_bounds).prog w K mg base L2.CX0 110 fa fd ["_law_script"] sp) : PySem.Challenge.rw_landweave_k09_bounds.Holds := by
  w_on; o_law
  refine HandSHeadRun.head_any (r := R) (q := PySem.W.view R.prog [94]) (H := hk) (ob := ob) (M := 30000) (loose := loose) (d := HandSHeadRun.topDef R.prog 94) (kwd := []) ob_eq
    (by kernel_rfl) (fun s => by kernel_rfl) run (by kernel_rfl) (by kernel_rfl) (by kernel_rfl) (by rfl) (by first | assumption | decide +kernel) (by decide +kernel) ⟨rfl, rfl, rfl, rfl, rfl, by decide +kernel⟩ ?hw ?hc
  case hw => w_witness2
  case hc =>
    refine Gd.walk_ofG (l := PySem.Challenge.rw_landweave_k09_bounds) (n := 63) (k := 110) (x := "_law_script") (CX := L2.CX0) rfl (by decide) (by kernel_rfl) ⟨rfl, by decide, by decide⟩ ?F (fun _ _ _ _ z => z)
    intro w mg fa h Y G hmg0
    have e : (HandSHeadRun.topDef R.prog 94).name = ("law" : PySem.Str) := by kernel_rfl
    exact F w mg fa h Y G (e ▸ hmg0)
end Hd
end L09

/-! Fields as plain data: with names (Fd), without (Ex); values, sizes. -/
namespace Fm
open PySem
/-! ### knots -/
def kA (seed salt : Int) : Int := (seed + 48271 * salt + 7) % 2147483647
def kB (a i : Int) : Int := (a * a + 69621 * i + 1) % 2147483629
def kC (b j : Int) : Int := (b * b + 16807 * j + 1) % 2147483587
def kD (c : Int) : Int := (c * c + c) % 2147483579 % 65536
def knotL (seed salt i j : Int) : Int := kD (kC (kB (kA seed salt) i) j)
theorem knot_in (a b c d : Int) : 0 ≤ knotL a b c d ∧ knotL a b c d < 65536 := by
  unfold knotL kD
  omega
theorem knot_mul (a b c d : Int) : -(2 ^ 64) < knotL a b c d ∧ knotL a b c d < 2 ^ 64 := by
  have := knot_in a b c d
  omega
theorem log_pow {l : Int} (h0 : 0 ≤ l) (h8 : l ≤ 8) : ∃ S : Int, (1 : Int) * 2 ^ l.toNat = S ∧ (2 : Int) ^ l.toNat = S ∧ 0 < S ∧ S ≤ 256 ∧ 0 < S * S ∧ S * S ≤ 65536 := by
  rcases (show l = 0 ∨ l = 1 ∨ l = 2 ∨ l = 3 ∨ l = 4 ∨ l = 5 ∨ l = 6 ∨ l = 7 ∨ l = 8 by omega) with rfl | rfl | rfl | rfl | rfl | rfl | rfl | rfl | rfl <;>
    exact ⟨_, rfl, by decide, by decide, by decide, by decide, by decide⟩
/-! ### fields -/
inductive W2 where
  | plus | less | times | least | most
  deriving DecidableEq
def W2.word : W2 → Str
  | .plus => "plus" | .less => "less" | .times => "times" | .least => "least" | .most => "most"
def isW2 (s : Str) : Bool := decide (s = "plus") || (decide (s = "less") || (decide (s = "times") || (decide (s = "least") || decide (s = "most"))))
theorem word_ne {s : Str} (h : isW2 s = false) (w : W2) : decide (w.word = s) = false := by
  refine decide_eq_false fun e => ?_
  subst e
  revert h
  cases w <;> decide +kernel
def W2.op : W2 → Int → Int → Int
  | .plus, a, b => a + b
  | .less, a, b => a - b
  | .times, a, b => a * b
  | .least, a, b => if b < a then b else a
  | .most, a, b => if b > a then b else a
/-- a field without names -/
inductive Ex where
  | whole (n : Int) | px | pz | noise (s l : Int) | two (w : W2) (a b : Ex) | over (a : Ex) (n : Int) | bel (a b c d : Ex) | shift (dx dz : Int) (a : Ex)
/-- a field as it is written -/
inductive Fd where
  | whole (n : Int) | px | pz | noise (s l : Int) | two (w : W2) (a b : Fd) | over (a : Fd) (n : Int) | bel (a b c d : Fd) | shift (dx dz : Int) (a : Fd) | lt (x : Str) (a b : Fd) | nm (x : Str)
abbrev Env := List (Str × Ex)
def look : Env → Str → Ex
  | [], _ => .whole 0
  | (y, e) :: r, x => if x = y then e else look r x
def expand : Fd → Env → Ex
  | .whole n, _ => .whole n
  | .px, _ => .px
  | .pz, _ => .pz
  | .noise s l, _ => .noise s l
  | .two w a b, r => .two w (expand a r) (expand b r)
  | .over a n, r => .over (expand a r) n
  | .bel a b c d, r => .bel (expand a r) (expand b r) (expand c r) (expand d r)
  | .shift dx dz a, r => .shift dx dz (expand a r)
  | .lt x a b, r => expand b ((x, expand a r) :: r)
  | .nm x, r => look r x
/-- all names are bound -/
def Bnd : Fd → List Str → Prop
  | .two _ a b, r => Bnd a r ∧ Bnd b r
  | .over a _, r => Bnd a r
  | .bel a b c d, r => Bnd a r ∧ Bnd b r ∧ Bnd c r ∧ Bnd d r
  | .shift _ _ a, r => Bnd a r
  | .lt x a b, r => Bnd a r ∧ Bnd b (x :: r)
  | .nm x, r => x ∈ r
  | _, _ => True
/-- how deep a walk along names goes; r tells how deep each name's field goes -/
def udep : Fd → List (Str × Nat) → Nat
  | .two _ a b, r => 1 + max (udep a r) (udep b r)
  | .over a _, r => 1 + udep a r
  | .bel a b c d, r => 1 + max (max (udep a r) (udep b r)) (max (udep c r) (udep d r))
  | .shift _ _ a, r => 1 + udep a r
  | .lt x a b, r => 1 + udep b ((x, udep a r) :: r)
  | .nm x, r => 1 + (r.lookup x).getD 0
  | _, _ => 1
/-! ### values -/
def noiseL (seed salt log x z : Int) : Int :=
  let S : Int := 2 ^ log.toNat
  let p := x % S
  let q := z % S
  let i := (x - p) / S
  let j := (z - q) / S
  ((S - p) * (S - q) * knotL seed salt i j + p * (S - q) * knotL seed salt (i + 1) j + (S - p) * q * knotL seed salt i (j + 1) + p * q * knotL seed salt (i + 1) (j + 1)) / (S * S)
def valE : Ex → Int → Int → Int → Int
  | .whole n, _, _, _ => n
  | .px, _, x, _ => x
  | .pz, _, _, z => z
  | .noise s l, g, x, z => noiseL g s l x z
  | .two w a b, g, x, z => w.op (valE a g x z) (valE b g x z)
  | .over a n, g, x, z => valE a g x z / n
  | .bel a b c d, g, x, z => if valE a g x z < valE b g x z then valE c g x z else valE d g x z
  | .shift dx dz a, g, x, z => valE a g (x + dx) (z + dz)
/-- the numbers of a field lie within their bounds -/
def OkE : Ex → Prop
  | .whole n => -999999999 ≤ n ∧ n ≤ 999999999
  | .noise s l => (0 ≤ s ∧ s ≤ 1000000000) ∧ 0 ≤ l ∧ l ≤ 8
  | .two _ a b => OkE a ∧ OkE b
  | .over a n => OkE a ∧ 1 ≤ n ∧ n ≤ 1000000000
  | .bel a b c d => OkE a ∧ OkE b ∧ OkE c ∧ OkE d
  | .shift dx dz a => (-1000 ≤ dx ∧ dx ≤ 1000) ∧ (-1000 ≤ dz ∧ dz ≤ 1000) ∧ OkE a
  | _ => True
theorem two_pow_pos (n : Nat) : (0 : Int) < 2 ^ n := Int.pow_pos (by decide)
/-- a mean of four numbers by weights -/
theorem mean4 {S p q a b c d m M : Int} (hS : 0 < S) (hp : 0 ≤ p) (hp2 : p ≤ S) (hq : 0 ≤ q) (hq2 : q ≤ S) (ha : m ≤ a) (ha2 : a ≤ M) (hb : m ≤ b) (hb2 : b ≤ M) (hc : m ≤ c) (hc2 : c ≤ M) (hd : m ≤ d) (hd2 : d ≤ M) :
    m ≤ ((S - p) * (S - q) * a + p * (S - q) * b + (S - p) * q * c + p * q * d) / (S * S) ∧ ((S - p) * (S - q) * a + p * (S - q) * b + (S - p) * q * c + p * q * d) / (S * S) ≤ M := by
  have w1 : 0 ≤ (S - p) * (S - q) := Int.mul_nonneg (by omega) (by omega)
  have w2 : 0 ≤ p * (S - q) := Int.mul_nonneg (by omega) (by omega)
  have w3 : 0 ≤ (S - p) * q := Int.mul_nonneg (by omega) (by omega)
  have w4 : 0 ≤ p * q := Int.mul_nonneg (by omega) (by omega)
  have tot : (S - p) * (S - q) + p * (S - q) + (S - p) * q + p * q = S * S := by
    have e1 : (S - p) * (S - q) + p * (S - q) = S * (S - q) := by rw [← Int.add_mul]; congr 1; omega
    have e2 : (S - p) * q + p * q = S * q := by rw [← Int.add_mul]; congr 1; omega
    have e3 : S * (S - q) + S * q = S * S := by rw [← Int.mul_add]; congr 1; omega
    omega
  have SS : 0 < S * S := Int.mul_pos hS hS
  have lo : ∀ {w v : Int}, 0 ≤ w → m ≤ v → w * m ≤ w * v := fun h1 h2 => Int.mul_le_mul_of_nonneg_left h2 h1
  have hi : ∀ {w v : Int}, 0 ≤ w → v ≤ M → w * v ≤ w * M := fun h1 h2 => Int.mul_le_mul_of_nonneg_left h2 h1
  have sumL : ∀ t : Int, (S - p) * (S - q) * t + p * (S - q) * t + (S - p) * q * t + p * q * t = S * S * t := fun t => by
    rw [← Int.add_mul, ← Int.add_mul, ← Int.add_mul, tot]
  constructor
  · refine (Int.le_ediv_iff_mul_le SS).mpr ?_
    have := lo w1 ha; have := lo w2 hb; have := lo w3 hc; have := lo w4 hd
    have := sumL m
    rw [Int.mul_comm m]
    omega
  · have h := hi w1 ha2; have := hi w2 hb2; have := hi w3 hc2; have := hi w4 hd2
    have := sumL M
    have : ((S - p) * (S - q) * a + p * (S - q) * b + (S - p) * q * c + p * q * d) ≤ M * (S * S) := by
      rw [Int.mul_comm M]
      omega
    exact Int.ediv_le_of_le_mul SS this
theorem noise_in (g s l x z : Int) : 0 ≤ noiseL g s l x z ∧ noiseL g s l x z ≤ 65535 := by
  have hS := two_pow_pos l.toNat
  have k := fun i j => knot_in g s i j
  have h := mean4 (S := 2 ^ l.toNat) (p := x % 2 ^ l.toNat) (q := z % 2 ^ l.toNat) (a := knotL g s ((x - x % 2 ^ l.toNat) / 2 ^ l.toNat) ((z - z % 2 ^ l.toNat) / 2 ^ l.toNat))
    (b := knotL g s ((x - x % 2 ^ l.toNat) / 2 ^ l.toNat + 1) ((z - z % 2 ^ l.toNat) / 2 ^ l.toNat)) (c := knotL g s ((x - x % 2 ^ l.toNat) / 2 ^ l.toNat) ((z - z % 2 ^ l.toNat) / 2 ^ l.toNat + 1))
    (d := knotL g s ((x - x % 2 ^ l.toNat) / 2 ^ l.toNat + 1) ((z - z % 2 ^ l.toNat) / 2 ^ l.toNat + 1)) (m := 0) (M := 65535) hS
    (Int.emod_nonneg _ (by omega)) (Int.le_of_lt (Int.emod_lt_of_pos _ hS)) (Int.emod_nonneg _ (by omega)) (Int.le_of_lt (Int.emod_lt_of_pos _ hS))
    (k _ _).1 (by have := (k ((x - x % 2 ^ l.toNat) / 2 ^ l.toNat) ((z - z % 2 ^ l.toNat) / 2 ^ l.toNat)).2; omega)
    (k _ _).1 (by have := (k ((x - x % 2 ^ l.toNat) / 2 ^ l.toNat + 1) ((z - z % 2 ^ l.toNat) / 2 ^ l.toNat)).2; omega)
    (k _ _).1 (by have := (k ((x - x % 2 ^ l.toNat) / 2 ^ l.toNat) ((z - z % 2 ^ l.toNat) / 2 ^ l.toNat + 1)).2; omega)
    (k _ _).1 (by have := (k ((x - x % 2 ^ l.toNat) / 2 ^ l.toNat + 1) ((z - z % 2 ^ l.toNat) / 2 ^ l.toNat + 1)).2; omega)
  exact h
/-! ### sizes -/
/-- bits of the values, k bits being those of the coordinates -/
def vb : Ex → Nat → Nat
  | .whole _, _ => 34
  | .px, k => k
  | .pz, k => k
  | .noise _ _, _ => 17
  | .two w a b, k => match w with
    | .times => vb a k + vb b k
    | _ => max (vb a k) (vb b k) + 1
  | .over a _, k => vb a k
  | .bel a b c d, k => max (max (vb a k) (vb b k)) (max (vb c k) (vb d k))
  | .shift _ _ a, k => vb a (k + 1)
theorem pow_le {a b : Nat} (h : a ≤ b) : 2 ^ a ≤ 2 ^ b := Nat.pow_le_pow_right (by decide) h
theorem lt_pow_of {n a b : Nat} (h : n < 2 ^ a) (l : a ≤ b) : n < 2 ^ b := Nat.lt_of_lt_of_le h (pow_le l)
theorem natAbs_div_le (a : Int) {n : Int} (h : 1 ≤ n) : (a / n).natAbs ≤ a.natAbs := by
  rcases Int.lt_or_le a 0 with ha | ha
  · have h1 : a / n < 0 := Int.ediv_neg_of_neg_of_pos ha (by omega)
    have h2 : a ≤ a / n := by
      refine (Int.le_ediv_iff_mul_le (by omega)).mpr ?_
      have := Int.mul_le_mul_of_nonpos_left (a := a) (by omega) h
      omega
    omega
  · have h1 : 0 ≤ a / n := Int.ediv_nonneg ha (by omega)
    have h2 : a / n ≤ a := Int.ediv_le_self _ ha
    omega
theorem vb_two (w : W2) (a b : Ex) (k : Nat) : vb a k ≤ vb (.two w a b) k ∧ vb b k ≤ vb (.two w a b) k := by
  cases w <;> simp only [vb] <;> omega
theorem val_bits : ∀ (e : Ex) (g x z : Int) (k : Nat), OkE e → 34 ≤ k → x.natAbs < 2 ^ k → z.natAbs < 2 ^ k → (valE e g x z).natAbs < 2 ^ (vb e k)
  | .whole n, _, _, _, k, h, _, _, _ => by
    have e : (2 : Nat) ^ 34 = 17179869184 := by decide
    have h1 : -999999999 ≤ n := h.1
    have h2 : n ≤ 999999999 := h.2
    show n.natAbs < 2 ^ 34
    omega
  | .px, _, _, _, _, _, _, hx, _ => hx
  | .pz, _, _, _, _, _, _, _, hz => hz
  | .noise s l, g, x, z, k, _, _, _, _ => by
    have e : (2 : Nat) ^ 17 = 131072 := by decide
    have h := noise_in g s l x z
    show (noiseL g s l x z).natAbs < 2 ^ 17
    omega
  | .two w a b, g, x, z, k, h, hk, hx, hz => by
    have ha := val_bits a g x z k h.1 hk hx hz
    have hb := val_bits b g x z k h.2 hk hx hz
    have ha2 := lt_pow_of ha (Nat.le_max_left (vb a k) (vb b k))
    have hb2 := lt_pow_of hb (Nat.le_max_right (vb a k) (vb b k))
    cases w with
    | times =>
      show (valE a g x z * valE b g x z).natAbs < 2 ^ (vb a k + vb b k)
      rw [Int.natAbs_mul, Nat.pow_add]
      exact Nat.mul_lt_mul'' ha hb
    | plus =>
      show (valE a g x z + valE b g x z).natAbs < 2 ^ (max (vb a k) (vb b k) + 1)
      rw [Nat.pow_succ]
      omega
    | less =>
      show (valE a g x z - valE b g x z).natAbs < 2 ^ (max (vb a k) (vb b k) + 1)
      rw [Nat.pow_succ]
      omega
    | least =>
      show (if valE b g x z < valE a g x z then valE b g x z else valE a g x z).natAbs < 2 ^ (max (vb a k) (vb b k) + 1)
      rw [Nat.pow_succ]
      split <;> omega
    | most =>
      show (if valE b g x z > valE a g x z then valE b g x z else valE a g x z).natAbs < 2 ^ (max (vb a k) (vb b k) + 1)
      rw [Nat.pow_succ]
      split <;> omega
  | .over a n, g, x, z, k, h, hk, hx, hz => Nat.lt_of_le_of_lt (natAbs_div_le _ h.2.1) (val_bits a g x z k h.1 hk hx hz)
  | .bel a b c d, g, x, z, k, h, hk, hx, hz => by
    have hc := val_bits c g x z k h.2.2.1 hk hx hz
    have hd := val_bits d g x z k h.2.2.2 hk hx hz
    show (if valE a g x z < valE b g x z then valE c g x z else valE d g x z).natAbs < 2 ^ (max (max (vb a k) (vb b k)) (max (vb c k) (vb d k)))
    split
    · exact lt_pow_of hc (by omega)
    · exact lt_pow_of hd (by omega)
  | .shift dx dz a, g, x, z, k, h, hk, hx, hz => by
    have e : (2 : Nat) ^ 34 = 17179869184 := by decide
    have hp := pow_le hk
    have h1 : -1000 ≤ dx := h.1.1
    have h2 : dx ≤ 1000 := h.1.2
    have h3 : -1000 ≤ dz := h.2.1.1
    have h4 : dz ≤ 1000 := h.2.1.2
    refine val_bits a g (x + dx) (z + dz) (k + 1) h.2.2 (by omega) ?_ ?_
    · rw [Nat.pow_succ]; omega
    · rw [Nat.pow_succ]; omega
theorem mul_ok {a b : Ex} {g x z : Int} {k : Nat} (ha : OkE a) (hb : OkE b) (hk : 34 ≤ k) (hx : x.natAbs < 2 ^ k) (hz : z.natAbs < 2 ^ k) (hv : vb a k + vb b k ≤ 400000) : L2.CMulW (valE a g x z) (valE b g x z) :=
  L2.wide_mul (lt_pow_of (val_bits a g x z k ha hk hx hz) (Nat.le_succ _)) (lt_pow_of (val_bits b g x z k hb hk hx hz) (Nat.le_succ _)) (Nat.succ_pos _) (Nat.succ_pos _) (by omega)
theorem shift_bits {x dx : Int} {k : Nat} (h : -1000 ≤ dx ∧ dx ≤ 1000) (hk : 34 ≤ k) (hx : x.natAbs < 2 ^ k) : (x + dx).natAbs < 2 ^ (k + 1) := by
  have e : (2 : Nat) ^ 34 = 17179869184 := by decide
  have hp := pow_le hk
  rw [Nat.pow_succ]
  omega
/-! ### ranges -/
def mn4 (a b c d : Int) : Int := min (min a b) (min c d)
def mx4 (a b c d : Int) : Int := max (max a b) (max c d)
def W2.rng : W2 → Int × Int → Int × Int → Int × Int
  | .plus, a, b => (a.1 + b.1, a.2 + b.2)
  | .less, a, b => (a.1 - b.2, a.2 - b.1)
  | .times, a, b => (mn4 (a.1 * b.1) (a.1 * b.2) (a.2 * b.1) (a.2 * b.2), mx4 (a.1 * b.1) (a.1 * b.2) (a.2 * b.1) (a.2 * b.2))
  | .least, a, b => (min a.1 b.1, min a.2 b.2)
  | .most, a, b => (max a.1 b.1, max a.2 b.2)
def belR (a b c d : Int × Int) : Int × Int := if a.2 < b.1 then c else if b.2 ≤ a.1 then d else (min c.1 d.1, max c.2 d.2)
abbrev NR := Int → Int → Int → Int → Int → Int → Int × Int
def rangeG (N : NR) : Ex → Int → Int → Int → Int → Int × Int
  | .whole n, _, _, _, _ => (n, n)
  | .px, x0, _, x1, _ => (x0, x1)
  | .pz, _, z0, _, z1 => (z0, z1)
  | .noise s l, x0, z0, x1, z1 => N s l x0 z0 x1 z1
  | .two w a b, x0, z0, x1, z1 => w.rng (rangeG N a x0 z0 x1 z1) (rangeG N b x0 z0 x1 z1)
  | .over a n, x0, z0, x1, z1 => ((rangeG N a x0 z0 x1 z1).1 / n, (rangeG N a x0 z0 x1 z1).2 / n)
  | .bel a b c d, x0, z0, x1, z1 => belR (rangeG N a x0 z0 x1 z1) (rangeG N b x0 z0 x1 z1) (rangeG N c x0 z0 x1 z1) (rangeG N d x0 z0 x1 z1)
  | .shift dx dz a, x0, z0, x1, z1 => rangeG N a (x0 + dx) (z0 + dz) (x1 + dx) (z1 + dz)
/-- noise of many squares -/
def wideN : NR := fun _ _ _ _ _ _ => (0, 65535)
def NOk (N : NR) : Prop := ∀ s l x0 z0 x1 z1, (0 ≤ (N s l x0 z0 x1 z1).1 ∧ (N s l x0 z0 x1 z1).1 ≤ 65535) ∧ 0 ≤ (N s l x0 z0 x1 z1).2 ∧ (N s l x0 z0 x1 z1).2 ≤ 65535
theorem wide_ok : NOk wideN := fun _ _ _ _ _ _ => ⟨⟨Int.le_refl 0, (by decide : (0 : Int) ≤ 65535)⟩, (by decide : (0 : Int) ≤ 65535), Int.le_refl 65535⟩
abbrev B2 (p : Int × Int) (k : Nat) : Prop := p.1.natAbs < 2 ^ k ∧ p.2.natAbs < 2 ^ k
theorem B2.mono {p : Int × Int} {a b : Nat} (h : B2 p a) (l : a ≤ b) : B2 p b := ⟨lt_pow_of h.1 l, lt_pow_of h.2 l⟩
theorem mul_lt {a b : Int} {m n : Nat} (ha : a.natAbs < 2 ^ m) (hb : b.natAbs < 2 ^ n) : (a * b).natAbs < 2 ^ (m + n) := by
  rw [Int.natAbs_mul, Nat.pow_add]
  exact Nat.mul_lt_mul'' ha hb
theorem rng_bits (w : W2) {a b : Int × Int} {m n : Nat} (ha : B2 a m) (hb : B2 b n) : B2 (w.rng a b) (match w with | .times => m + n | _ => max m n + 1) := by
  have ha2 := ha.mono (Nat.le_max_left m n)
  have hb2 := hb.mono (Nat.le_max_right m n)
  obtain ⟨a1, a2⟩ := a
  obtain ⟨b1, b2⟩ := b
  obtain ⟨h1, h2⟩ := ha2
  obtain ⟨h3, h4⟩ := hb2
  cases w with
  | times =>
    have p1 := mul_lt ha.1 hb.1
    have p2 := mul_lt ha.1 hb.2
    have p3 := mul_lt ha.2 hb.1
    have p4 := mul_lt ha.2 hb.2
    simp only [W2.rng, mn4, mx4]
    constructor <;> simp only at * <;> omega
  | plus => simp only [W2.rng, B2] at *; rw [Nat.pow_succ]; omega
  | less => simp only [W2.rng, B2] at *; rw [Nat.pow_succ]; omega
  | least => simp only [W2.rng, B2] at *; rw [Nat.pow_succ]; omega
  | most => simp only [W2.rng, B2] at *; rw [Nat.pow_succ]; omega
theorem range_bits {N : NR} (hN : NOk N) : ∀ (e : Ex) (x0 z0 x1 z1 : Int) (k : Nat), OkE e → 34 ≤ k → B2 (x0, x1) k → B2 (z0, z1) k → B2 (rangeG N e x0 z0 x1 z1) (vb e k)
  | .whole n, _, _, _, _, k, h, _, _, _ => by
    have e : (2 : Nat) ^ 34 = 17179869184 := by decide
    have h1 : -999999999 ≤ n := h.1
    have h2 : n ≤ 999999999 := h.2
    show B2 (n, n) 34
    simp only [B2]
    omega
  | .px, _, _, _, _, _, _, _, hx, _ => hx
  | .pz, _, _, _, _, _, _, _, _, hz => hz
  | .noise s l, x0, z0, x1, z1, k, _, _, _, _ => by
    have e : (2 : Nat) ^ 17 = 131072 := by decide
    have h := hN s l x0 z0 x1 z1
    show B2 (N s l x0 z0 x1 z1) 17
    simp only [B2]
    omega
  | .two w a b, x0, z0, x1, z1, k, h, hk, hx, hz => by
    have r := rng_bits w (range_bits hN a x0 z0 x1 z1 k h.1 hk hx hz) (range_bits hN b x0 z0 x1 z1 k h.2 hk hx hz)
    cases w <;> exact r
  | .over a n, x0, z0, x1, z1, k, h, hk, hx, hz => by
    have r := range_bits hN a x0 z0 x1 z1 k h.1 hk hx hz
    exact ⟨Nat.lt_of_le_of_lt (natAbs_div_le _ h.2.1) r.1, Nat.lt_of_le_of_lt (natAbs_div_le _ h.2.1) r.2⟩
  | .bel a b c d, x0, z0, x1, z1, k, h, hk, hx, hz => by
    have r3 := range_bits hN c x0 z0 x1 z1 k h.2.2.1 hk hx hz
    have r4 := range_bits hN d x0 z0 x1 z1 k h.2.2.2 hk hx hz
    have q3 := r3.mono (b := vb (.bel a b c d) k) (by simp only [vb]; omega)
    have q4 := r4.mono (b := vb (.bel a b c d) k) (by simp only [vb]; omega)
    show B2 (belR _ _ _ _) _
    unfold belR
    split
    · exact q3
    · split
      · exact q4
      · obtain ⟨h1, h2⟩ := q3
        obtain ⟨h3, h4⟩ := q4
        simp only [B2]
        omega
  | .shift dx dz a, x0, z0, x1, z1, k, h, hk, hx, hz => by
    have e : (2 : Nat) ^ 34 = 17179869184 := by decide
    have hp := pow_le hk
    have h1 := h.1
    have h2 := h.2.1
    obtain ⟨a1, a2⟩ := hx
    obtain ⟨a3, a4⟩ := hz
    refine range_bits hN a (x0 + dx) (z0 + dz) (x1 + dx) (z1 + dz) (k + 1) h.2.2 (by omega) ?_ ?_ <;> (simp only [B2] at *; rw [Nat.pow_succ]; omega)
theorem cols_ge {S x0 x1 : Int} (S0 : 0 < S) (S1 : S ≤ 256) (h : 20000 ≤ x1 - x0) : 65 ≤ x1 / S - x0 / S + 1 := by
  have e1 := Int.mul_ediv_add_emod x1 S
  have e2 := Int.mul_ediv_add_emod x0 S
  have m1 := Int.emod_lt_of_pos x1 S0
  have m0 := Int.emod_nonneg x0 (show S ≠ 0 by omega)
  rcases Int.lt_or_le (x1 / S - x0 / S) 64 with hlt | hge
  · exfalso
    have d : S * (x1 / S) - S * (x0 / S) = S * (x1 / S - x0 / S) := (Int.mul_sub S _ _).symm
    have : S * (x1 / S - x0 / S) ≤ 256 * 63 := by
      rcases Int.lt_or_le (x1 / S - x0 / S) 0 with hn | hp
      · have := Int.mul_nonpos_of_nonneg_of_nonpos (Int.le_of_lt S0) (Int.le_of_lt hn)
        omega
      · exact Int.mul_le_mul S1 (by omega) hp (by decide)
    omega
  · omega
theorem many {a b : Int} (ha : 65 ≤ a) (hb : 65 ≤ b) : 64 < a * b := by
  have : 65 * 65 ≤ a * b := Int.mul_le_mul ha hb (by decide) (by omega)
  omega
/-! ### all ranges -/
def allE (N : NR) : Ex → Int → Int → Int → Int → List (Int × Int)
  | .two w a b, x0, z0, x1, z1 => rangeG N (.two w a b) x0 z0 x1 z1 :: (allE N a x0 z0 x1 z1 ++ allE N b x0 z0 x1 z1)
  | .over a n, x0, z0, x1, z1 => rangeG N (.over a n) x0 z0 x1 z1 :: allE N a x0 z0 x1 z1
  | .bel a b c d, x0, z0, x1, z1 => rangeG N (.bel a b c d) x0 z0 x1 z1 :: (allE N a x0 z0 x1 z1 ++ (allE N b x0 z0 x1 z1 ++ (allE N c x0 z0 x1 z1 ++ allE N d x0 z0 x1 z1)))
  | .shift dx dz a, x0, z0, x1, z1 => rangeG N (.shift dx dz a) x0 z0 x1 z1 :: allE N a (x0 + dx) (z0 + dz) (x1 + dx) (z1 + dz)
  | e, x0, z0, x1, z1 => [rangeG N e x0 z0 x1 z1]
def cn : Ex → Nat
  | .two _ a b => 1 + (cn a + cn b)
  | .over a _ => 1 + cn a
  | .bel a b c d => 1 + (cn a + (cn b + (cn c + cn d)))
  | .shift _ _ a => 1 + cn a
  | _ => 1
theorem allE_len (N : NR) : ∀ (e : Ex) (x0 z0 x1 z1 : Int), (allE N e x0 z0 x1 z1).length = cn e
  | .whole _, _, _, _, _ => rfl
  | .px, _, _, _, _ => rfl
  | .pz, _, _, _, _ => rfl
  | .noise _ _, _, _, _, _ => rfl
  | .two _ a b, x0, z0, x1, z1 => by simp only [allE, cn, List.length_cons, List.length_append, allE_len N a, allE_len N b]; omega
  | .over a _, x0, z0, x1, z1 => by simp only [allE, cn, List.length_cons, allE_len N a]; omega
  | .bel a b c d, x0, z0, x1, z1 => by simp only [allE, cn, List.length_cons, List.length_append, allE_len N a, allE_len N b, allE_len N c, allE_len N d]; omega
  | .shift _ _ a, x0, z0, x1, z1 => by simp only [allE, cn, List.length_cons, allE_len N a]; omega
/-! ### drawn fields -/
def dep : Fd → Nat
  | .two _ a b => 1 + max (dep a) (dep b)
  | .over a _ => 1 + dep a
  | .bel a b c d => 1 + max (max (dep a) (dep b)) (max (dep c) (dep d))
  | .shift _ _ a => 1 + dep a
  | .lt _ a b => 1 + max (dep a) (dep b)
  | _ => 0
/-- a name: one to eight small letters -/
def NameOk (s : Str) : Prop := 1 ≤ s.length ∧ s.length ≤ 8 ∧ ∀ c ∈ s.cps.toList, 97 ≤ c ∧ c ≤ 122
def OkF : Fd → Prop
  | .whole n => -999999999 ≤ n ∧ n ≤ 999999999
  | .noise s l => (0 ≤ s ∧ s ≤ 1000000000) ∧ 0 ≤ l ∧ l ≤ 8
  | .two _ a b => OkF a ∧ OkF b
  | .over a n => OkF a ∧ 1 ≤ n ∧ n ≤ 1000000000
  | .bel a b c d => OkF a ∧ OkF b ∧ OkF c ∧ OkF d
  | .shift dx dz a => (-1000 ≤ dx ∧ dx ≤ 1000) ∧ (-1000 ≤ dz ∧ dz ≤ 1000) ∧ OkF a
  | .lt x a b => NameOk x ∧ OkF a ∧ OkF b
  | .nm x => NameOk x
  | _ => True
def OkR (r : Env) : Prop := ∀ x, OkE (look r x)
theorem okR_nil : OkR [] := fun _ => ⟨by decide, by decide⟩
theorem okR_cons {x : Str} {e : Ex} {r : Env} (he : OkE e) (h : OkR r) : OkR ((x, e) :: r) := fun y => by
  unfold look
  split
  · exact he
  · exact h y
theorem ok_expand : ∀ (F : Fd) (r : Env), OkF F → OkR r → OkE (expand F r)
  | .whole _, _, h, _ => h
  | .px, _, _, _ => True.intro
  | .pz, _, _, _ => True.intro
  | .noise _ _, _, h, _ => h
  | .two _ a b, r, h, hr => ⟨ok_expand a r h.1 hr, ok_expand b r h.2 hr⟩
  | .over a _, r, h, hr => ⟨ok_expand a r h.1 hr, h.2⟩
  | .bel a b c d, r, h, hr => ⟨ok_expand a r h.1 hr, ok_expand b r h.2.1 hr, ok_expand c r h.2.2.1 hr, ok_expand d r h.2.2.2 hr⟩
  | .shift _ _ a, r, h, hr => ⟨h.1, h.2.1, ok_expand a r h.2.2 hr⟩
  | .lt x a b, r, h, hr => ok_expand b _ h.2.2 (okR_cons (ok_expand a r h.2.1 hr) hr)
  | .nm x, r, _, hr => hr x
theorem bnd_perm : ∀ {a b : List Str}, (∀ y, y ∈ a → y ∈ b) → ∀ F : Fd, Bnd F a → Bnd F b
  | _, _, _, .whole _, _ => True.intro
  | _, _, _, .px, _ => True.intro
  | _, _, _, .pz, _ => True.intro
  | _, _, _, .noise _ _, _ => True.intro
  | _, _, s, .two _ a b, h => ⟨bnd_perm s a h.1, bnd_perm s b h.2⟩
  | _, _, s, .over a _, h => bnd_perm s a h
  | _, _, s, .bel a b c d, h => ⟨bnd_perm s a h.1, bnd_perm s b h.2.1, bnd_perm s c h.2.2.1, bnd_perm s d h.2.2.2⟩
  | _, _, s, .shift _ _ a, h => bnd_perm s a h
  | _, _, s, .lt x a b, h => ⟨bnd_perm s a h.1, bnd_perm (fun y hy => by
    rcases List.mem_cons.mp hy with e | e
    · rw [e]; exact List.mem_cons_self
    · exact List.mem_cons_of_mem _ (s y e)) b h.2⟩
  | _, _, s, .nm x, h => s x h
/-- the weight of an expansion, its shifts one in another -/
def wt : Ex → Nat
  | .two _ a b => wt a + wt b
  | .over a _ => wt a
  | .bel a b c d => max (max (wt a) (wt b)) (max (wt c) (wt d))
  | .shift _ _ a => wt a
  | _ => 1
def sh : Ex → Nat
  | .two _ a b => max (sh a) (sh b)
  | .over a _ => sh a
  | .bel a b c d => max (max (sh a) (sh b)) (max (sh c) (sh d))
  | .shift _ _ a => sh a + 1
  | _ => 0
theorem wt_pos : ∀ e : Ex, 1 ≤ wt e
  | .whole _ => Nat.le_refl 1
  | .px => Nat.le_refl 1
  | .pz => Nat.le_refl 1
  | .noise _ _ => Nat.le_refl 1
  | .two _ a b => by have := wt_pos a; simp only [wt]; omega
  | .over a _ => wt_pos a
  | .bel a b c d => by have := wt_pos a; simp only [wt]; omega
  | .shift _ _ a => wt_pos a
theorem vb_le : ∀ (e : Ex) (k : Nat), 34 ≤ k → vb e k ≤ wt e * (k + sh e + 1)
  | .whole _, k, h => by simp only [vb, wt, sh]; omega
  | .px, k, h => by simp only [vb, wt, sh]; omega
  | .pz, k, h => by simp only [vb, wt, sh]; omega
  | .noise _ _, k, h => by simp only [vb, wt, sh]; omega
  | .two w a b, k, h => by
    have ha := vb_le a k h
    have hb := vb_le b k h
    have ha1 : wt a * (k + sh a + 1) ≤ wt a * (k + max (sh a) (sh b) + 1) := Nat.mul_le_mul_left _ (by omega)
    have hb1 : wt b * (k + sh b + 1) ≤ wt b * (k + max (sh a) (sh b) + 1) := Nat.mul_le_mul_left _ (by omega)
    have pa : 1 * (k + max (sh a) (sh b) + 1) ≤ wt a * (k + max (sh a) (sh b) + 1) := Nat.mul_le_mul_right _ (wt_pos a)
    have pb : 1 * (k + max (sh a) (sh b) + 1) ≤ wt b * (k + max (sh a) (sh b) + 1) := Nat.mul_le_mul_right _ (wt_pos b)
    have e : wt (.two w a b) * (k + sh (.two w a b) + 1) = wt a * (k + max (sh a) (sh b) + 1) + wt b * (k + max (sh a) (sh b) + 1) := by
      simp only [wt, sh]
      rw [Nat.add_mul]
    rw [e]
    cases w <;> simp only [vb] <;> omega
  | .over a _, k, h => vb_le a k h
  | .bel a b c d, k, h => by
    have up : ∀ {x s w m : Nat}, x ≤ w * (k + s + 1) → w ≤ wt (.bel a b c d) → s ≤ sh (.bel a b c d) → x ≤ wt (.bel a b c d) * (k + sh (.bel a b c d) + 1) := fun {x s w m} h1 h2 h3 =>
      Nat.le_trans h1 (Nat.mul_le_mul h2 (by omega))
    have ha := up (m := 0) (vb_le a k h) (by simp only [wt]; omega) (by simp only [sh]; omega)
    have hb := up (m := 0) (vb_le b k h) (by simp only [wt]; omega) (by simp only [sh]; omega)
    have hc := up (m := 0) (vb_le c k h) (by simp only [wt]; omega) (by simp only [sh]; omega)
    have hd := up (m := 0) (vb_le d k h) (by simp only [wt]; omega) (by simp only [sh]; omega)
    simp only [vb]
    omega
  | .shift _ _ a, k, h => by
    have ha := vb_le a (k + 1) (by omega)
    simp only [vb, wt, sh]
    have e : k + 1 + sh a + 1 = k + (sh a + 1) + 1 := by omega
    rw [← e]
    exact ha
def Wd : Nat → Nat → Nat
  | 0, N => max 1 N
  | d + 1, N => 2 * Wd d (max N (Wd d N))
def Sd : Nat → Nat → Nat
  | 0, N => N
  | d + 1, N => 1 + Sd d (max N (Sd d N))
def Ud : Nat → Nat → Nat
  | 0, N => N + 1
  | d + 1, N => 1 + Ud d (max N (Ud d N))
theorem Wd_mono : ∀ {d : Nat} {a b : Nat}, a ≤ b → Wd d a ≤ Wd d b
  | 0, a, b, h => by simp only [Wd]; omega
  | d + 1, a, b, h => by
    have h1 := Wd_mono (d := d) h
    have h2 := Wd_mono (d := d) (show max a (Wd d a) ≤ max b (Wd d b) by omega)
    simp only [Wd]
    omega
theorem Sd_mono : ∀ {d : Nat} {a b : Nat}, a ≤ b → Sd d a ≤ Sd d b
  | 0, a, b, h => h
  | d + 1, a, b, h => by
    have h1 := Sd_mono (d := d) h
    have h2 := Sd_mono (d := d) (show max a (Sd d a) ≤ max b (Sd d b) by omega)
    simp only [Sd]
    omega
theorem Ud_mono : ∀ {d : Nat} {a b : Nat}, a ≤ b → Ud d a ≤ Ud d b
  | 0, a, b, h => by simp only [Ud]; omega
  | d + 1, a, b, h => by
    have h1 := Ud_mono (d := d) h
    have h2 := Ud_mono (d := d) (show max a (Ud d a) ≤ max b (Ud d b) by omega)
    simp only [Ud]
    omega
def Cd : Nat → Nat → Nat
  | 0, N => max 1 N
  | d + 1, N => 1 + 4 * Cd d (max N (Cd d N))
theorem Cd_mono : ∀ {d : Nat} {a b : Nat}, a ≤ b → Cd d a ≤ Cd d b
  | 0, a, b, h => by simp only [Cd]; omega
  | d + 1, a, b, h => by
    have h1 := Cd_mono (d := d) h
    have h2 := Cd_mono (d := d) (show max a (Cd d a) ≤ max b (Cd d b) by omega)
    simp only [Cd]
    omega
theorem cn_le : ∀ (F : Fd) (d : Nat) (r : Env) (c : Nat), dep F ≤ d → (∀ x, cn (look r x) ≤ max 1 c) → cn (expand F r) ≤ Cd d c := by
  have base : ∀ (d c : Nat), 1 ≤ Cd d c ∧ max 1 c ≤ Cd d c := by
    intro d
    induction d with
    | zero => intro c; simp only [Cd]; omega
    | succ d ih =>
      intro c
      have h1 := ih (max c (Cd d c))
      simp only [Cd]
      omega
  have step : ∀ (d c : Nat), 1 + 4 * Cd d c ≤ Cd (d + 1) c := by
    intro d c
    have h1 := Cd_mono (d := d) (show c ≤ max c (Cd d c) by omega)
    simp only [Cd]
    omega
  intro F
  induction F with
  | whole n => intro d r c _ N; have := base d c; simp only [expand, cn]; omega
  | px => intro d r c _ N; have := base d c; simp only [expand, cn]; omega
  | pz => intro d r c _ N; have := base d c; simp only [expand, cn]; omega
  | noise a l => intro d r c _ N; have := base d c; simp only [expand, cn]; omega
  | nm x => intro d r c _ N; have := base d c; have h1 := N x; simp only [expand]; omega
  | two w a b iha ihb =>
    intro d r c h N
    have h' : 1 + max (dep a) (dep b) ≤ d := h
    obtain ⟨d, rfl⟩ : ∃ d', d = d' + 1 := ⟨d - 1, by omega⟩
    have ha := iha d r c (by omega) N
    have hb := ihb d r c (by omega) N
    have st := step d c
    simp only [expand, cn]
    omega
  | over a n iha =>
    intro d r c h N
    have h' : 1 + dep a ≤ d := h
    obtain ⟨d, rfl⟩ : ∃ d', d = d' + 1 := ⟨d - 1, by omega⟩
    have ha := iha d r c (by omega) N
    have st := step d c
    simp only [expand, cn]
    omega
  | bel a b e f iha ihb ihc ihe =>
    intro d r c h N
    have h' : 1 + max (max (dep a) (dep b)) (max (dep e) (dep f)) ≤ d := h
    obtain ⟨d, rfl⟩ : ∃ d', d = d' + 1 := ⟨d - 1, by omega⟩
    have ha := iha d r c (by omega) N
    have hb := ihb d r c (by omega) N
    have hc := ihc d r c (by omega) N
    have he := ihe d r c (by omega) N
    have st := step d c
    simp only [expand, cn]
    omega
  | shift dx dz a iha =>
    intro d r c h N
    have h' : 1 + dep a ≤ d := h
    obtain ⟨d, rfl⟩ : ∃ d', d = d' + 1 := ⟨d - 1, by omega⟩
    have ha := iha d r c (by omega) N
    have st := step d c
    simp only [expand, cn]
    omega
  | lt x a b iha ihb =>
    intro d r c h N
    have h' : 1 + max (dep a) (dep b) ≤ d := h
    obtain ⟨d, rfl⟩ : ∃ d', d = d' + 1 := ⟨d - 1, by omega⟩
    have ha := iha d r c (by omega) N
    have hb := ihb d ((x, expand a r) :: r) (max c (Cd d c)) (by omega) (fun y => by
      have := N y
      unfold look
      split <;> omega)
    simp only [expand, Cd]
    omega
/-- the numbers of an environment -/
structure Num (r : Env) (δ : List (Str × Nat)) (w s u : Nat) : Prop where
  w : ∀ x, wt (look r x) ≤ max 1 w
  s : ∀ x, sh (look r x) ≤ s
  u : ∀ x, (δ.lookup x).getD 0 ≤ u
theorem num_nil : Num [] [] 0 0 0 := ⟨fun _ => Nat.le_refl 1, fun _ => Nat.le_refl 0, fun _ => Nat.le_refl 0⟩
theorem Num.mono {r : Env} {δ : List (Str × Nat)} {w s u w' s' u' : Nat} (h : Num r δ w s u) (hw : w ≤ w') (hs : s ≤ s') (hu : u ≤ u') : Num r δ w' s' u' :=
  ⟨fun x => Nat.le_trans (h.w x) (by omega), fun x => Nat.le_trans (h.s x) hs, fun x => Nat.le_trans (h.u x) hu⟩
theorem Num.cons {r : Env} {δ : List (Str × Nat)} {w s u w' s' u' n : Nat} {x : Str} {e : Ex} (h : Num r δ w s u) (hw : wt e ≤ w') (hs : sh e ≤ s') (hu : n ≤ u') : Num ((x, e) :: r) ((x, n) :: δ) (max w w') (max s s') (max u u') :=
  ⟨fun y => by have := h.w y; unfold look; split <;> omega, fun y => by have := h.s y; unfold look; split <;> omega, fun y => by
    by_cases e : y = x
    · subst e; simp [List.lookup]; omega
    · have hb : (y == x) = false := by simpa using e
      have := h.u y
      simp only [List.lookup, hb]
      omega⟩
theorem nums : ∀ (F : Fd) (d : Nat) (r : Env) (δ : List (Str × Nat)) (w s u : Nat), dep F ≤ d → Num r δ w s u → wt (expand F r) ≤ Wd d w ∧ sh (expand F r) ≤ Sd d s ∧ udep F δ ≤ Ud d u := by
  have base : ∀ (d w s u : Nat), 1 ≤ Wd d w ∧ max 1 w ≤ Wd d w ∧ s ≤ Sd d s ∧ u + 1 ≤ Ud d u := by
    intro d
    induction d with
    | zero => intro w s u; simp only [Wd, Sd, Ud]; omega
    | succ d ih =>
      intro w s u
      have h1 := ih (max w (Wd d w)) (max s (Sd d s)) (max u (Ud d u))
      simp only [Wd, Sd, Ud]
      omega
  have step : ∀ (d w s u : Nat), Wd d w + Wd d w ≤ Wd (d + 1) w ∧ 1 + Sd d s ≤ Sd (d + 1) s ∧ 1 + Ud d u ≤ Ud (d + 1) u := by
    intro d w s u
    have h1 := Wd_mono (d := d) (show w ≤ max w (Wd d w) by omega)
    have h2 := Sd_mono (d := d) (show s ≤ max s (Sd d s) by omega)
    have h3 := Ud_mono (d := d) (show u ≤ max u (Ud d u) by omega)
    simp only [Wd, Sd, Ud]
    omega
  intro F
  induction F with
  | whole n => intro d r δ w s u _ N; have := base d w s u; simp only [expand, wt, sh, udep]; omega
  | px => intro d r δ w s u _ N; have := base d w s u; simp only [expand, wt, sh, udep]; omega
  | pz => intro d r δ w s u _ N; have := base d w s u; simp only [expand, wt, sh, udep]; omega
  | noise a l => intro d r δ w s u _ N; have := base d w s u; simp only [expand, wt, sh, udep]; omega
  | nm x =>
    intro d r δ w s u _ N
    have := base d w s u
    have h1 := N.w x; have h2 := N.s x; have h3 := N.u x
    simp only [expand, udep]
    omega
  | two c a b iha ihb =>
    intro d r δ w s u h N
    have h' : 1 + max (dep a) (dep b) ≤ d := h
    obtain ⟨d, rfl⟩ : ∃ d', d = d' + 1 := ⟨d - 1, by omega⟩
    have ha := iha d r δ w s u (by omega) N
    have hb := ihb d r δ w s u (by omega) N
    have st := step d w s u
    simp only [expand, wt, sh, udep]
    omega
  | over a n iha =>
    intro d r δ w s u h N
    have h' : 1 + dep a ≤ d := h
    obtain ⟨d, rfl⟩ : ∃ d', d = d' + 1 := ⟨d - 1, by omega⟩
    have ha := iha d r δ w s u (by omega) N
    have st := step d w s u
    simp only [expand, wt, sh, udep]
    omega
  | bel a b c e iha ihb ihc ihe =>
    intro d r δ w s u h N
    have h' : 1 + max (max (dep a) (dep b)) (max (dep c) (dep e)) ≤ d := h
    obtain ⟨d, rfl⟩ : ∃ d', d = d' + 1 := ⟨d - 1, by omega⟩
    have ha := iha d r δ w s u (by omega) N
    have hb := ihb d r δ w s u (by omega) N
    have hc := ihc d r δ w s u (by omega) N
    have he := ihe d r δ w s u (by omega) N
    have st := step d w s u
    simp only [expand, wt, sh, udep]
    omega
  | shift dx dz a iha =>
    intro d r δ w s u h N
    have h' : 1 + dep a ≤ d := h
    obtain ⟨d, rfl⟩ : ∃ d', d = d' + 1 := ⟨d - 1, by omega⟩
    have ha := iha d r δ w s u (by omega) N
    have st := step d w s u
    simp only [expand, wt, sh, udep]
    omega
  | lt x a b iha ihb =>
    intro d r δ w s u h N
    have h' : 1 + max (dep a) (dep b) ≤ d := h
    obtain ⟨d, rfl⟩ : ∃ d', d = d' + 1 := ⟨d - 1, by omega⟩
    have ha := iha d r δ w s u (by omega) N
    have hb := ihb d ((x, expand a r) :: r) ((x, udep a δ) :: δ) _ _ _ (by omega) (N.cons ha.1 ha.2.1 ha.2.2)
    have bs := base d w s u
    simp only [expand, udep, Wd, Sd, Ud]
    omega
end Fm

/-! Fields as they stand in the heap. -/
namespace Fr
open PySem L2 Lw Fm
/-- all tuples are kept -/
def Tup (H H' : Hp) : Prop := ∀ a xs, H a = some (.tup xs) → H' a = some (.tup xs)
theorem Tup.refl {H : Hp} : Tup H H := fun _ _ h => h
theorem Tup.trans {H H1 H2 : Hp} (a : Tup H H1) (b : Tup H1 H2) : Tup H H2 := fun c o h => b c o (a c o h)
theorem same_tup {H H' : Hp} (s : Same H H') : Tup H H' := fun a xs h => s a _ h
theorem keep_tup {p : Addr} {H H' : Hp} {xs : List V} (k : Keep p H H') (hp : H p = some (.lst xs)) : Tup H H' := fun a ys h => k a _ (ne_of h hp (by intro z; cases z)) h
theorem same_new {H : Hp} {p : Addr} {o : HO} (h : H p = none) : Same H (upd H p o) := fun b x e => by
  rw [upd_ne (ne_of_none e h)]
  exact e
theorem same_put {H H' : Hp} {p : Addr} {o : HO} (s : Same H H') (hp : H p = none) : Same H (upd H' p o) := fun b x e => by
  rw [upd_ne (ne_of_none e hp)]
  exact s b x e
def FRep : Fd → Hp → V → Prop
  | .whole n, H, v => ∃ p, v = .ref p ∧ H p = some (.tup [.str "whole", .int n])
  | .px, H, v => ∃ p, v = .ref p ∧ H p = some (.tup [.str "x"])
  | .pz, H, v => ∃ p, v = .ref p ∧ H p = some (.tup [.str "z"])
  | .noise s l, H, v => ∃ p, v = .ref p ∧ H p = some (.tup [.str "noise", .int s, .int l])
  | .two w a b, H, v => ∃ p u1 u2, v = .ref p ∧ H p = some (.tup [.str w.word, u1, u2]) ∧ FRep a H u1 ∧ FRep b H u2
  | .over a n, H, v => ∃ p u1, v = .ref p ∧ H p = some (.tup [.str "over", u1, .int n]) ∧ FRep a H u1
  | .bel a b c d, H, v => ∃ p u1 u2 u3 u4, v = .ref p ∧ H p = some (.tup [.str "below", u1, u2, u3, u4]) ∧ FRep a H u1 ∧ FRep b H u2 ∧ FRep c H u3 ∧ FRep d H u4
  | .shift dx dz a, H, v => ∃ p u1, v = .ref p ∧ H p = some (.tup [.str "shift", .int dx, .int dz, u1]) ∧ FRep a H u1
  | .lt x a b, H, v => ∃ p u1 u2, v = .ref p ∧ H p = some (.tup [.str "let", .str x, u1, u2]) ∧ FRep a H u1 ∧ FRep b H u2
  | .nm x, H, v => ∃ p, v = .ref p ∧ H p = some (.tup [.str "name", .str x])
theorem FRep.mono {H H' : Hp} (t : Tup H H') : ∀ {F : Fd} {v : V}, FRep F H v → FRep F H' v
  | .whole _, _, ⟨p, e, h⟩ => ⟨p, e, t _ _ h⟩
  | .px, _, ⟨p, e, h⟩ => ⟨p, e, t _ _ h⟩
  | .pz, _, ⟨p, e, h⟩ => ⟨p, e, t _ _ h⟩
  | .noise _ _, _, ⟨p, e, h⟩ => ⟨p, e, t _ _ h⟩
  | .two _ a b, _, ⟨p, u1, u2, e, h, h1, h2⟩ => ⟨p, u1, u2, e, t _ _ h, FRep.mono t (F := a) h1, FRep.mono t (F := b) h2⟩
  | .over a _, _, ⟨p, u1, e, h, h1⟩ => ⟨p, u1, e, t _ _ h, FRep.mono t (F := a) h1⟩
  | .bel a b c d, _, ⟨p, u1, u2, u3, u4, e, h, h1, h2, h3, h4⟩ => ⟨p, u1, u2, u3, u4, e, t _ _ h, FRep.mono t (F := a) h1, FRep.mono t (F := b) h2, FRep.mono t (F := c) h3, FRep.mono t (F := d) h4⟩
  | .shift _ _ a, _, ⟨p, u1, e, h, h1⟩ => ⟨p, u1, e, t _ _ h, FRep.mono t (F := a) h1⟩
  | .lt _ a b, _, ⟨p, u1, u2, e, h, h1, h2⟩ => ⟨p, u1, u2, e, t _ _ h, FRep.mono t (F := a) h1, FRep.mono t (F := b) h2⟩
  | .nm _, _, ⟨p, e, h⟩ => ⟨p, e, t _ _ h⟩
/-- at d a dict of what the names stand for, lets within lets at most n deep -/
def EnvR : Nat → Hp → Addr → Fm.Env → List (Str × Nat) → Prop
  | 0, H, d, r, δ => H d = some (.dK []) ∧ r = [] ∧ δ = []
  | n + 1, H, d, r, δ => ∃ kvs, H d = some (.dK kvs) ∧ kvs.length ≤ r.length ∧ ∀ x, x ∈ r.map (·.1) → ∃ t u d' F r' δ', valV kvs (Sum.inr x : Key) = some (.ref t) ∧ H t = some (.tup [u, .ref d']) ∧ FRep F H u ∧ EnvR n H d' r' δ' ∧
      Bnd F (r'.map (·.1)) ∧ expand F r' = look r x ∧ udep F δ' ≤ (δ.lookup x).getD 0 ∧ r'.length ≤ r.length
theorem EnvR.up : ∀ {n : Nat} {H : Hp} {d : Addr} {r : Fm.Env} {δ : List (Str × Nat)}, EnvR n H d r δ → EnvR (n + 1) H d r δ
  | 0, H, d, r, δ, ⟨h, e1, e2⟩ => by
    subst e1 e2
    exact ⟨[], h, Nat.le_refl _, fun x hx => by cases hx⟩
  | n + 1, H, d, r, δ, ⟨kvs, h, l, q⟩ => ⟨kvs, h, l, fun x hx => by
    obtain ⟨t, u, d', F, r', δ', a1, a2, a3, a4, a5⟩ := q x hx
    exact ⟨t, u, d', F, r', δ', a1, a2, a3, a4.up, a5⟩⟩
theorem EnvR.mono : ∀ {n : Nat} {H H' : Hp} {d : Addr} {r : Fm.Env} {δ : List (Str × Nat)}, Same H H' → EnvR n H d r δ → EnvR n H' d r δ
  | 0, _, _, _, _, _, s, ⟨h, e⟩ => ⟨s _ _ h, e⟩
  | n + 1, _, _, _, _, _, s, ⟨kvs, h, l, q⟩ => ⟨kvs, s _ _ h, l, fun x hx => by
    obtain ⟨t, u, d', F, r', δ', a1, a2, a3, a4, a5⟩ := q x hx
    exact ⟨t, u, d', F, r', δ', a1, s _ _ a2, a3.mono (same_tup s), a4.mono s, a5⟩⟩
theorem EnvR.dict : ∀ {n : Nat} {H : Hp} {d : Addr} {r : Fm.Env} {δ : List (Str × Nat)}, EnvR n H d r δ → ∃ kvs, H d = some (.dK kvs) ∧ kvs.length ≤ r.length
  | 0, _, _, _, _, ⟨h, e1, _⟩ => ⟨[], h, Nat.zero_le _⟩
  | _ + 1, _, _, _, _, ⟨kvs, h, l, _⟩ => ⟨kvs, h, l⟩
/-- one let more -/
theorem EnvR.let_ {n : Nat} {H H' : Hp} {d p t : Addr} {r : Fm.Env} {δ : List (Str × Nat)} {kvs : List (Key × V)} {x : Str} {u : V} {F : Fd} (E : EnvR n H d r δ) (hd : H d = some (.dK kvs)) (s : Same H H') (hp : H' p = some (.dK (putK kvs (Sum.inr x : Key) (.ref t))))
    (ht : H' t = some (.tup [u, .ref d])) (hF : FRep F H u) (hB : Bnd F (r.map (·.1))) : EnvR (n + 1) H' p ((x, expand F r) :: r) ((x, udep F δ) :: δ) := by
  obtain ⟨k0, e0, l0⟩ := E.dict
  have ek : k0 = kvs := by rw [hd] at e0; cases e0; rfl
  subst ek
  refine ⟨_, hp, ?_, fun y hy => ?_⟩
  · have := length_putK k0 (Sum.inr x : Key) (V.ref t)
    simp only [List.length_cons]
    omega
  · by_cases e : y = x
    · subst e
      refine ⟨t, u, d, F, r, δ, ?_, ht, hF.mono (same_tup s), E.mono s, hB, ?_, ?_, ?_⟩
      · rw [valV_put, if_pos rfl]
      · simp [look]
      · simp [List.lookup]
      · simp
    · have hy' : y ∈ r.map (·.1) := by
        simp only [List.map_cons, List.mem_cons] at hy
        exact hy.resolve_left e
      have hne : ¬ (Sum.inr y : Key) = Sum.inr x := fun z => e (Sum.inr.inj z)
      have key : ∃ t' u' d' F' r' δ', valV k0 (Sum.inr y : Key) = some (.ref t') ∧ H t' = some (.tup [u', .ref d']) ∧ FRep F' H u' ∧ EnvR n H d' r' δ' ∧ Bnd F' (r'.map (·.1)) ∧ expand F' r' = look r y ∧ udep F' δ' ≤ (δ.lookup y).getD 0 ∧ r'.length ≤ r.length := by
        cases n with
        | zero =>
          obtain ⟨_, e1, _⟩ := E
          subst e1
          cases hy'
        | succ n =>
          obtain ⟨k1, e1, _, q⟩ := E
          have : k1 = k0 := by rw [hd] at e1; cases e1; rfl
          subst this
          obtain ⟨t', u', d', F', r', δ', a1, a2, a3, a4, a5⟩ := q y hy'
          exact ⟨t', u', d', F', r', δ', a1, a2, a3, a4.up, a5⟩
      obtain ⟨t', u', d', F', r', δ', a1, a2, a3, a4, a5, a6, a7, a8⟩ := key
      refine ⟨t', u', d', F', r', δ', ?_, s _ _ a2, a3.mono (same_tup s), a4.mono s, a5, ?_, ?_, ?_⟩
      · rw [valV_put, if_neg hne]; exact a1
      · rw [a6]; simp [look, e]
      · have hb : (y == x) = false := by simpa using e
        simpa [List.lookup, hb] using a7
      · simp only [List.length_cons]; omega
/-- a part is no harder than the whole -/
structure Sub (A F : Fd) : Prop where
  bnd : ∀ l, Bnd F l → Bnd A l
  ud : ∀ δ, udep A δ + 1 ≤ udep F δ
  ok : ∀ r, OkE (expand F r) → OkE (expand A r)
  vb : ∀ r k, Fm.vb (expand A r) k ≤ Fm.vb (expand F r) k
  cn : ∀ r, Fm.cn (expand A r) ≤ Fm.cn (expand F r)
def PartOk (H : Hp) (v : V) : Option Fd → Prop
  | some A => FRep A H v
  | none => (∃ n, v = .int n) ∨ ∃ s, v = .str s
def plainWord (w : Str) : Prop := decide (w = "name") = false ∧ decide (w = "let") = false ∧ decide (w = "shift") = false
abbrev partR (N : NR) (r : Fm.Env) (x0 z0 x1 z1 : Int) (q : V × Option Fd) : List (Int × Int) := match q.2 with
  | some A => allE N (expand A r) x0 z0 x1 z1
  | none => []
theorem kinds (F : Fd) : (∃ x, F = .nm x) ∨ (∃ x A B, F = .lt x A B) ∨ (∃ dx dz A, F = .shift dx dz A) ∨ ((∀ dx dz A, F ≠ .shift dx dz A) ∧ (∀ x A B, F ≠ .lt x A B) ∧ ∀ x, F ≠ .nm x) := by
  cases F with
  | nm x => exact .inl ⟨x, rfl⟩
  | lt x A B => exact .inr (.inl ⟨x, A, B, rfl⟩)
  | shift dx dz A => exact .inr (.inr (.inl ⟨dx, dz, A, rfl⟩))
  | _ => exact .inr (.inr (.inr ⟨fun _ _ _ e => (nomatch e), fun _ _ _ e => (nomatch e), fun _ e => (nomatch e)⟩))
theorem frep_ref {H : Hp} {v : V} : ∀ {F : Fd}, FRep F H v → ∃ p xs, v = .ref p ∧ H p = some (.tup xs)
  | .whole _, ⟨p, e, h⟩ => ⟨p, _, e, h⟩
  | .px, ⟨p, e, h⟩ => ⟨p, _, e, h⟩
  | .pz, ⟨p, e, h⟩ => ⟨p, _, e, h⟩
  | .noise _ _, ⟨p, e, h⟩ => ⟨p, _, e, h⟩
  | .two _ _ _, ⟨p, _, _, e, h, _⟩ => ⟨p, _, e, h⟩
  | .over _ _, ⟨p, _, e, h, _⟩ => ⟨p, _, e, h⟩
  | .bel _ _ _ _, ⟨p, _, _, _, _, e, h, _⟩ => ⟨p, _, e, h⟩
  | .shift _ _ _, ⟨p, _, e, h, _⟩ => ⟨p, _, e, h⟩
  | .lt _ _ _, ⟨p, _, _, e, h, _⟩ => ⟨p, _, e, h⟩
  | .nm _, ⟨p, e, h⟩ => ⟨p, _, e, h⟩
structure Parts (F : Fd) (H : Hp) (u : V) : Prop where
  ex : ∃ (p : Addr) (w : Str) (ps : List (V × Option Fd)), u = .ref p ∧ H p = some (.tup (.str w :: ps.map (·.1))) ∧ (∀ q ∈ ps, PartOk H q.1 q.2) ∧ ps.length ≤ 4 ∧ plainWord w ∧ (∀ q ∈ ps, ∀ A, q.2 = some A → Sub A F) ∧
    ∀ (N : NR) (r : Fm.Env) (x0 z0 x1 z1 : Int), allE N (expand F r) x0 z0 x1 z1 = rangeG N (expand F r) x0 z0 x1 z1 :: ps.flatMap (partR N r x0 z0 x1 z1)
theorem sub_two1 (w : W2) (a b : Fd) : Sub a (.two w a b) := ⟨fun _ h => h.1, fun δ => by simp only [udep]; omega, fun _ h => h.1, fun r k => (vb_two w _ _ k).1, fun r => by simp only [expand, Fm.cn]; omega⟩
theorem sub_two2 (w : W2) (a b : Fd) : Sub b (.two w a b) := ⟨fun _ h => h.2, fun δ => by simp only [udep]; omega, fun _ h => h.2, fun r k => (vb_two w _ _ k).2, fun r => by simp only [expand, Fm.cn]; omega⟩
theorem plain_w2 (w : W2) : plainWord w.word := ⟨word_ne (by decide +kernel) w, word_ne (by decide +kernel) w, word_ne (by decide +kernel) w⟩
theorem parts {F : Fd} {H : Hp} {u : V} (h : FRep F H u) (h1 : ∀ dx dz A, F ≠ .shift dx dz A) (h2 : ∀ x A B, F ≠ .lt x A B) (h3 : ∀ x, F ≠ .nm x) : Parts F H u := by
  cases F with
  | whole n =>
    obtain ⟨p, e, hp⟩ := h
    refine ⟨p, "whole", [(.int n, none)], e, hp, ?_, by simp, ⟨by decide +kernel, by decide +kernel, by decide +kernel⟩, ?_, fun N r x0 z0 x1 z1 => rfl⟩
    · intro q hq; rw [List.mem_singleton.mp hq]; exact .inl ⟨n, rfl⟩
    · intro q hq A e; rw [List.mem_singleton.mp hq] at e; cases e
  | px =>
    obtain ⟨p, e, hp⟩ := h
    exact ⟨p, "x", [], e, hp, fun q hq => (nomatch hq), by decide, ⟨by decide +kernel, by decide +kernel, by decide +kernel⟩, fun q hq => (nomatch hq), fun N r x0 z0 x1 z1 => rfl⟩
  | pz =>
    obtain ⟨p, e, hp⟩ := h
    exact ⟨p, "z", [], e, hp, fun q hq => (nomatch hq), by decide, ⟨by decide +kernel, by decide +kernel, by decide +kernel⟩, fun q hq => (nomatch hq), fun N r x0 z0 x1 z1 => rfl⟩
  | noise s l =>
    obtain ⟨p, e, hp⟩ := h
    refine ⟨p, "noise", [(.int s, none), (.int l, none)], e, hp, ?_, by simp, ⟨by decide +kernel, by decide +kernel, by decide +kernel⟩, ?_, fun N r x0 z0 x1 z1 => rfl⟩
    · intro q hq
      simp only [List.mem_cons, List.not_mem_nil, or_false] at hq
      rcases hq with rfl | rfl
      · exact .inl ⟨s, rfl⟩
      · exact .inl ⟨l, rfl⟩
    · intro q hq A e
      simp only [List.mem_cons, List.not_mem_nil, or_false] at hq
      rcases hq with rfl | rfl <;> cases e
  | two w a b =>
    obtain ⟨p, u1, u2, e, hp, ha, hb⟩ := h
    refine ⟨p, w.word, [(u1, some a), (u2, some b)], e, hp, ?_, by simp, plain_w2 w, ?_, fun N r x0 z0 x1 z1 => by simp [allE, expand, partR]⟩
    · intro q hq
      simp only [List.mem_cons, List.not_mem_nil, or_false] at hq
      rcases hq with rfl | rfl
      · exact ha
      · exact hb
    · intro q hq A e
      simp only [List.mem_cons, List.not_mem_nil, or_false] at hq
      rcases hq with rfl | rfl <;> cases e
      · exact sub_two1 w a b
      · exact sub_two2 w a b
  | over a n =>
    obtain ⟨p, u1, e, hp, ha⟩ := h
    refine ⟨p, "over", [(u1, some a), (.int n, none)], e, hp, ?_, by simp, ⟨by decide +kernel, by decide +kernel, by decide +kernel⟩, ?_, fun N r x0 z0 x1 z1 => by simp [allE, expand, partR]⟩
    · intro q hq
      simp only [List.mem_cons, List.not_mem_nil, or_false] at hq
      rcases hq with rfl | rfl
      · exact ha
      · exact .inl ⟨n, rfl⟩
    · intro q hq A e
      simp only [List.mem_cons, List.not_mem_nil, or_false] at hq
      rcases hq with rfl | rfl <;> cases e
      exact ⟨fun _ h => h, fun δ => by simp only [udep]; omega, fun _ h => h.1, fun r k => Nat.le_refl _, fun r => by simp only [expand, Fm.cn]; omega⟩
  | bel a b c d =>
    obtain ⟨p, u1, u2, u3, u4, e, hp, ha, hb, hc, hd⟩ := h
    refine ⟨p, "below", [(u1, some a), (u2, some b), (u3, some c), (u4, some d)], e, hp, ?_, by simp, ⟨by decide +kernel, by decide +kernel, by decide +kernel⟩, ?_, fun N r x0 z0 x1 z1 => by simp [allE, expand, partR]⟩
    · intro q hq
      simp only [List.mem_cons, List.not_mem_nil, or_false] at hq
      rcases hq with rfl | rfl | rfl | rfl
      · exact ha
      · exact hb
      · exact hc
      · exact hd
    · intro q hq A e
      simp only [List.mem_cons, List.not_mem_nil, or_false] at hq
      rcases hq with rfl | rfl | rfl | rfl <;> cases e
      · exact ⟨fun _ h => h.1, fun δ => by simp only [udep]; omega, fun _ h => h.1, fun r k => by simp only [expand, Fm.vb]; omega, fun r => by simp only [expand, Fm.cn]; omega⟩
      · exact ⟨fun _ h => h.2.1, fun δ => by simp only [udep]; omega, fun _ h => h.2.1, fun r k => by simp only [expand, Fm.vb]; omega, fun r => by simp only [expand, Fm.cn]; omega⟩
      · exact ⟨fun _ h => h.2.2.1, fun δ => by simp only [udep]; omega, fun _ h => h.2.2.1, fun r k => by simp only [expand, Fm.vb]; omega, fun r => by simp only [expand, Fm.cn]; omega⟩
      · exact ⟨fun _ h => h.2.2.2, fun δ => by simp only [udep]; omega, fun _ h => h.2.2.2, fun r k => by simp only [expand, Fm.vb]; omega, fun r => by simp only [expand, Fm.cn]; omega⟩
  | shift dx dz a => exact absurd rfl (h1 dx dz a)
  | lt x a b => exact absurd rfl (h2 x a b)
  | nm x => exact absurd rfl (h3 x)
/-- a list of pairs -/
abbrev PairsR (H : Hp) : List V → List (Int × Int) → Prop := Paired fun v ab => ∃ p, v = V.ref p ∧ H p = some (.tup [.int ab.1, .int ab.2])
theorem PairsR.mono {H H' : Hp} (s : Same H H') : ∀ {vs : List V} {ps : List (Int × Int)}, PairsR H vs ps → PairsR H' vs ps
  | _, _, .nil => .nil
  | _, _, .cons ⟨p, e, h⟩ t => .cons ⟨p, e, s _ _ h⟩ (PairsR.mono s t)
theorem pairs_at {H : Hp} : ∀ {vs : List V} {ps : List (Int × Int)} {i : Nat} {y : V}, PairsR H vs ps → vs[i]? = some y → ∃ ab, ps[i]? = some ab ∧ ∃ p, y = V.ref p ∧ H p = some (.tup [.int ab.1, .int ab.2])
  | _, _, _, _, .nil, h => by simp at h
  | _, _, 0, y, .cons (b := b) a _, h => by
    simp at h
    subst h
    exact ⟨b, rfl, a⟩
  | _, _, i + 1, y, .cons _ t, h => by
    obtain ⟨ab, h1, h2⟩ := pairs_at (i := i) (y := y) t (by simpa using h)
    exact ⟨ab, by simpa using h1, h2⟩
theorem PairsR.append {H : Hp} : ∀ {vs ws : List V} {ps qs : List (Int × Int)}, PairsR H vs ps → PairsR H ws qs → PairsR H (vs ++ ws) (ps ++ qs)
  | _, _, _, _, .nil, h => h
  | _, _, _, _, .cons a t, h => .cons a (PairsR.append t h)
end Fr

/-! Steps: fields without names as a list in which nothing stands twice. -/
namespace Sm
open PySem Fm
inductive Stp where
  | whole (n : Int) | px (d : Int) | pz (d : Int) | noise (s l dx dz : Int) | two (w : W2) (i j : Nat) | over (i : Nat) (n : Int) | bel (a b c d : Nat)
  deriving DecidableEq
/-- what a step leans on lies ahead of place n -/
def Stp.lt : Stp → Nat → Prop
  | .two _ i j, n => i < n ∧ j < n
  | .over i _, n => i < n
  | .bel a b c d, n => a < n ∧ b < n ∧ c < n ∧ d < n
  | _, _ => True
theorem Stp.lt_mono {s : Stp} {m n : Nat} (h : s.lt m) (l : m ≤ n) : s.lt n := by
  cases s <;> simp only [Stp.lt] at * <;> omega
/-- put a step in, where it isn't there -/
def put (st : List Stp) (s : Stp) : List Stp × Nat := if s ∈ st then (st, st.idxOf s) else (st ++ [s], st.length)
def into : Ex → Int → Int → List Stp → List Stp × Nat
  | .whole n, _, _, st => put st (.whole n)
  | .px, dx, _, st => put st (.px dx)
  | .pz, _, dz, st => put st (.pz dz)
  | .noise s l, dx, dz, st => put st (.noise s l dx dz)
  | .two w a b, dx, dz, st =>
    let p := into a dx dz st
    let q := into b dx dz p.1
    put q.1 (.two w p.2 q.2)
  | .over a n, dx, dz, st =>
    let p := into a dx dz st
    put p.1 (.over p.2 n)
  | .bel a b c d, dx, dz, st =>
    let p := into a dx dz st
    let q := into b dx dz p.1
    let r := into c dx dz q.1
    let t := into d dx dz r.1
    put t.1 (.bel p.2 q.2 r.2 t.2)
  | .shift ex ez a, dx, dz, st => into a (dx + ex) (dz + ez) st
def stepsE (e : Ex) : List Stp := (into e 0 0 []).1
/-! ### what steps make, in any kind of values -/
structure Alg (α : Type) where
  dflt : α
  whole : Int → α
  px : Int → α
  pz : Int → α
  noise : Int → Int → Int → Int → α
  two : W2 → α → α → α
  over : α → Int → α
  bel : α → α → α → α → α
variable {α : Type}
def Alg.step (A : Alg α) (s : Stp) (vs : List α) : α := match s with
  | .whole n => A.whole n
  | .px d => A.px d
  | .pz d => A.pz d
  | .noise s l dx dz => A.noise s l dx dz
  | .two w i j => A.two w (vs.getD i A.dflt) (vs.getD j A.dflt)
  | .over i n => A.over (vs.getD i A.dflt) n
  | .bel a b c d => A.bel (vs.getD a A.dflt) (vs.getD b A.dflt) (vs.getD c A.dflt) (vs.getD d A.dflt)
def Alg.run (A : Alg α) (st : List Stp) : List α := st.foldl (fun vs s => vs ++ [A.step s vs]) []
theorem run_snoc (A : Alg α) (st : List Stp) (s : Stp) : A.run (st ++ [s]) = A.run st ++ [A.step s (A.run st)] := by
  simp [Alg.run, List.foldl_append]
theorem snoc_ind {β : Type} {P : List β → Prop} (h0 : P []) (h1 : ∀ l a, P l → P (l ++ [a])) (l : List β) : P l := by
  have key : ∀ l : List β, P l.reverse := by
    intro l
    induction l with
    | nil => exact h0
    | cons a r ih => rw [List.reverse_cons]; exact h1 _ _ ih
  have := key l.reverse
  rwa [List.reverse_reverse] at this
theorem run_len (A : Alg α) (st : List Stp) : (A.run st).length = st.length := by
  refine snoc_ind (P := fun st => (A.run st).length = st.length) rfl (fun st s ih => ?_) st
  rw [run_snoc]; simp [ih]
/-- more steps change no earlier value -/
theorem run_append (A : Alg α) (st : List Stp) : ∀ more : List Stp, ∃ t, A.run (st ++ more) = A.run st ++ t := by
  intro more
  refine snoc_ind (P := fun more => ∃ t, A.run (st ++ more) = A.run st ++ t) ⟨[], by simp⟩ (fun r s ih => ?_) more
  obtain ⟨t, h⟩ := ih
  rw [← List.append_assoc, run_snoc, h]
  exact ⟨_, List.append_assoc _ _ _⟩
theorem run_get (A : Alg α) {st st' : List Stp} (h : st <+: st') {i : Nat} (hi : i < st.length) : (A.run st').getD i A.dflt = (A.run st).getD i A.dflt := by
  obtain ⟨m, rfl⟩ := h
  obtain ⟨t, e⟩ := run_append A st m
  rw [e]
  have hl : i < (A.run st).length := by rw [run_len]; exact hi
  simp [List.getD, List.getElem?_append_left hl]
/-- steps lean on steps ahead -/
def Ok (st : List Stp) : Prop := ∀ (j : Nat) (s : Stp), st[j]? = some s → s.lt j
theorem ok_nil : Ok [] := fun j s h => by simp at h
theorem ok_snoc {st : List Stp} {s : Stp} (h : Ok st) (hs : s.lt st.length) : Ok (st ++ [s]) := fun j t e => by
  rcases Nat.lt_trichotomy j st.length with l | l | l
  · rw [List.getElem?_append_left l] at e; exact h j t e
  · subst l; simp at e; subst e; exact hs
  · rw [List.getElem?_append_right (by omega)] at e
    have : 1 ≤ j - st.length := by omega
    rw [List.getElem?_eq_none (by simp; omega)] at e
    cases e
/-- a step's value leans on what stands ahead of it alone -/
theorem step_eq (A : Alg α) {s : Stp} {n : Nat} {vs ws : List α} (hs : s.lt n) (h : ∀ i, i < n → vs.getD i A.dflt = ws.getD i A.dflt) : A.step s vs = A.step s ws := by
  cases s with
  | two w i j => simp only [Alg.step]; rw [h i hs.1, h j hs.2]
  | over i m => simp only [Alg.step]; rw [h i hs]
  | bel a b c d => simp only [Alg.step]; rw [h a hs.1, h b hs.2.1, h c hs.2.2.1, h d hs.2.2.2]
  | _ => rfl
theorem run_at (A : Alg α) {st : List Stp} (h : Ok st) {j : Nat} {s : Stp} (hj : st[j]? = some s) : (A.run st).getD j A.dflt = A.step s (A.run st) := by
  have hl : j < st.length := (List.getElem?_eq_some_iff.mp hj).1
  have e1 : st.take (j + 1) = st.take j ++ [s] := by rw [List.take_add_one, hj]; rfl
  have hp : st.take (j + 1) <+: st := List.take_prefix _ _
  have hp0 : st.take j <+: st := List.take_prefix _ _
  have hlen : (st.take j).length = j := by rw [List.length_take]; omega
  rw [run_get A hp (by rw [List.length_take]; omega), e1, run_snoc]
  have hr : (A.run (st.take j)).length = j := by rw [run_len, hlen]
  have e2 : (A.run (st.take j) ++ [A.step s (A.run (st.take j))]).getD j A.dflt = A.step s (A.run (st.take j)) := by
    simp [List.getD, List.getElem?_append_right (Nat.le_of_eq hr), hr]
  rw [e2]
  exact step_eq A (h j s hj) fun i hi => (run_get A hp0 (by omega)).symm
structure Put (st : List Stp) (s : Stp) (r : List Stp × Nat) : Prop where
  pre : st <+: r.1
  lt : r.2 < r.1.length
  at_ : r.1[r.2]? = some s
  ok : Ok st → s.lt st.length → Ok r.1
  nd : st.Nodup → r.1.Nodup
  len : r.1.length ≤ st.length + 1
theorem put_ok (st : List Stp) (s : Stp) : Put st s (put st s) := by
  unfold put
  split
  · rename_i h
    have hl := List.idxOf_lt_length_iff.mpr h
    exact ⟨List.prefix_refl _, hl, by rw [List.getElem?_eq_getElem hl, List.getElem_idxOf], fun o _ => o, fun n => n, Nat.le_succ _⟩
  · rename_i h
    refine ⟨List.prefix_append _ _, by simp, by simp, fun o hs => ok_snoc o hs, fun n => ?_, by simp⟩
    exact List.nodup_append.mpr ⟨n, by simp, fun a ha b hb e => by simp at hb; subst hb; subst e; exact h ha⟩
def foldE (A : Alg α) : Ex → Int → Int → α
  | .whole n, _, _ => A.whole n
  | .px, dx, _ => A.px dx
  | .pz, _, dz => A.pz dz
  | .noise s l, dx, dz => A.noise s l dx dz
  | .two w a b, dx, dz => A.two w (foldE A a dx dz) (foldE A b dx dz)
  | .over a n, dx, dz => A.over (foldE A a dx dz) n
  | .bel a b c d, dx, dz => A.bel (foldE A a dx dz) (foldE A b dx dz) (foldE A c dx dz) (foldE A d dx dz)
  | .shift ex ez a, dx, dz => foldE A a (dx + ex) (dz + ez)
structure Into (st : List Stp) (e : Ex) (dx dz : Int) (r : List Stp × Nat) : Prop where
  pre : st <+: r.1
  lt : r.2 < r.1.length
  ok : Ok st → Ok r.1
  nd : st.Nodup → r.1.Nodup
  val : Ok st → ∀ {α : Type} (A : Alg α), (A.run r.1).getD r.2 A.dflt = foldE A e dx dz
  len : r.1.length ≤ st.length + cn e
theorem leaf_into {st : List Stp} {s : Stp} {e : Ex} {dx dz : Int} (hs : ∀ n, s.lt n) (hv : ∀ {α : Type} (A : Alg α) (vs : List α), A.step s vs = foldE A e dx dz) (hc : cn e = 1) : Into st e dx dz (put st s) := by
  have p := put_ok st s
  exact ⟨p.pre, p.lt, fun o => p.ok o (hs _), p.nd, fun o α A => by rw [run_at A (p.ok o (hs _)) p.at_]; exact hv A _, by rw [hc]; exact p.len⟩
theorem into_ok : ∀ (e : Ex) (dx dz : Int) (st : List Stp), Into st e dx dz (into e dx dz st)
  | .whole n, dx, dz, st => leaf_into (fun _ => True.intro) (fun _ _ => rfl) rfl
  | .px, dx, dz, st => leaf_into (fun _ => True.intro) (fun _ _ => rfl) rfl
  | .pz, dx, dz, st => leaf_into (fun _ => True.intro) (fun _ _ => rfl) rfl
  | .noise s l, dx, dz, st => leaf_into (fun _ => True.intro) (fun _ _ => rfl) rfl
  | .two w a b, dx, dz, st => by
    have ha := into_ok a dx dz st
    have hb := into_ok b dx dz (into a dx dz st).1
    have p := put_ok (into b dx dz (into a dx dz st).1).1 (.two w (into a dx dz st).2 (into b dx dz (into a dx dz st).1).2)
    have lb := hb.pre.length_le
    have hs : (Stp.two w (into a dx dz st).2 (into b dx dz (into a dx dz st).1).2).lt (into b dx dz (into a dx dz st).1).1.length := ⟨Nat.lt_of_lt_of_le ha.lt lb, hb.lt⟩
    refine ⟨ha.pre.trans (hb.pre.trans p.pre), p.lt, fun o => p.ok (hb.ok (ha.ok o)) hs, fun n => p.nd (hb.nd (ha.nd n)), fun o α A => ?_, ?_⟩
    · show (A.run (put _ _).1).getD (put _ _).2 A.dflt = _
      rw [run_at A (p.ok (hb.ok (ha.ok o)) hs) p.at_]
      show A.two w _ _ = A.two w _ _
      rw [run_get A p.pre hs.1, run_get A p.pre hs.2, run_get A hb.pre ha.lt, ha.val o A, hb.val (ha.ok o) A]
    · have := p.len; have := ha.len; have := hb.len
      show (put _ _).1.length ≤ st.length + (1 + (cn a + cn b))
      omega
  | .over a n, dx, dz, st => by
    have ha := into_ok a dx dz st
    have p := put_ok (into a dx dz st).1 (.over (into a dx dz st).2 n)
    have hs : (Stp.over (into a dx dz st).2 n).lt (into a dx dz st).1.length := ha.lt
    refine ⟨ha.pre.trans p.pre, p.lt, fun o => p.ok (ha.ok o) hs, fun m => p.nd (ha.nd m), fun o α A => ?_, ?_⟩
    · show (A.run (put _ _).1).getD (put _ _).2 A.dflt = _
      rw [run_at A (p.ok (ha.ok o) hs) p.at_]
      show A.over _ n = A.over _ n
      rw [run_get A p.pre hs, ha.val o A]
    · have := p.len; have := ha.len
      show (put _ _).1.length ≤ st.length + (1 + cn a)
      omega
  | .bel a b c d, dx, dz, st => by
    have ha := into_ok a dx dz st
    have hb := into_ok b dx dz (into a dx dz st).1
    have hc := into_ok c dx dz (into b dx dz (into a dx dz st).1).1
    have hd := into_ok d dx dz (into c dx dz (into b dx dz (into a dx dz st).1).1).1
    have p := put_ok (into d dx dz (into c dx dz (into b dx dz (into a dx dz st).1).1).1).1 (.bel (into a dx dz st).2 (into b dx dz (into a dx dz st).1).2 (into c dx dz (into b dx dz (into a dx dz st).1).1).2 (into d dx dz (into c dx dz (into b dx dz (into a dx dz st).1).1).1).2)
    have lb := hb.pre.length_le
    have lc := hc.pre.length_le
    have ld := hd.pre.length_le
    have la' := ha.lt
    have lb' := hb.lt
    have lc' := hc.lt
    have hs : (Stp.bel (into a dx dz st).2 (into b dx dz (into a dx dz st).1).2 (into c dx dz (into b dx dz (into a dx dz st).1).1).2 (into d dx dz (into c dx dz (into b dx dz (into a dx dz st).1).1).1).2).lt (into d dx dz (into c dx dz (into b dx dz (into a dx dz st).1).1).1).1.length :=
      ⟨by omega, by omega, by omega, hd.lt⟩
    have od := fun o => hd.ok (hc.ok (hb.ok (ha.ok o)))
    refine ⟨ha.pre.trans (hb.pre.trans (hc.pre.trans (hd.pre.trans p.pre))), p.lt, fun o => p.ok (od o) hs, fun n => p.nd (hd.nd (hc.nd (hb.nd (ha.nd n)))), fun o α A => ?_, ?_⟩
    · show (A.run (put _ _).1).getD (put _ _).2 A.dflt = _
      rw [run_at A (p.ok (od o) hs) p.at_]
      show A.bel _ _ _ _ = A.bel _ _ _ _
      rw [run_get A p.pre hs.1, run_get A p.pre hs.2.1, run_get A p.pre hs.2.2.1, run_get A p.pre hs.2.2.2]
      rw [run_get A (hb.pre.trans (hc.pre.trans hd.pre)) ha.lt, run_get A (hc.pre.trans hd.pre) hb.lt, run_get A hd.pre hc.lt, ha.val o A, hb.val (ha.ok o) A, hc.val (hb.ok (ha.ok o)) A, hd.val (hc.ok (hb.ok (ha.ok o))) A]
    · have := p.len; have := ha.len; have := hb.len; have := hc.len; have := hd.len
      show (put _ _).1.length ≤ st.length + (1 + (cn a + (cn b + (cn c + cn d))))
      omega
  | .shift ex ez a, dx, dz, st => by
    have ha := into_ok a (dx + ex) (dz + ez) st
    refine ⟨ha.pre, ha.lt, ha.ok, ha.nd, fun o α A => ha.val o A, ?_⟩
    have := ha.len
    show (into a (dx + ex) (dz + ez) st).1.length ≤ st.length + (1 + cn a)
    omega
/-- a field's own step is the last one, where anything was put in -/
theorem put_top {st : List Stp} {s : Stp} (h : Ok st) (no : ∀ p, s.lt p → ¬ p < st.length) : (put st s).2 + 1 = (put st s).1.length := by
  unfold put
  split
  · rename_i m
    have hl := List.idxOf_lt_length_iff.mpr m
    exact absurd hl (no _ (h _ s (by rw [List.getElem?_eq_getElem hl, List.getElem_idxOf])))
  · simp
theorem put_any (st : List Stp) (s : Stp) : (put st s).1 = st ∨ (put st s).2 + 1 = (put st s).1.length := by
  unfold put
  split
  · exact .inl rfl
  · right; simp
theorem into_top : ∀ (e : Ex) (dx dz : Int) (st : List Stp), Ok st → (into e dx dz st).1 = st ∨ (into e dx dz st).2 + 1 = (into e dx dz st).1.length
  | .whole _, _, _, st, _ => put_any st _
  | .px, _, _, st, _ => put_any st _
  | .pz, _, _, st, _ => put_any st _
  | .noise _ _, _, _, st, _ => put_any st _
  | .two w a b, dx, dz, st, ok => by
    have oa := (into_ok a dx dz st).ok ok
    have ob := (into_ok b dx dz (into a dx dz st).1).ok oa
    show (put (into b dx dz (into a dx dz st).1).1 (.two w (into a dx dz st).2 (into b dx dz (into a dx dz st).1).2)).1 = st ∨ _
    rcases into_top b dx dz _ oa with hb | hb
    · rcases into_top a dx dz st ok with ha | ha
      · have e : (into b dx dz (into a dx dz st).1).1 = st := by rw [hb, ha]
        have := put_any (into b dx dz (into a dx dz st).1).1 (.two w (into a dx dz st).2 (into b dx dz (into a dx dz st).1).2)
        rcases this with h | h
        · exact .inl (h.trans e)
        · exact .inr h
      · refine .inr (put_top ob fun p hp => ?_)
        have h1 : (into a dx dz st).2 < p := hp.1
        rw [hb]
        omega
    · refine .inr (put_top ob fun p hp => ?_)
      have h1 : (into b dx dz (into a dx dz st).1).2 < p := hp.2
      omega
  | .over a n, dx, dz, st, ok => by
    have oa := (into_ok a dx dz st).ok ok
    show (put (into a dx dz st).1 (.over (into a dx dz st).2 n)).1 = st ∨ _
    rcases into_top a dx dz st ok with ha | ha
    · rcases put_any (into a dx dz st).1 (.over (into a dx dz st).2 n) with h | h
      · exact .inl (h.trans ha)
      · exact .inr h
    · refine .inr (put_top oa fun p hp => ?_)
      have h1 : (into a dx dz st).2 < p := hp
      omega
  | .bel a b c d, dx, dz, st, ok => by
    obtain ⟨qa, ea⟩ : ∃ q, into a dx dz st = q := ⟨_, rfl⟩
    obtain ⟨qb, eb⟩ : ∃ q, into b dx dz qa.1 = q := ⟨_, rfl⟩
    obtain ⟨qc, ec⟩ : ∃ q, into c dx dz qb.1 = q := ⟨_, rfl⟩
    obtain ⟨qd, ed⟩ : ∃ q, into d dx dz qc.1 = q := ⟨_, rfl⟩
    have oa := (into_ok a dx dz st).ok ok
    rw [ea] at oa
    have ob := (into_ok b dx dz qa.1).ok oa
    rw [eb] at ob
    have oc := (into_ok c dx dz qb.1).ok ob
    rw [ec] at oc
    have od := (into_ok d dx dz qc.1).ok oc
    rw [ed] at od
    have ta := into_top a dx dz st ok
    have tb := into_top b dx dz qa.1 oa
    have tc := into_top c dx dz qb.1 ob
    have td := into_top d dx dz qc.1 oc
    rw [ea] at ta
    rw [eb] at tb
    rw [ec] at tc
    rw [ed] at td
    have e : into (.bel a b c d) dx dz st = put qd.1 (.bel qa.2 qb.2 qc.2 qd.2) := by
      simp only [into, ea, eb, ec, ed]
    rw [e]
    by_cases hd : qd.1 = qc.1
    · by_cases hc : qc.1 = qb.1
      · by_cases hb : qb.1 = qa.1
        · by_cases ha : qa.1 = st
          · have e2 : qd.1 = st := by rw [hd, hc, hb, ha]
            rcases put_any qd.1 (.bel qa.2 qb.2 qc.2 qd.2) with h | h
            · exact .inl (h.trans e2)
            · exact .inr h
          · have h1 := ta.resolve_left ha
            refine .inr (put_top od fun p hp => ?_)
            have h2 : qa.2 < p := hp.1
            rw [hd, hc, hb]
            omega
        · have h1 := tb.resolve_left hb
          refine .inr (put_top od fun p hp => ?_)
          have h2 : qb.2 < p := hp.2.1
          rw [hd, hc]
          omega
      · have h1 := tc.resolve_left hc
        refine .inr (put_top od fun p hp => ?_)
        have h2 : qc.2 < p := hp.2.2.1
        rw [hd]
        omega
    · have h1 := td.resolve_left hd
      refine .inr (put_top od fun p hp => ?_)
      have h2 : qd.2 < p := hp.2.2.2
      omega
  | .shift ex ez a, dx, dz, st, ok => into_top a (dx + ex) (dz + ez) st ok
/-! ### values, ranges -/
def valA (g x z : Int) : Alg Int := ⟨0, fun n => n, fun d => x + d, fun d => z + d, fun s l dx dz => noiseL g s l (x + dx) (z + dz), W2.op, fun a n => a / n, fun a b c d => if a < b then c else d⟩
def rngA (N : NR) (x0 z0 x1 z1 : Int) : Alg (Int × Int) := ⟨(0, 0), fun n => (n, n), fun d => (x0 + d, x1 + d), fun d => (z0 + d, z1 + d), fun s l dx dz => N s l (x0 + dx) (z0 + dz) (x1 + dx) (z1 + dz), W2.rng, fun a n => (a.1 / n, a.2 / n), belR⟩
theorem fold_val : ∀ (e : Ex) (g x z dx dz : Int), foldE (valA g x z) e dx dz = valE e g (x + dx) (z + dz)
  | .whole _, _, _, _, _, _ => rfl
  | .px, _, _, _, _, _ => rfl
  | .pz, _, _, _, _, _ => rfl
  | .noise _ _, _, _, _, _, _ => rfl
  | .two w a b, g, x, z, dx, dz => by simp only [foldE, valE, fold_val a, fold_val b]; rfl
  | .over a n, g, x, z, dx, dz => by simp only [foldE, valE, fold_val a]; rfl
  | .bel a b c d, g, x, z, dx, dz => by simp only [foldE, valE, fold_val a, fold_val b, fold_val c, fold_val d]; rfl
  | .shift ex ez a, g, x, z, dx, dz => by simp only [foldE, valE, fold_val a, Int.add_assoc]
theorem fold_rng (N : NR) : ∀ (e : Ex) (x0 z0 x1 z1 dx dz : Int), foldE (rngA N x0 z0 x1 z1) e dx dz = rangeG N e (x0 + dx) (z0 + dz) (x1 + dx) (z1 + dz)
  | .whole _, _, _, _, _, _, _ => rfl
  | .px, _, _, _, _, _, _ => rfl
  | .pz, _, _, _, _, _, _ => rfl
  | .noise _ _, _, _, _, _, _, _ => rfl
  | .two w a b, x0, z0, x1, z1, dx, dz => by simp only [foldE, rangeG, fold_rng N a, fold_rng N b]; rfl
  | .over a n, x0, z0, x1, z1, dx, dz => by simp only [foldE, rangeG, fold_rng N a]; rfl
  | .bel a b c d, x0, z0, x1, z1, dx, dz => by simp only [foldE, rangeG, fold_rng N a, fold_rng N b, fold_rng N c, fold_rng N d]; rfl
  | .shift ex ez a, x0, z0, x1, z1, dx, dz => by simp only [foldE, rangeG, fold_rng N a, Int.add_assoc]
end Sm

/-! Fields: what a name's environment has to do with the expansion; names called otherwise; names exchanged for their fields. -/
namespace Fm
open PySem
/-- an expansion hangs on the fields of the names alone that stand free in it -/
theorem expand_same : ∀ (F : Fd) (xs : List Str) (r r' : Env), Bnd F xs → (∀ x ∈ xs, look r x = look r' x) → expand F r = expand F r'
  | .whole _, _, _, _, _, _ => rfl
  | .px, _, _, _, _, _ => rfl
  | .pz, _, _, _, _, _ => rfl
  | .noise _ _, _, _, _, _, _ => rfl
  | .two _ a b, xs, r, r', h, e => by simp only [expand]; rw [expand_same a xs r r' h.1 e, expand_same b xs r r' h.2 e]
  | .over a _, xs, r, r', h, e => by simp only [expand]; rw [expand_same a xs r r' h e]
  | .bel a b c d, xs, r, r', h, e => by simp only [expand]; rw [expand_same a xs r r' h.1 e, expand_same b xs r r' h.2.1 e, expand_same c xs r r' h.2.2.1 e, expand_same d xs r r' h.2.2.2 e]
  | .shift _ _ a, xs, r, r', h, e => by simp only [expand]; rw [expand_same a xs r r' h e]
  | .lt x a b, xs, r, r', h, e => by
    simp only [expand]
    rw [expand_same a xs r r' h.1 e]
    exact expand_same b (x :: xs) _ _ h.2 fun y hy => by
      unfold look
      split
      · rfl
      · rename_i n
        exact e y (by rcases List.mem_cons.mp hy with h | h; exact absurd h n; exact h)
  | .nm x, xs, r, r', h, e => e x h
/-- a closed field's expansion needs no names -/
theorem expand_closed {F : Fd} (h : Bnd F []) (r r' : Env) : expand F r = expand F r' := expand_same F [] r r' h fun _ hx => nomatch hx
/-- fields without names, as fields -/
def emb : Ex → Fd
  | .whole n => .whole n
  | .px => .px
  | .pz => .pz
  | .noise s l => .noise s l
  | .two w a b => .two w (emb a) (emb b)
  | .over a n => .over (emb a) n
  | .bel a b c d => .bel (emb a) (emb b) (emb c) (emb d)
  | .shift dx dz a => .shift dx dz (emb a)
theorem expand_emb : ∀ (e : Ex) (r : Env), expand (emb e) r = e
  | .whole _, _ => rfl
  | .px, _ => rfl
  | .pz, _ => rfl
  | .noise _ _, _ => rfl
  | .two _ a b, r => by simp only [emb, expand, expand_emb a, expand_emb b]
  | .over a _, r => by simp only [emb, expand, expand_emb a]
  | .bel a b c d, r => by simp only [emb, expand, expand_emb a, expand_emb b, expand_emb c, expand_emb d]
  | .shift _ _ a, r => by simp only [emb, expand, expand_emb a]
theorem bnd_emb : ∀ (e : Ex) (xs : List Str), Bnd (emb e) xs
  | .whole _, _ => True.intro
  | .px, _ => True.intro
  | .pz, _ => True.intro
  | .noise _ _, _ => True.intro
  | .two _ a b, xs => ⟨bnd_emb a xs, bnd_emb b xs⟩
  | .over a _, xs => bnd_emb a xs
  | .bel a b c d, xs => ⟨bnd_emb a xs, bnd_emb b xs, bnd_emb c xs, bnd_emb d xs⟩
  | .shift _ _ a, xs => bnd_emb a xs
theorem okF_emb : ∀ (e : Ex), OkE e → OkF (emb e)
  | .whole _, h => h
  | .px, _ => True.intro
  | .pz, _ => True.intro
  | .noise _ _, h => h
  | .two _ a b, h => ⟨okF_emb a h.1, okF_emb b h.2⟩
  | .over a _, h => ⟨okF_emb a h.1, h.2⟩
  | .bel a b c d, h => ⟨okF_emb a h.1, okF_emb b h.2.1, okF_emb c h.2.2.1, okF_emb d h.2.2.2⟩
  | .shift _ _ a, h => ⟨h.1, h.2.1, okF_emb a h.2.2⟩
/-- the new name of a name -/
def nu : List (Str × Str) → Str → Str
  | [], x => x
  | (y, z) :: r, x => if x = y then z else nu r x
/-- a field whose lets' names are called otherwise, nm k being the new name of a let k lets deep -/
def call (fresh : Nat → Str) : Fd → List (Str × Str) → Nat → Fd
  | .two w a b, ν, k => .two w (call fresh a ν k) (call fresh b ν k)
  | .over a n, ν, k => .over (call fresh a ν k) n
  | .bel a b c d, ν, k => .bel (call fresh a ν k) (call fresh b ν k) (call fresh c ν k) (call fresh d ν k)
  | .shift dx dz a, ν, k => .shift dx dz (call fresh a ν k)
  | .lt x a b, ν, k => .lt (fresh k) (call fresh a ν k) (call fresh b ((x, fresh k) :: ν) (k + 1))
  | .nm x, ν, _ => .nm (nu ν x)
  | F, _, _ => F
/-- how many lets stand within one another -/
def lets : Fd → Nat
  | .two _ a b => max (lets a) (lets b)
  | .over a _ => lets a
  | .bel a b c d => max (max (lets a) (lets b)) (max (lets c) (lets d))
  | .shift _ _ a => lets a
  | .lt _ a b => max (lets a) (lets b + 1)
  | _ => 0
/-- called otherwise, a field's expansion is the same; new names differ -/
theorem expand_call (fresh : Nat → Str) (M : Nat) (inj : ∀ i j, i < M → j < M → fresh i = fresh j → i = j) : ∀ (F : Fd) (xs : List Str) (r r' : Env) (ν : List (Str × Str)) (k : Nat), k + lets F ≤ M → Bnd F xs →
    (∀ x ∈ xs, look r' (nu ν x) = look r x) → (∀ x ∈ xs, ∃ j, j < k ∧ nu ν x = fresh j) → expand (call fresh F ν k) r' = expand F r := by
  intro F
  induction F with
  | whole n => intros; rfl
  | px => intros; rfl
  | pz => intros; rfl
  | noise s l => intros; rfl
  | two w a b iha ihb =>
    intro xs r r' ν k hk h e f
    simp only [lets] at hk
    simp only [call, expand]
    rw [iha xs r r' ν k (by omega) h.1 e f, ihb xs r r' ν k (by omega) h.2 e f]
  | over a n iha =>
    intro xs r r' ν k hk h e f
    simp only [lets] at hk
    simp only [call, expand]
    rw [iha xs r r' ν k hk h e f]
  | bel a b c d iha ihb ihc ihd =>
    intro xs r r' ν k hk h e f
    simp only [lets] at hk
    simp only [call, expand]
    rw [iha xs r r' ν k (by omega) h.1 e f, ihb xs r r' ν k (by omega) h.2.1 e f, ihc xs r r' ν k (by omega) h.2.2.1 e f, ihd xs r r' ν k (by omega) h.2.2.2 e f]
  | shift dx dz a iha =>
    intro xs r r' ν k hk h e f
    simp only [lets] at hk
    simp only [call, expand]
    rw [iha xs r r' ν k hk h e f]
  | lt x a b iha ihb =>
    intro xs r r' ν k hk h e f
    simp only [lets] at hk
    simp only [call, expand]
    rw [iha xs r r' ν k (by omega) h.1 e f]
    refine ihb (x :: xs) _ _ _ (k + 1) (by omega) h.2 (fun y hy => ?_) (fun y hy => ?_)
    · by_cases c : y = x
      · simp only [nu, c, if_true, look]
      · have hy' : y ∈ xs := by rcases List.mem_cons.mp hy with h | h; exact absurd h c; exact h
        obtain ⟨j, hj, ej⟩ := f y hy'
        have n : ¬ nu ν y = fresh k := fun e2 => by
          have := inj j k (by omega) (by omega) (ej.symm.trans e2)
          omega
        simp only [nu, if_neg c, look, if_neg n]
        exact e y hy'
    · by_cases c : y = x
      · exact ⟨k, by omega, by simp only [nu, c, if_true]⟩
      · have hy' : y ∈ xs := by rcases List.mem_cons.mp hy with h | h; exact absurd h c; exact h
        obtain ⟨j, hj, ej⟩ := f y hy'
        exact ⟨j, by omega, by simp only [nu, if_neg c]; exact ej⟩
  | nm x => intro xs r r' ν k hk h e f; exact e x h
end Fm
namespace Fm
open PySem
/-- without products -/
def noT : Ex → Prop
  | .two w a b => w ≠ .times ∧ noT a ∧ noT b
  | .over a _ => noT a
  | .bel a b c d => noT a ∧ noT b ∧ noT c ∧ noT d
  | .shift _ _ a => noT a
  | _ => True
def dpE : Ex → Nat
  | .two _ a b => 1 + max (dpE a) (dpE b)
  | .over a _ => dpE a
  | .bel a b c d => max (max (dpE a) (dpE b)) (max (dpE c) (dpE d))
  | .shift _ _ a => dpE a
  | _ => 0
theorem vb_noT : ∀ (e : Ex) (k : Nat), 34 ≤ k → noT e → vb e k ≤ k + sh e + dpE e
  | .whole _, k, h, _ => by simp only [vb, sh, dpE]; omega
  | .px, k, h, _ => by simp only [vb, sh, dpE]; omega
  | .pz, k, h, _ => by simp only [vb, sh, dpE]; omega
  | .noise _ _, k, h, _ => by simp only [vb, sh, dpE]; omega
  | .two w a b, k, h, n => by
    have h1 := vb_noT a k h n.2.1
    have h2 := vb_noT b k h n.2.2
    cases w <;> first | exact absurd rfl n.1 | (simp only [vb, sh, dpE]; omega)
  | .over a _, k, h, n => by
    have h1 := vb_noT a k h n
    simp only [vb, sh, dpE]; omega
  | .bel a b c d, k, h, n => by
    have h1 := vb_noT a k h n.1
    have h2 := vb_noT b k h n.2.1
    have h3 := vb_noT c k h n.2.2.1
    have h4 := vb_noT d k h n.2.2.2
    simp only [vb, sh, dpE]; omega
  | .shift _ _ a, k, h, n => by
    have h1 := vb_noT a (k + 1) (by omega) n
    simp only [vb, sh, dpE]; omega
end Fm

/-! Ranges hold: in a part of the box they are no wider; values lie between. -/
namespace Rm
open PySem Fm
def In (a b : Int × Int) : Prop := b.1 ≤ a.1 ∧ a.2 ≤ b.2
theorem In.refl (a : Int × Int) : In a a := ⟨Int.le_refl _, Int.le_refl _⟩
theorem In.trans {a b c : Int × Int} (h : In a b) (k : In b c) : In a c := ⟨Int.le_trans k.1 h.1, Int.le_trans h.2 k.2⟩
/-- a product of one factor lies between those of its ends -/
theorem mul_ends {lo hi x : Int} (y : Int) (h1 : lo ≤ x) (h2 : x ≤ hi) : min (lo * y) (hi * y) ≤ x * y ∧ x * y ≤ max (lo * y) (hi * y) := by
  rcases Int.le_total 0 y with hy | hy
  · have a := Int.mul_le_mul_of_nonneg_right h1 hy
    have b := Int.mul_le_mul_of_nonneg_right h2 hy
    omega
  · have a := Int.mul_le_mul_of_nonpos_right h1 hy
    have b := Int.mul_le_mul_of_nonpos_right h2 hy
    omega
theorem mul_in {a b : Int × Int} {x y : Int} (h1 : a.1 ≤ x) (h2 : x ≤ a.2) (h3 : b.1 ≤ y) (h4 : y ≤ b.2) : (W2.rng .times a b).1 ≤ x * y ∧ x * y ≤ (W2.rng .times a b).2 := by
  have e1 := mul_ends y h1 h2
  have e2 := mul_ends a.1 h3 h4
  have e3 := mul_ends a.2 h3 h4
  rw [Int.mul_comm b.1 a.1, Int.mul_comm b.2 a.1, Int.mul_comm y a.1] at e2
  rw [Int.mul_comm b.1 a.2, Int.mul_comm b.2 a.2, Int.mul_comm y a.2] at e3
  simp only [W2.rng, mn4, mx4]
  omega
theorem rng_ok (w : W2) {a b : Int × Int} (ha : a.1 ≤ a.2) (hb : b.1 ≤ b.2) : (w.rng a b).1 ≤ (w.rng a b).2 := by
  cases w with
  | times =>
    have := mul_in (a := a) (b := b) (Int.le_refl a.1) ha (Int.le_refl b.1) hb
    omega
  | _ => simp only [W2.rng]; omega
theorem rng_in (w : W2) {a b a' b' : Int × Int} (ha : a.1 ≤ a.2) (hb : b.1 ≤ b.2) (h1 : In a a') (h2 : In b b') : In (w.rng a b) (w.rng a' b') := by
  obtain ⟨p1, p2⟩ := h1
  obtain ⟨q1, q2⟩ := h2
  cases w with
  | times =>
    have c1 := mul_in (a := a') (b := b') (x := a.1) (y := b.1) p1 (by omega) q1 (by omega)
    have c2 := mul_in (a := a') (b := b') (x := a.1) (y := b.2) p1 (by omega) (by omega) q2
    have c3 := mul_in (a := a') (b := b') (x := a.2) (y := b.1) (by omega) p2 q1 (by omega)
    have c4 := mul_in (a := a') (b := b') (x := a.2) (y := b.2) (by omega) p2 (by omega) q2
    simp only [In]
    simp only [W2.rng, mn4, mx4] at *
    omega
  | _ => simp only [In, W2.rng]; omega
theorem op_in (w : W2) {a b : Int × Int} {x y : Int} (h1 : a.1 ≤ x) (h2 : x ≤ a.2) (h3 : b.1 ≤ y) (h4 : y ≤ b.2) : (w.rng a b).1 ≤ w.op x y ∧ w.op x y ≤ (w.rng a b).2 := by
  cases w with
  | times => exact mul_in h1 h2 h3 h4
  | plus => simp only [W2.rng, W2.op]; omega
  | less => simp only [W2.rng, W2.op]; omega
  | least => simp only [W2.rng, W2.op]; split <;> omega
  | most => simp only [W2.rng, W2.op]; split <;> omega
theorem bel_ok {a b c d : Int × Int} (hc : c.1 ≤ c.2) (hd : d.1 ≤ d.2) : (belR a b c d).1 ≤ (belR a b c d).2 := by
  unfold belR
  split
  · exact hc
  · split
    · exact hd
    · show min c.1 d.1 ≤ max c.2 d.2
      omega
theorem bel_in {a b c d a' b' c' d' : Int × Int} (ha : a.1 ≤ a.2) (hb : b.1 ≤ b.2) (hc : c.1 ≤ c.2) (hd : d.1 ≤ d.2) (h1 : In a a') (h2 : In b b') (h3 : In c c') (h4 : In d d') : In (belR a b c d) (belR a' b' c' d') := by
  obtain ⟨p1, p2⟩ := h1
  obtain ⟨q1, q2⟩ := h2
  obtain ⟨r1, r2⟩ := h3
  obtain ⟨s1, s2⟩ := h4
  unfold belR
  by_cases t1 : a'.2 < b'.1
  · rw [if_pos t1, if_pos (show a.2 < b.1 by omega)]
    exact ⟨r1, r2⟩
  · rw [if_neg t1]
    by_cases t2 : b'.2 ≤ a'.1
    · rw [if_pos t2, if_neg (show ¬ a.2 < b.1 by omega), if_pos (show b.2 ≤ a.1 by omega)]
      exact ⟨s1, s2⟩
    · rw [if_neg t2]
      by_cases t3 : a.2 < b.1
      · rw [if_pos t3]
        show min c'.1 d'.1 ≤ c.1 ∧ c.2 ≤ max c'.2 d'.2
        omega
      · rw [if_neg t3]
        by_cases t4 : b.2 ≤ a.1
        · rw [if_pos t4]
          show min c'.1 d'.1 ≤ d.1 ∧ d.2 ≤ max c'.2 d'.2
          omega
        · rw [if_neg t4]
          show min c'.1 d'.1 ≤ min c.1 d.1 ∧ max c.2 d.2 ≤ max c'.2 d'.2
          omega
/-- ranges of noise that hold: no less than one another in parts -/
structure NMono (N N' : NR) : Prop where
  ok : ∀ s l x0 z0 x1 z1, x0 ≤ x1 → z0 ≤ z1 → (N s l x0 z0 x1 z1).1 ≤ (N s l x0 z0 x1 z1).2
  sub : ∀ s l x0 z0 x1 z1 x0' z0' x1' z1', x0 ≤ x1 → z0 ≤ z1 → x0' ≤ x0 → x1 ≤ x1' → z0' ≤ z0 → z1 ≤ z1' → In (N s l x0 z0 x1 z1) (N' s l x0' z0' x1' z1')
theorem wide_mono : NMono wideN wideN := ⟨fun _ _ _ _ _ _ _ _ => (by decide : (0 : Int) ≤ 65535), fun _ _ _ _ _ _ _ _ _ _ _ _ _ _ _ _ => In.refl _⟩
theorem div_le {a b n : Int} (h : a ≤ b) (hn : 1 ≤ n) : a / n ≤ b / n := Int.ediv_le_ediv (by omega) h
theorem range_ok {N N' : NR} (hN : NMono N N') : ∀ (e : Ex) (x0 z0 x1 z1 : Int), OkE e → x0 ≤ x1 → z0 ≤ z1 → (rangeG N e x0 z0 x1 z1).1 ≤ (rangeG N e x0 z0 x1 z1).2
  | .whole _, _, _, _, _, _, _, _ => Int.le_refl _
  | .px, _, _, _, _, _, hx, _ => hx
  | .pz, _, _, _, _, _, _, hz => hz
  | .noise s l, x0, z0, x1, z1, _, hx, hz => hN.ok s l x0 z0 x1 z1 hx hz
  | .two w a b, x0, z0, x1, z1, h, hx, hz => rng_ok w (range_ok hN a x0 z0 x1 z1 h.1 hx hz) (range_ok hN b x0 z0 x1 z1 h.2 hx hz)
  | .over a n, x0, z0, x1, z1, h, hx, hz => div_le (range_ok hN a x0 z0 x1 z1 h.1 hx hz) h.2.1
  | .bel a b c d, x0, z0, x1, z1, h, hx, hz => bel_ok (range_ok hN c x0 z0 x1 z1 h.2.2.1 hx hz) (range_ok hN d x0 z0 x1 z1 h.2.2.2 hx hz)
  | .shift dx dz a, x0, z0, x1, z1, h, hx, hz => range_ok hN a _ _ _ _ h.2.2 (by omega) (by omega)
theorem range_in {N N' : NR} (hN : NMono N N') : ∀ (e : Ex) (x0 z0 x1 z1 x0' z0' x1' z1' : Int), OkE e → x0 ≤ x1 → z0 ≤ z1 → x0' ≤ x0 → x1 ≤ x1' → z0' ≤ z0 → z1 ≤ z1' → In (rangeG N e x0 z0 x1 z1) (rangeG N' e x0' z0' x1' z1')
  | .whole _, _, _, _, _, _, _, _, _, _, _, _, _, _, _, _ => In.refl _
  | .px, _, _, _, _, _, _, _, _, _, _, _, h1, h2, _, _ => ⟨h1, h2⟩
  | .pz, _, _, _, _, _, _, _, _, _, _, _, _, _, h3, h4 => ⟨h3, h4⟩
  | .noise s l, x0, z0, x1, z1, _, _, _, _, _, hx, hz, h1, h2, h3, h4 => hN.sub s l _ _ _ _ _ _ _ _ hx hz h1 h2 h3 h4
  | .two w a b, x0, z0, x1, z1, x0', z0', x1', z1', h, hx, hz, h1, h2, h3, h4 =>
    rng_in w (range_ok hN a x0 z0 x1 z1 h.1 hx hz) (range_ok hN b x0 z0 x1 z1 h.2 hx hz) (range_in hN a x0 z0 x1 z1 x0' z0' x1' z1' h.1 hx hz h1 h2 h3 h4) (range_in hN b x0 z0 x1 z1 x0' z0' x1' z1' h.2 hx hz h1 h2 h3 h4)
  | .over a n, x0, z0, x1, z1, x0', z0', x1', z1', h, hx, hz, h1, h2, h3, h4 => by
    have i := range_in hN a x0 z0 x1 z1 x0' z0' x1' z1' h.1 hx hz h1 h2 h3 h4
    exact ⟨div_le i.1 h.2.1, div_le i.2 h.2.1⟩
  | .bel a b c d, x0, z0, x1, z1, x0', z0', x1', z1', h, hx, hz, h1, h2, h3, h4 =>
    bel_in (range_ok hN a x0 z0 x1 z1 h.1 hx hz) (range_ok hN b x0 z0 x1 z1 h.2.1 hx hz) (range_ok hN c x0 z0 x1 z1 h.2.2.1 hx hz) (range_ok hN d x0 z0 x1 z1 h.2.2.2 hx hz)
      (range_in hN a x0 z0 x1 z1 x0' z0' x1' z1' h.1 hx hz h1 h2 h3 h4) (range_in hN b x0 z0 x1 z1 x0' z0' x1' z1' h.2.1 hx hz h1 h2 h3 h4) (range_in hN c x0 z0 x1 z1 x0' z0' x1' z1' h.2.2.1 hx hz h1 h2 h3 h4) (range_in hN d x0 z0 x1 z1 x0' z0' x1' z1' h.2.2.2 hx hz h1 h2 h3 h4)
  | .shift dx dz a, x0, z0, x1, z1, x0', z0', x1', z1', h, hx, hz, h1, h2, h3, h4 => range_in hN a _ _ _ _ _ _ _ _ h.2.2 (by omega) (by omega) (by omega) (by omega) (by omega) (by omega)
/-- noise lies in its range -/
def NHolds (g : Int) (N : NR) : Prop := ∀ s l x0 z0 x1 z1 x z, x0 ≤ x → x ≤ x1 → z0 ≤ z → z ≤ z1 → (N s l x0 z0 x1 z1).1 ≤ noiseL g s l x z ∧ noiseL g s l x z ≤ (N s l x0 z0 x1 z1).2
theorem wide_holds (g : Int) : NHolds g wideN := fun s l _ _ _ _ x z _ _ _ _ => noise_in g s l x z
theorem val_in {g : Int} {N : NR} (hN : NHolds g N) : ∀ (e : Ex) (x0 z0 x1 z1 x z : Int), OkE e → x0 ≤ x → x ≤ x1 → z0 ≤ z → z ≤ z1 → (rangeG N e x0 z0 x1 z1).1 ≤ valE e g x z ∧ valE e g x z ≤ (rangeG N e x0 z0 x1 z1).2
  | .whole _, _, _, _, _, _, _, _, _, _, _, _ => ⟨Int.le_refl _, Int.le_refl _⟩
  | .px, _, _, _, _, _, _, _, h1, h2, _, _ => ⟨h1, h2⟩
  | .pz, _, _, _, _, _, _, _, _, _, h3, h4 => ⟨h3, h4⟩
  | .noise s l, x0, z0, x1, z1, x, z, _, h1, h2, h3, h4 => hN s l x0 z0 x1 z1 x z h1 h2 h3 h4
  | .two w a b, x0, z0, x1, z1, x, z, h, h1, h2, h3, h4 => by
    have i := val_in hN a x0 z0 x1 z1 x z h.1 h1 h2 h3 h4
    have j := val_in hN b x0 z0 x1 z1 x z h.2 h1 h2 h3 h4
    exact op_in w i.1 i.2 j.1 j.2
  | .over a n, x0, z0, x1, z1, x, z, h, h1, h2, h3, h4 => by
    have i := val_in hN a x0 z0 x1 z1 x z h.1 h1 h2 h3 h4
    exact ⟨div_le i.1 h.2.1, div_le i.2 h.2.1⟩
  | .bel a b c d, x0, z0, x1, z1, x, z, h, h1, h2, h3, h4 => by
    have i := val_in hN a x0 z0 x1 z1 x z h.1 h1 h2 h3 h4
    have j := val_in hN b x0 z0 x1 z1 x z h.2.1 h1 h2 h3 h4
    have k := val_in hN c x0 z0 x1 z1 x z h.2.2.1 h1 h2 h3 h4
    have m := val_in hN d x0 z0 x1 z1 x z h.2.2.2 h1 h2 h3 h4
    show (belR _ _ _ _).1 ≤ (if _ then _ else _) ∧ (if _ then _ else _) ≤ (belR _ _ _ _).2
    unfold belR
    by_cases t : valE a g x z < valE b g x z
    · rw [if_pos t]
      split
      · exact k
      · split
        · omega
        · show min _ _ ≤ _ ∧ _ ≤ max _ _
          omega
    · rw [if_neg t]
      split
      · omega
      · split
        · exact m
        · show min _ _ ≤ _ ∧ _ ≤ max _ _
          omega
  | .shift dx dz a, x0, z0, x1, z1, x, z, h, h1, h2, h3, h4 => val_in hN a _ _ _ _ _ _ h.2.2 (by omega) (by omega) (by omega) (by omega)
/-- all ranges of a field in a part of the box lie within those of the box, one by one -/
theorem all_in {N N' : NR} (hN : NMono N N') (B : Int × Int) : ∀ (e : Ex) (x0 z0 x1 z1 x0' z0' x1' z1' : Int), OkE e → x0 ≤ x1 → z0 ≤ z1 → x0' ≤ x0 → x1 ≤ x1' → z0' ≤ z0 → z1 ≤ z1' →
    (∀ p ∈ allE N' e x0' z0' x1' z1', In p B) → ∀ p ∈ allE N e x0 z0 x1 z1, In p B
  | .whole n, x0, z0, x1, z1, x0', z0', x1', z1', h, hx, hz, h1, h2, h3, h4, q, p, hp => by
    have e := List.mem_singleton.mp hp
    rw [e]
    exact (range_in hN (.whole n) _ _ _ _ _ _ _ _ h hx hz h1 h2 h3 h4).trans (q _ (List.mem_singleton.mpr rfl))
  | .px, x0, z0, x1, z1, x0', z0', x1', z1', h, hx, hz, h1, h2, h3, h4, q, p, hp => by
    have e := List.mem_singleton.mp hp
    rw [e]
    exact (range_in hN .px _ _ _ _ _ _ _ _ h hx hz h1 h2 h3 h4).trans (q _ (List.mem_singleton.mpr rfl))
  | .pz, x0, z0, x1, z1, x0', z0', x1', z1', h, hx, hz, h1, h2, h3, h4, q, p, hp => by
    have e := List.mem_singleton.mp hp
    rw [e]
    exact (range_in hN .pz _ _ _ _ _ _ _ _ h hx hz h1 h2 h3 h4).trans (q _ (List.mem_singleton.mpr rfl))
  | .noise s l, x0, z0, x1, z1, x0', z0', x1', z1', h, hx, hz, h1, h2, h3, h4, q, p, hp => by
    have e := List.mem_singleton.mp hp
    rw [e]
    exact (range_in hN (.noise s l) _ _ _ _ _ _ _ _ h hx hz h1 h2 h3 h4).trans (q _ (List.mem_singleton.mpr rfl))
  | .two w a b, x0, z0, x1, z1, x0', z0', x1', z1', h, hx, hz, h1, h2, h3, h4, q, p, hp => by
    rcases List.mem_cons.mp hp with e | hp
    · rw [e]
      exact (range_in hN (.two w a b) _ _ _ _ _ _ _ _ h hx hz h1 h2 h3 h4).trans (q _ List.mem_cons_self)
    · rcases List.mem_append.mp hp with hp | hp
      · exact all_in hN B a _ _ _ _ _ _ _ _ h.1 hx hz h1 h2 h3 h4 (fun p hp => q p (List.mem_cons_of_mem _ (List.mem_append_left _ hp))) p hp
      · exact all_in hN B b _ _ _ _ _ _ _ _ h.2 hx hz h1 h2 h3 h4 (fun p hp => q p (List.mem_cons_of_mem _ (List.mem_append_right _ hp))) p hp
  | .over a n, x0, z0, x1, z1, x0', z0', x1', z1', h, hx, hz, h1, h2, h3, h4, q, p, hp => by
    rcases List.mem_cons.mp hp with e | hp
    · rw [e]
      exact (range_in hN (.over a n) _ _ _ _ _ _ _ _ h hx hz h1 h2 h3 h4).trans (q _ List.mem_cons_self)
    · exact all_in hN B a _ _ _ _ _ _ _ _ h.1 hx hz h1 h2 h3 h4 (fun p hp => q p (List.mem_cons_of_mem _ hp)) p hp
  | .bel a b c d, x0, z0, x1, z1, x0', z0', x1', z1', h, hx, hz, h1, h2, h3, h4, q, p, hp => by
    rcases List.mem_cons.mp hp with e | hp
    · rw [e]
      exact (range_in hN (.bel a b c d) _ _ _ _ _ _ _ _ h hx hz h1 h2 h3 h4).trans (q _ List.mem_cons_self)
    · rcases List.mem_append.mp hp with hp | hp
      · exact all_in hN B a _ _ _ _ _ _ _ _ h.1 hx hz h1 h2 h3 h4 (fun p hp => q p (List.mem_cons_of_mem _ (List.mem_append_left _ hp))) p hp
      · rcases List.mem_append.mp hp with hp | hp
        · exact all_in hN B b _ _ _ _ _ _ _ _ h.2.1 hx hz h1 h2 h3 h4 (fun p hp => q p (List.mem_cons_of_mem _ (List.mem_append_right _ (List.mem_append_left _ hp)))) p hp
        · rcases List.mem_append.mp hp with hp | hp
          · exact all_in hN B c _ _ _ _ _ _ _ _ h.2.2.1 hx hz h1 h2 h3 h4 (fun p hp => q p (List.mem_cons_of_mem _ (List.mem_append_right _ (List.mem_append_right _ (List.mem_append_left _ hp))))) p hp
          · exact all_in hN B d _ _ _ _ _ _ _ _ h.2.2.2 hx hz h1 h2 h3 h4 (fun p hp => q p (List.mem_cons_of_mem _ (List.mem_append_right _ (List.mem_append_right _ (List.mem_append_right _ hp))))) p hp
  | .shift dx dz a, x0, z0, x1, z1, x0', z0', x1', z1', h, hx, hz, h1, h2, h3, h4, q, p, hp => by
    rcases List.mem_cons.mp hp with e | hp
    · rw [e]
      exact (range_in hN (.shift dx dz a) _ _ _ _ _ _ _ _ h hx hz h1 h2 h3 h4).trans (q _ List.mem_cons_self)
    · exact all_in hN B a _ _ _ _ _ _ _ _ h.2.2 (by omega) (by omega) (by omega) (by omega) (by omega) (by omega) (fun p hp => q p (List.mem_cons_of_mem _ hp)) p hp
end Rm

/-! {**d, k: v} at the model's level. -/
namespace Dm
open PySem
section
variable {prog : Program} {w : World} {K : Type} [DecidableEq K] {knd : KeyKind prog w K} {A : Around} {E : Value → Shared → Prop} {s : Shared}
theorem wpAny_dictPut_pairs {d : Addr} {kvs : List (K × Value)} {k : K} {key v : Value} {Q : Unit → Shared → Prop} (hkey : knd.is k key = true) (hm : s.heap.DictOf knd d kvs)
    (hQ : ∀ h', h'.DictOf knd d (stored kvs k v) → Heap.SameBut d s.heap h' → Q () { s with heap := h' })
    (hsz : kvs.length ≤ sizeLine := by size_fits) :
    wpAny (model prog w) A (dictPut d (knd.hash k) key v) Q E s := by
  obtain ⟨o, es, ep, ho, hc, hd, hk, hp, hn⟩ := hm
  have hes : es.size ≤ sizeLine := by have e1 := hp.length; have e2 : es.toList.length = es.size := by simp
                                      omega
  unfold dictPut
  refine wpAny_bind (wpAny_dictFind_of hkey ho hd hk ?_)
  have hidx : (es.findIdx? fun e => knd.is k e.key) = kvs.findIdx? fun kv => decide (kv.1 = k) := by
    rw [← hp.findIdx k]; obtain ⟨l⟩ := es; simp
  cases hi : es.findIdx? fun e => knd.is k e.key with
  | some i =>
    refine wpAny_updateDict ho hd (hQ _ ⟨_, _, ep, Heap.get?_update_self _ ho (Obj.isFreed_of_dict (Obj.data_mapDict hd _)),
      hc.mapDict _, Obj.data_mapDict hd _, hk.modify _ _, ?_, ?_⟩ (Heap.SameBut.update ..))
    · rw [stored, if_pos (any_of_findIdx_some (hidx ▸ hi))]
      have hl : (es.toList.findIdx? fun e => knd.is k e.key) = some i := by rw [← hi]; obtain ⟨l⟩ := es; simp
      have := hp.modify hn hl v
      obtain ⟨l⟩ := es
      simpa using this
    · rw [stored, if_pos (any_of_findIdx_some (hidx ▸ hi)), keys_map_store]; exact hn
  | none =>
    have hnot : k ∉ kvs.map (·.1) := not_mem_of_findIdx_none (hidx ▸ hi)
    have hany : ¬ (kvs.any fun kv => decide (kv.1 = k)) = true := by
      rw [List.any_eq_true]; rintro ⟨kv, hkv, he⟩
      exact hnot (List.mem_map.mpr ⟨kv, hkv, of_decide_eq_true he⟩)
    refine wpAny_updateDictKeys (hz := hes) ho hd (hQ _ ⟨_, _, ep + 1, Heap.get?_update_self _ ho (Obj.isFreed_of_dict (Obj.data_mapDictKeys hd _)),
      hc.mapDictKeys _, Obj.data_mapDictKeys hd _, hk.push hkey _, ?_, ?_⟩ (Heap.SameBut.update ..))
    · rw [stored, if_neg hany]
      have := hp.append hkey (knd.hash k) v
      obtain ⟨l⟩ := es
      simpa using this
    · rw [stored, if_neg hany, List.map_append, List.nodup_append]
      refine ⟨hn, by simp, ?_⟩
      intro a ha b hb
      simp only [List.map_cons, List.map_nil, List.mem_singleton] at hb
      subst hb
      exact fun e => hnot (e ▸ ha)

theorem wpAny_mergeMapping {d o : Addr} {kvs more : List (K × Value)} {Q : Unit → Shared → Prop} (hdo : d ≠ o) (hoS : (o == sysModules) = false)
    (hd : s.heap.DictOf knd d kvs) (ho : s.heap.DictOf knd o more)
    (hQ : ∀ h', h'.DictOf knd d (merged kvs more) → h'.DictOf knd o more → Heap.SameBut d s.heap h' → Q () { s with heap := h' })
    (hsz : kvs.length + more.length ≤ sizeLine) :
    wpAny (model prog w) A (mergeMapping d (.ref o) false) Q E s := by
  obtain ⟨od, esd, epd, hod, hcd, hdd, hkd, hpd, hnd⟩ := id hd
  obtain ⟨oo, eso, epo, hoo, hco, hdo', hko, hpo, hno⟩ := id ho
  have hlen : more.length = eso.size := by rw [← hpo.length]; simp
  unfold mergeMapping
  refine wpAny_bind (wpAny_isInstance ho.typeIs isSubtype_dict_dict ?_)
  simp only [if_true]
  refine wpAny_bind (wpAny_specialOf ho.typeIs F.slot_dict_iter.lookup (wpAny_bind (wpAny_pure ?_)))
  have eb : ((some (Value.builtin "dict.__iter__") : Option Value) == some (Value.builtin "dict.__iter__")) = true := by decide +kernel
  simp only [eb]
  rw [if_neg (by rw [hoS]; exact Bool.false_ne_true)]
  refine wpAny_bind (wpAny_dictEntries hod hdd ?_)
  have loop : wpAny (model prog w) A (do
      let l ← dictEntries o
      let epoch ← dictEpoch o
      forIn (List.range l.size) PUnit.unit fun i (_ : PUnit) => (do
          let l' ← dictEntries o
          match l'[i]? with
            | some e => do
              holding [e.key, e.val] (dictPut d e.hash e.key e.val)
              let ep' ← dictEpoch o
              if (ep' != epoch) = true then do
                  (unsupported "dict.changed-during-merge" : Sem PUnit)
                  pure (ForInStep.yield PUnit.unit)
                else pure (ForInStep.yield PUnit.unit)
            | _ => do
              (unsupported "dict.changed-during-merge" : Sem PUnit)
              pure (ForInStep.yield PUnit.unit) : Sem (ForInStep PUnit))
      pure ()) Q E s := by
    refine wpAny_bind (wpAny_dictEntries hoo hdo' ?_)
    refine wpAny_bind (wpAny_dictEpoch hoo hdo' ?_)
    refine wpAny_bind ?_
    rw [List.range_eq_range']
    refine wpAny_forIn_list _
      (fun rest _ s' => ∃ h' i, s' = { s with heap := h' } ∧ rest = List.range' i (eso.size - i) ∧ i ≤ eso.size ∧ h'.DictOf knd d (merged kvs (more.take i)) ∧ h'.get? o = some oo ∧ Heap.SameBut d s.heap h')
      _ ?_ ?_ _ _ ⟨s.heap, 0, rfl, by simp, Nat.zero_le _, by simpa [merged] using hd, hoo, Heap.SameBut.refl _ _⟩
    · rintro x rest b s' ⟨h', i, rfl, hr, hi, hd', hoo', hs'⟩
      have hlt : i < eso.size := by
        rcases Nat.lt_or_ge i eso.size with h | h
        · exact h
        · rw [Nat.sub_eq_zero_of_le h] at hr; simp at hr
      obtain ⟨rfl, hrest⟩ : x = i ∧ rest = List.range' (i + 1) (eso.size - (i + 1)) := by
        have e : eso.size - i = (eso.size - (i + 1)) + 1 := by omega
        rw [e, List.range'_succ] at hr
        injection hr with h1 h2
        exact ⟨h1, h2⟩
      refine wpAny_bind (wpAny_dictEntries hoo' hdo' ?_)
      rw [Array.getElem?_eq_getElem hlt]
      obtain ⟨kv, hkv⟩ : ∃ kv, more[x]? = some kv := ⟨more[x]'(by rw [hlen]; exact hlt), List.getElem?_eq_getElem _⟩
      obtain ⟨k, v⟩ := kv
      obtain ⟨hkey, hval⟩ := hpo.get? (e := eso[x]) (by simp [hlt]) hkv
      obtain ⟨k', hkey', hhash⟩ := hko eso[x] (Array.getElem_mem hlt)
      obtain rfl : k' = k := knd.inj _ _ _ hkey' hkey
      show wpAny _ _ (holding [eso[x].key, eso[x].val] (dictPut d eso[x].hash eso[x].key eso[x].val) >>= _) _ _ _
      rw [hhash, hval]
      have hmx : (merged kvs (more.take x)).length ≤ sizeLine := by
        have e1 := merged_length_le kvs (more.take x)
        have e2 : (more.take x).length ≤ more.length := by rw [List.length_take]; omega
        omega
      refine wpAny_bind (wpAny_holding (wpAny_dictPut_pairs (hsz := hmx) hkey hd' fun h'' hd'' hs'' => ?_))
      have hoo'' : h''.get? o = some oo := (hs''.2 o (Ne.symm hdo)).trans hoo'
      refine wpAny_bind (wpAny_dictEpoch hoo'' hdo' ?_)
      rw [if_neg (by simp)]
      exact wpAny_pure ⟨h'', x + 1, rfl, hrest, hlt, by rw [merged_take_succ kvs more x (k', v) hkv]; exact hd'', hoo'', hs'.trans hs''⟩
    · rintro b s' ⟨h', i, rfl, hr, hi, hd', hoo', hs'⟩
      have hin : i = eso.size := by
        rcases Nat.lt_or_ge i eso.size with h | h
        · have e : eso.size - i = (eso.size - (i + 1)) + 1 := by omega
          rw [e, List.range'_succ] at hr; exact nomatch hr
        · exact Nat.le_antisymm hi h
      refine wpAny_pure (hQ h' ?_ ⟨oo, eso, epo, hoo', hco, hdo', hko, hpo, hno⟩ hs')
      rw [hin, ← hlen, List.take_length] at hd'; exact hd'
  have loop2 := loop
  split
  · refine wpAny_bind (wpAny_dictEntries hoo hdo' ?_)
    refine wpAny_bind ?_
    rw [← Array.forIn_toList]
    refine wpAny_forIn_list _ (fun rest _ s' => s' = s ∧ ∀ e ∈ rest, e ∈ eso.toList) _ ?_ ?_ _ _ ⟨rfl, fun e h => h⟩
    · rintro e rest b s' ⟨rfl, hall⟩
      obtain ⟨k, hkey, _⟩ := hko e (Array.mem_toList_iff.mp (hall e List.mem_cons_self))
      have hb := knd.byValue k _ hkey
      cases hkk : e.key with
      | ref a =>
        rw [hkk] at hb
        cases hb
      | _ => exact wpAny_pure ⟨rfl, fun x hx => hall x (List.mem_cons_of_mem _ hx)⟩
    · rintro b s' ⟨rfl, _⟩
      exact loop
  · exact loop
theorem wpAny_displayStar {m k v : Sem Value} {Q : Value → Shared → Prop}
    (h : wpAny (model prog w) A m (fun mv s1 => ∃ o more, mv = .ref o ∧ s.heap.objs.size ≠ o ∧ (o == sysModules) = false ∧ s1.heap.DictOf knd s.heap.objs.size [] ∧ s1.heap.DictOf knd o more ∧ more.length < sizeLine ∧
      ∀ h1, h1.DictOf knd s.heap.objs.size more → Heap.SameBut s.heap.objs.size s1.heap h1 →
        wpAny (model prog w) A (evalPairs [(k, v)]) (fun vs s2 => ∃ key val more2, more2.length < sizeLine ∧ Carries knd vs [(key, val)] ∧ h1.objs.size ≠ s.heap.objs.size ∧ (h1.objs.size == sysModules) = false ∧ s2.heap.DictOf knd h1.objs.size [] ∧ s2.heap.DictOf knd s.heap.objs.size more2 ∧
          ∀ h2, h2.DictOf knd h1.objs.size [(key, val)] → Heap.SameBut h1.objs.size s2.heap h2 → ∀ h3, h3.DictOf knd s.heap.objs.size (stored more2 key val) → h3.DictOf knd h1.objs.size [(key, val)] → Heap.SameBut s.heap.objs.size h2 h3 →
            Q (.ref s.heap.objs.size) { s2 with heap := h3, toks := s2.toks + vs.length }) E { s1 with heap := h1.push { cls := .type "dict", data := .dict #[] } }) E
      { s with heap := s.heap.push { cls := .type "dict", data := .dict #[] } }) :
    wpAny (model prog w) A (dictDisplay [(none, m), (some k, v)]) Q E s := by
  unfold dictDisplay
  simp only [List.forIn_cons, List.forIn_nil]
  refine wpAny_bind ?_
  refine wpAny_bind ?_
  simp only [List.isEmpty_nil, if_true]
  refine wpAny_bind (wpAny_pure ?_)
  refine wpAny_bind (wpAny_alloc ?_)
  refine wpAny_bind (wpAny_holding (wpAny_mono h (fun mv s1 hm => ?_) fun _ _ e => e))
  obtain ⟨o, more, rfl, hne, hoS, hd, ho, hz, h1⟩ := hm
  have hnd : (more.map (·.1)).Nodup := by
    obtain ⟨_, _, _, _, _, _, _, _, n⟩ := ho
    exact n
  refine wpAny_bind (wpAny_onRaise (wpAny_tryCatch (wpAny_onRaise (wpAny_holding (wpAny_mergeMapping hne hoS hd ho (fun h' hd' ho' hs' => ?_) (by simp only [List.length_nil]; omega))))))
  rw [merged_nil_of_nodup more hnd] at hd'
  refine wpAny_pure ?_
  refine wpAny_bind ?_
  simp only [List.nil_append, List.length_cons, List.length_nil]
  refine wpAny_pure ?_
  refine wpAny_pure ?_
  simp only [List.isEmpty_cons, Bool.false_eq_true, if_false]
  refine wpAny_bind (wpAny_bind (wpAny_holding (wpAny_subDict (knd := knd) (by simp) (wpAny_mono (h1 h' hd' hs') (fun vs s2 hv => ?_) fun _ _ e => e))))
  obtain ⟨key, val, more2, hz2, hc, hne2, hS2, hd2, hdm, hq⟩ := hv
  refine ⟨[(key, val)], hc, hd2, fun h2 hd3 hs3 => ?_⟩
  have e1 : merged ([] : List (K × Value)) [(key, val)] = [(key, val)] := rfl
  rw [e1] at hd3
  refine wpAny_bind (wpAny_onRaise (wpAny_holding (wpAny_mergeMapping (s := { s2 with heap := h2, toks := s2.toks + vs.length }) hne2.symm hS2 (hdm.sameBut hs3 hne2.symm) hd3 (fun h3 hd4 hd5 hs4 => ?_) (by simp only [List.length_cons, List.length_nil]; omega))))
  refine wpAny_pure ?_
  exact wpAny_pure (hq h2 hd3 hs3 h3 hd4 hd5 hs4)
end
end Dm

/-! Weights of fields; steps as they stand in the heap. -/
namespace Pf
open PySem L2 Lw Fm Fr Sm
/-! ### weights -/
def grE : Ex → Int
  | .whole n => (if n < 0 then -n else n) + 1
  | .px => 1200000
  | .pz => 1200000
  | .noise _ _ => 65535
  | .two w a b => match w with
    | .times => min (grE a * grE b) 1000000000000000000000000000001
    | _ => grE a + grE b
  | .over a _ => grE a
  | .bel a b c d => [grE a, grE b, grE c, grE d].sum
  | .shift _ _ a => grE a
theorem sum4 (a b c d : Int) : [a, b, c, d].sum = a + b + c + d := by simp; omega
theorem gr_bnd : ∀ e : Ex, OkE e → 0 ≤ grE e ∧ grE e ≤ (cn e : Int) * 1000000000000000000000000000001
  | .whole n, h => by
    have h1 : -999999999 ≤ n := h.1
    have h2 : n ≤ 999999999 := h.2
    simp only [grE, cn]
    split <;> omega
  | .px, _ => by simp only [grE, cn]; omega
  | .pz, _ => by simp only [grE, cn]; omega
  | .noise _ _, _ => by simp only [grE, cn]; omega
  | .two w a b, h => by
    have ha := gr_bnd a h.1
    have hb := gr_bnd b h.2
    have hp := Int.mul_nonneg ha.1 hb.1
    have e1 : ((cn (.two w a b) : Nat) : Int) = 1 + ((cn a : Int) + (cn b : Int)) := by simp only [cn]; omega
    rw [e1]
    cases w <;> simp only [grE] <;> omega
  | .over a _, h => by
    have ha := gr_bnd a h.1
    simp only [grE, cn]
    omega
  | .bel a b c d, h => by
    have ha := gr_bnd a h.1
    have hb := gr_bnd b h.2.1
    have hc := gr_bnd c h.2.2.1
    have hd := gr_bnd d h.2.2.2
    simp only [grE, cn, sum4]
    omega
  | .shift _ _ a, h => by
    have ha := gr_bnd a h.2.2
    simp only [grE, cn]
    omega
theorem gr_mul {a b : Ex} (ha : OkE a) (hb : OkE b) (la : cn a ≤ 1000000000000000000000000000000) (lb : cn b ≤ 1000000000000000000000000000000) : L2.CMulW (grE a) (grE b) := by
  have h1 := gr_bnd a ha
  have h2 := gr_bnd b hb
  have e : (2 : Nat) ^ 210 = 1645504557321206042154969182557350504982735865633579863348609024 := by decide
  refine L2.wide_mul (a := 210) (b := 210) ?_ ?_ (by decide) (by decide) (by decide)
  · rw [e]; omega
  · rw [e]; omega
/-- what is let stays small, whether it is asked for or not -/
def Cok : Fd → Fm.Env → Prop
  | .two _ a b, r => Cok a r ∧ Cok b r
  | .over a _, r => Cok a r
  | .bel a b c d, r => Cok a r ∧ Cok b r ∧ Cok c r ∧ Cok d r
  | .shift _ _ a, r => Cok a r
  | .lt x a b, r => cn (expand a r) ≤ 1000000000000000000000000000000 ∧ Cok a r ∧ Cok b ((x, expand a r) :: r)
  | _, _ => True
theorem cok_of : ∀ (F : Fd) (d : Nat) (r : Fm.Env) (c : Nat), dep F ≤ d → (∀ x, cn (look r x) ≤ max 1 c) → Cd d c ≤ 1000000000000000000000000000000 → Cok F r := by
  have base : ∀ (d c : Nat), 1 ≤ Cd d c ∧ max 1 c ≤ Cd d c := by
    intro d
    induction d with
    | zero => intro c; simp only [Cd]; omega
    | succ d ih =>
      intro c
      have h1 := ih (max c (Cd d c))
      simp only [Cd]
      omega
  have step : ∀ (d c : Nat), 1 + 4 * Cd d c ≤ Cd (d + 1) c := by
    intro d c
    have h1 := Cd_mono (d := d) (show c ≤ max c (Cd d c) by omega)
    simp only [Cd]
    omega
  intro F
  induction F with
  | whole n => exact fun _ _ _ _ _ _ => True.intro
  | px => exact fun _ _ _ _ _ _ => True.intro
  | pz => exact fun _ _ _ _ _ _ => True.intro
  | noise a l => exact fun _ _ _ _ _ _ => True.intro
  | nm x => exact fun _ _ _ _ _ _ => True.intro
  | two w a b iha ihb =>
    intro d r c h N hC
    have h' : 1 + max (dep a) (dep b) ≤ d := h
    obtain ⟨d, rfl⟩ : ∃ d', d = d' + 1 := ⟨d - 1, by omega⟩
    have st := step d c
    exact ⟨iha d r c (by omega) N (by omega), ihb d r c (by omega) N (by omega)⟩
  | over a n iha =>
    intro d r c h N hC
    have h' : 1 + dep a ≤ d := h
    obtain ⟨d, rfl⟩ : ∃ d', d = d' + 1 := ⟨d - 1, by omega⟩
    have st := step d c
    exact iha d r c (by omega) N (by omega)
  | bel a b e f iha ihb ihc ihe =>
    intro d r c h N hC
    have h' : 1 + max (max (dep a) (dep b)) (max (dep e) (dep f)) ≤ d := h
    obtain ⟨d, rfl⟩ : ∃ d', d = d' + 1 := ⟨d - 1, by omega⟩
    have st := step d c
    exact ⟨iha d r c (by omega) N (by omega), ihb d r c (by omega) N (by omega), ihc d r c (by omega) N (by omega), ihe d r c (by omega) N (by omega)⟩
  | shift dx dz a iha =>
    intro d r c h N hC
    have h' : 1 + dep a ≤ d := h
    obtain ⟨d, rfl⟩ : ∃ d', d = d' + 1 := ⟨d - 1, by omega⟩
    have st := step d c
    exact iha d r c (by omega) N (by omega)
  | lt x a b iha ihb =>
    intro d r c h N hC
    have h' : 1 + max (dep a) (dep b) ≤ d := h
    obtain ⟨d, rfl⟩ : ∃ d', d = d' + 1 := ⟨d - 1, by omega⟩
    have st := step d c
    have ha := cn_le a d r c (by omega) N
    have bs := base d (max c (Cd d c))
    have eC : Cd (d + 1) c = 1 + 4 * Cd d (max c (Cd d c)) := rfl
    refine ⟨by omega, iha d r c (by omega) N (by omega), ihb d ((x, expand a r) :: r) (max c (Cd d c)) (by omega) (fun y => ?_) (by omega)⟩
    have := N y
    unfold look
    split <;> omega
/-- at d what each name's field weighs -/
def WEnv (K : PySem.W.Frag) (H : Hp) (d : Addr) (r : Fm.Env) : Prop := ∃ kvs : List (Key × V), H d = some (.dK kvs) ∧ kvs.length ≤ r.length ∧ ∀ x, x ∈ r.map (·.1) → ∃ t, valV kvs (Sum.inr x : Key) = some (.ref t) ∧ SqT K H t [.int (cn (look r x) : Nat), .int (grE (look r x))]
theorem same_sqT {K : PySem.W.Frag} {H H' : Hp} {p : Addr} {xs : List V} (s : Same H H') (h : SqT K H p xs) : SqT K H' p xs := by
  rcases h with (h | ⟨o, h⟩) | h
  · exact .inl (.inl (s _ _ h))
  · exact .inl (.inr ⟨o, s _ _ h⟩)
  · exact .inr h
theorem WEnv.mono {K : PySem.W.Frag} {H H' : Hp} {d : Addr} {r : Fm.Env} (s : Same H H') : WEnv K H d r → WEnv K H' d r := fun ⟨kvs, h, l, q⟩ => ⟨kvs, s _ _ h, l, fun x hx => by
  obtain ⟨t, a1, a2⟩ := q x hx
  exact ⟨t, a1, same_sqT s a2⟩⟩
theorem WEnv.let_ {K : PySem.W.Frag} {H H' : Hp} {d p t : Addr} {r : Fm.Env} {kvs : List (Key × V)} {x : Str} {e : Ex} (E : WEnv K H d r) (hd : H d = some (.dK kvs)) (s : Same H H') (hp : H' p = some (.dK (putK kvs (Sum.inr x : Key) (.ref t))))
    (ht : SqT K H' t [.int (cn e : Nat), .int (grE e)]) : WEnv K H' p ((x, e) :: r) := by
  obtain ⟨k0, h0, l, q⟩ := E
  have ek : k0 = kvs := by rw [hd] at h0; cases h0; rfl
  subst ek
  refine ⟨_, hp, ?_, fun y hy => ?_⟩
  · have := length_putK k0 (Sum.inr x : Key) (V.ref t)
    simp only [List.length_cons]
    omega
  · by_cases e1 : y = x
    · subst e1
      refine ⟨t, by rw [valV_put, if_pos rfl], ?_⟩
      simpa [look] using ht
    · have hy' : y ∈ r.map (·.1) := by
        simp only [List.map_cons, List.mem_cons] at hy
        exact hy.resolve_left e1
      obtain ⟨t', a1, a2⟩ := q y hy'
      refine ⟨t', ?_, ?_⟩
      · rw [valV_put, if_neg (fun z => e1 (Sum.inr.inj z))]; exact a1
      · have e2 : look ((x, e) :: r) y = look r y := by simp [look, e1]
        rw [e2]
        exact same_sqT s a2
/-! ### steps in the heap -/
def stepK : Stp → List Key
  | .whole n => [.inr "whole", .inl n]
  | .px d => [.inr "x", .inl d]
  | .pz d => [.inr "z", .inl d]
  | .noise s l dx dz => [.inr "noise", .inl s, .inl l, .inl dx, .inl dz]
  | .two w i j => [.inr w.word, .inl (i : Int), .inl (j : Int)]
  | .over i n => [.inr "over", .inl (i : Int), .inl n]
  | .bel a b c d => [.inr "below", .inl (a : Int), .inl (b : Int), .inl (c : Int), .inl (d : Int)]
def stepV : Stp → List V
  | .whole n => [.str "whole", .int n]
  | .px d => [.str "x", .int d]
  | .pz d => [.str "z", .int d]
  | .noise s l dx dz => [.str "noise", .int s, .int l, .int dx, .int dz]
  | .two w i j => [.str w.word, .int (i : Int), .int (j : Int)]
  | .over i n => [.str "over", .int (i : Int), .int n]
  | .bel a b c d => [.str "below", .int (a : Int), .int (b : Int), .int (c : Int), .int (d : Int)]
theorem stepV_eq (s : Stp) : stepV s = (stepK s).map kV := by cases s <;> rfl
theorem word_inj {w v : W2} (h : w.word = v.word) : w = v := by
  cases w <;> cases v <;> first | rfl | (exact absurd h (by decide +kernel))
theorem w2_ne (w : W2) : w.word ≠ "over" ∧ w.word ≠ "whole" ∧ w.word ≠ "x" ∧ w.word ≠ "z" ∧ w.word ≠ "noise" ∧ w.word ≠ "below" := by
  cases w <;> exact ⟨by decide +kernel, by decide +kernel, by decide +kernel, by decide +kernel, by decide +kernel, by decide +kernel⟩
theorem stepK_inj {s t : Stp} (h : stepK s = stepK t) : s = t := by
  cases s <;> cases t <;> simp only [stepK, List.cons.injEq, Sum.inr.injEq, Sum.inl.injEq, and_true, Int.natCast_inj, reduceCtorEq, and_false] at h
  case whole.whole => rw [h.2]
  case px.px => rw [h.2]
  case pz.pz => rw [h.2]
  case noise.noise => rw [h.2.1, h.2.2.1, h.2.2.2.1, h.2.2.2.2]
  case two.two w i j v k l => rw [word_inj h.1, h.2.1, h.2.2]
  case two.over w i j k n => exact absurd h.1 (w2_ne w).1
  case over.two k n w i j => exact absurd h.1.symm (w2_ne w).1
  case over.over => rw [h.2.1, h.2.2]
  case bel.bel => rw [h.2.1, h.2.2.1, h.2.2.2.1, h.2.2.2.2]
  all_goals first | exact absurd h.1 (by decide +kernel) | exact h.elim
/-- the steps made so far, each with its number -/
def mkKV (st : List Stp) : List (List Key × V) := st.zipIdx.map fun q => (stepK q.1, V.int (q.2 : Int))
theorem mkKV_len (st : List Stp) : (mkKV st).length = st.length := by simp [mkKV]
theorem mkKV_snoc (st : List Stp) (s : Stp) : mkKV (st ++ [s]) = mkKV st ++ [(stepK s, V.int (st.length : Int))] := by
  simp [mkKV, List.zipIdx_append]
theorem valV_mk (s : Stp) : ∀ (st : List Stp) (n : Nat), valV (st.zipIdx n |>.map fun q => (stepK q.1, V.int (q.2 : Int))) (stepK s) = if s ∈ st then some (V.int ((n + st.idxOf s : Nat) : Int)) else none
  | [], _ => rfl
  | t :: r, n => by
    rw [List.zipIdx_cons, List.map_cons]
    by_cases e : t = s
    · subst e
      rw [valV_pos rfl, if_pos List.mem_cons_self, List.idxOf_cons_self, Nat.add_zero]
    · rw [valV_neg (fun h => e (stepK_inj h)), valV_mk s r (n + 1)]
      have e2 : (t == s) = false := by simpa using e
      by_cases m : s ∈ r
      · rw [if_pos m, if_pos (List.mem_cons_of_mem _ m), List.idxOf_cons, e2]
        have : n + 1 + List.idxOf s r = n + (List.idxOf s r + 1) := by omega
        rw [this]
        rfl
      · rw [if_neg m, if_neg]
        intro h
        rcases List.mem_cons.mp h with h | h
        · exact e h.symm
        · exact m h
theorem mk_get (st : List Stp) (s : Stp) : valV (mkKV st) (stepK s) = if s ∈ st then some (V.int ((st.idxOf s : Nat) : Int)) else none := by
  have := valV_mk s st 0
  simpa [mkKV] using this
theorem putK_new {κ : Type} [DecidableEq κ] {kvs : List (κ × V)} {k : κ} {v : V} (h : valV kvs k = none) : putK kvs k v = kvs ++ [(k, v)] := by
  unfold putK
  rw [valV_any, h]
  rfl
/-- what setdefault does with a step -/
theorem mk_put {st : List Stp} {s : Stp} {P : V → List (List Key × V) → Prop} (h : P (V.int ((put st s).2 : Int)) (mkKV (put st s).1)) :
    (∀ v, valV (mkKV st) (stepK s) = some v → P v (mkKV st)) ∧ (valV (mkKV st) (stepK s) = none → P (V.int (st.length : Int)) (putK (mkKV st) (stepK s) (V.int (st.length : Int)))) := by
  rw [mk_get]
  unfold put at h
  by_cases m : s ∈ st
  · rw [if_pos m] at h
    rw [if_pos m]
    exact ⟨fun v e => by rw [← Option.some.inj e]; exact h, fun e => nomatch e⟩
  · rw [if_neg m] at h
    rw [if_neg m]
    refine ⟨fun v e => (nomatch e), fun _ => ?_⟩
    rw [putK_new (by rw [mk_get, if_neg m]), ← mkKV_snoc]
    exact h
/-- a list of steps -/
abbrev StepsR (H : Hp) : List V → List Stp → Prop := Paired fun v s => ∃ p, v = V.ref p ∧ H p = some (.tup (stepV s))
theorem StepsR.mono {H H' : Hp} (t : Tup H H') : ∀ {vs : List V} {st : List Stp}, StepsR H vs st → StepsR H' vs st
  | _, _, .nil => .nil
  | _, _, .cons ⟨p, e, h⟩ r => .cons ⟨p, e, t _ _ h⟩ (StepsR.mono t r)
theorem steps_at {H : Hp} : ∀ {vs : List V} {st : List Stp} {i : Nat} {y : V}, StepsR H vs st → vs[i]? = some y → ∃ s, st[i]? = some s ∧ ∃ p, y = V.ref p ∧ H p = some (.tup (stepV s))
  | _, _, _, _, .nil, h => by simp at h
  | _, _, 0, y, .cons (b := b) a _, h => by
    simp at h
    subst h
    exact ⟨b, rfl, a⟩
  | _, _, i + 1, y, .cons _ t, h => by
    obtain ⟨s, h1, h2⟩ := steps_at (i := i) (y := y) t (by simpa using h)
    exact ⟨s, by simpa using h1, h2⟩
theorem StepsR.append {H : Hp} : ∀ {vs ws : List V} {st tt : List Stp}, StepsR H vs st → StepsR H ws tt → StepsR H (vs ++ ws) (st ++ tt)
  | _, _, _, _, .nil, h => h
  | _, _, _, _, .cons a t, h => .cons a (StepsR.append t h)
theorem steps_of_keys {H : Hp} : ∀ {st : List Stp} {n : Nat} {bs : List Addr}, IsKeys H (st.zipIdx n |>.map fun q => (stepK q.1, V.int (q.2 : Int))) bs → StepsR H (bs.map V.ref) st
  | [], _, bs, h => by
    cases bs with
    | nil => exact .nil
    | cons b r => cases h
  | s :: st, n, bs, h => by
    rw [List.zipIdx_cons, List.map_cons] at h
    cases h with
    | @cons a b l m h t =>
      refine .cons ⟨b, rfl, ?_⟩ (steps_of_keys (n := n + 1) t)
      rw [stepV_eq]
      exact h
end Pf


/-! Rules over the hand layer: {**d, k: v}; d.setdefault of a dict whose keys are tuples. -/
namespace Dz
open PySem PySem.Spec PyProof.Rows L2
section
variable {X : Cx} {pins : List (Addr × Obj)} {σ : L2.St} {H : Hp} {s : Shared} {a b : Addr} {u r : Value} {d : V} {A : Around} {E : Value → Shared → Prop}
theorem d_setdT {kvs : List (List Key × V)} {k : List Key} {Q : Value → Shared → Prop} (hu : A.units + 1 < cLine) (I : Inv X pins σ H s) (e : H a = some (.dT kvs)) (eb : H b = some (.tup (k.map kV))) (rd : RelV d r) (hl : kvs.length < sizeLine)
    (h1 : ∀ v, valV kvs k = some v → ∀ (w' : Value) (s' : Shared), Inv X pins σ H s' → RelV v w' → Q w' s') (h2 : valV kvs k = none → ∀ (w' : Value) (s' : Shared), Inv X pins σ (upd H a (.dT (putK kvs k d))) s' → RelV d w' → Q w' s') :
    wpAny (model X.prog X.w) A (call (.builtin "dict.setdefault") [.ref a, .ref b, r]) Q E s := by
  obtain ⟨z, hd, xs, rel, dd⟩ := dt_of I.hok e
  have hz : xs.length ≤ sizeLine := by
    rw [← Paired.length rel]
    exact z
  refine call_meetsIn PySem.F.slot_dict_setdefault dd.typeIs PySem.F.entry_dict_setdefault (PySem.F.args_dict_setdefault_3 _ _ _) (meetsH_dict_setdefault (tupleKind (mixKind X.prog X.w)) a b hd r) ⟨tupleKind_room_in1 hu, k, xs, key_of I.hok eb, dd, hz, fun p hp => ?_, fun hn h' dd' hs => ?_⟩
  · have q := rel.val k
    rw [hp] at q
    cases q0 : valV kvs k with
    | none =>
      rw [q0] at q
      exact (show False from q).elim
    | some v0 =>
      rw [q0] at q
      exact h1 v0 q0 _ _ (I.tok _) q
  · have q := rel.val k
    rw [hn] at q
    cases q0 : valV kvs k with
    | some v0 =>
      rw [q0] at q
      exact (show False from q).elim
    | none =>
      have hl2 : (putK kvs k d).length ≤ sizeLine := by
        have := length_putK kvs k d
        omega
      obtain ⟨q, es, ep, hq, e2, e3, e4, _, e5⟩ := dd'
      refine h2 q0 _ _ (d_write I (by rw [e]; exact True.intro) hs ⟨q, hq⟩ ⟨hl2, hd, _, (rel.put k eb rd).keeps fun c ys ec => ?_, q, es, ep, hq, e2, e3, e4, e5⟩) rd
      rw [upd_ne (ne_of ec e (fun z => nomatch z))]
      exact ec
end
/-- d.setdefault(y, z), the keys tuples -/
def tDSetdT (td ty tx : TE) : TE := fun σ H Q => td σ H fun x H1 => ∃ a, x = .ref a ∧ IsD H1 a ∧ ty σ H1 fun y H2 => tx σ H2 fun z H3 => ∃ (kvs : List (List Key × V)) (k : List Key) (b : Addr), H3 a = some (.dT kvs) ∧ y = .ref b ∧ H3 b = some (.tup (k.map kV)) ∧ kvs.length < sizeLine ∧
  (∀ v, valV kvs k = some v → Q v H3) ∧ (valV kvs k = none → Q z (upd H3 a (.dT (putK kvs k z))))
section
variable {X : Cx} {o e f : Expr} {td ty tx : TE} {apos cpos : Pos}
theorem pe_dsetdT (hu : X.A.units + 1 < cLine) (ho : PE X o td) (he : PE X e ty) (hf : PE X f tx) (m : M2 X o "setdefault" apos e f cpos) : PE X (.Call (.Attribute o "setdefault" apos) [e, f] [] cpos) (tDSetdT td ty tx) := by
  refine ⟨fun pins s σ H Q I h => ?_⟩
  refine wpAny_Call_method m.base m.few m.line PySem.F.plainAttrs_dict PySem.F.slot_dict_setdefault PySem.F.type_dict_setdefault (thn (ho.run pins s σ H _ I h) fun u s1 ⟨x, H1, I1, rx, a, ex, d, q1⟩ => ?_)
  subst ex
  obtain rfl : u = Value.ref a := rx
  obtain ⟨t1, t2, _⟩ := isD_at I1 d
  refine ⟨t1, t2, ?_⟩
  rw [m.trees]
  refine Calls.callWith_builtin rfl (Calls.evalArgs_plain (Calls.spliced_cons (thn (he.run pins s1 σ H1 _ I1 q1) fun iv s2 ⟨y, H2, I2, ry, q2⟩ =>
    Calls.spliced_cons (thn (hf.run pins s2 σ H2 _ I2 q2) fun fv s3 ⟨z, H3, I3, rz, kvs, k, b, ea, ey, eb, hl, q3, q4⟩ => Calls.spliced_nil ?_))))
  subst ey
  obtain rfl : iv = Value.ref b := ry
  exact d_setdT hu I3 ea eb rz hl (fun v hv w' s4 I4 rw' => ⟨v, _, I4, rw', q3 v hv⟩) fun hn w' s4 I4 rw' => ⟨z, _, I4, rw', q4 hn⟩
end
/-- {**m, k: v}, the keys ints and texts -/
def tDispS (tm tk tv : TE) : TE := fun σ H Q => ∀ p, H p = none → tm σ (upd H p (.dK [])) fun x H1 => ∃ a kvs, x = .ref a ∧ a ≠ p ∧ H1 p = some (.dK []) ∧ H1 a = some (.dK kvs) ∧ kvs.length < sizeLine ∧
  ∀ p2, upd H1 p (.dK kvs) p2 = none → tk σ (upd (upd H1 p (.dK kvs)) p2 (.dK [])) fun y H2 => tv σ H2 fun v H3 => ∃ key : Key, y = kV key ∧ H3 p = some (.dK kvs) ∧ H3 p2 = some (.dK []) ∧ Q (.ref p) (upd (upd H3 p2 (.dK [(key, v)])) p (.dK (putK kvs key v)))
section
variable {X : Cx} {m k v : Expr} {tm tk tv : TE} {pos : Pos}
theorem pe_dispS (hm : PE X m tm) (hk : PE X k tk) (hv : PE X v tv) : PE X (.Dict [none, some k] [m, v] pos) (tDispS tm tk tv) := by
  refine ⟨fun pins s σ H Q I q => ?_⟩
  rw [arm_eval_Dict]
  refine wpAny_bind (wpAny_standAt ?_)
  have hn := I.hok.fresh (Nat.le_refl s.heap.objs.size)
  have I1 := I.laid (a := s.heap.objs.size) (o := .dK []) (h' := s.heap.push { cls := .type "dict", data := .dict #[] }) (t' := s.toks) (fun _ _ q => Heap.get?_push_of_some _ q) (Nat.le_refl _) (dk_empty s.heap I.big)
  show wpAny _ _ (dictDisplay [(none, do let x ← eval m X.env; standAt pos; pure x), (some (eval k X.env), do let x ← eval v X.env; standAt pos; pure x)]) _ _ s
  refine Dm.wpAny_displayStar (knd := mixKind X.prog X.w) (wpAny_bind (thn (hm.run pins _ σ _ _ I1 (q _ hn)) fun mv s1 ⟨x, H1, I2, rx, a, kvs, ex, hap, hp, ha, hl, q1⟩ => wpAny_bind (wpAny_standAt (wpAny_pure ?_))))
  subst ex
  obtain rfl : mv = Value.ref a := rx
  obtain ⟨z, hd, vs, rel, dd⟩ := dk_of I2.hok ha
  obtain ⟨z0, hd0, vs0, r0, dd0⟩ := dk_of I2.hok hp
  cases r0
  have hlv : vs.length < sizeLine := by rw [← rel.length]; exact hl
  refine ⟨a, vs, rfl, hap.symm, hd, dd0, dd, hlv, fun h1 dd1 hs1 => ?_⟩
  have he1 : ∃ q, h1.get? s.heap.objs.size = some q := let ⟨q, _, _, hq, _⟩ := dd1; ⟨q, hq⟩
  have I3 := d_write (t' := s1.toks) I2 (by rw [hp]; exact True.intro) hs1 he1 (dk_new z hd0 rel dd1)
  have hn2 := I3.hok.fresh (Nat.le_refl _)
  have I4 := I3.laid (a := h1.objs.size) (o := .dK []) (h' := h1.push { cls := .type "dict", data := .dict #[] }) (t' := s1.toks) (fun _ _ q => Heap.get?_push_of_some _ q) (Nat.le_refl _) (dk_empty h1 I3.big)
  refine evalPairs_cons (thn (hk.run pins _ σ _ _ I4 (q1 _ hn2)) fun kv s2 ⟨y, H2, I5, ry, q2⟩ => wpAny_bind (thn (hv.run pins s2 σ H2 _ I5 q2) fun vv s3 ⟨x2, H3, I6, rv, key, ey, hp3, hp4, q3⟩ => wpAny_bind (wpAny_standAt (wpAny_pure (evalPairs_nil ?_)))))
  subst ey
  obtain ⟨z5, hd5, vs5, r5, dd5⟩ := dk_of I6.hok hp3
  obtain ⟨z6, hd6, vs6, r6, dd6⟩ := dk_of I6.hok hp4
  cases r6
  have ne12 : h1.objs.size ≠ s.heap.objs.size := fun e => by
    rw [e, upd_same] at hn2
    cases hn2
  have hz5 : vs5.length < sizeLine := by rw [← r5.length]; exact hl
  refine ⟨key, vv, vs5, hz5, ⟨kV_is ry, rfl, True.intro⟩, ne12, hd6, dd6, dd5, fun h2 dd7 hs2 h3 dd8 dd9 hs3 => ?_⟩
  have he2 : ∃ q, h2.get? h1.objs.size = some q := let ⟨q, _, _, hq, _⟩ := dd7; ⟨q, hq⟩
  have r7 : KV [(key, x2)] [(key, vv)] := .cons ⟨rfl, rv⟩ .nil
  have I7 := d_write (t' := s3.toks + 1) I6 (by rw [hp4]; exact True.intro) hs2 he2 (dk_new (by rw [sizeLine_eq]; simp only [List.length_cons, List.length_nil]; omega) hd6 r7 dd7)
  have he3 : ∃ q, h3.get? s.heap.objs.size = some q := let ⟨q, _, _, hq, _⟩ := dd8; ⟨q, hq⟩
  have hl2 : (putK kvs key x2).length ≤ sizeLine := by
    have := length_putK kvs key x2
    omega
  have I8 := d_write (t' := s3.toks + 1) I7 (by rw [upd_ne ne12.symm, hp3]; exact True.intro) hs3 he3 (dk_new hl2 hd5 (r5.put key rv) dd8)
  exact ⟨.ref s.heap.objs.size, _, I8, rfl, q3⟩
end
end Dz

/-! min, max of a tuple of ints. -/
namespace Dz
open PySem PySem.Spec PyProof.Rows L2
section
variable {prog : Program} {w : World} {A : Around} {E : Value → Shared → Prop} {s : Shared} {l : Addr} {xs : Array (Int × Tok)}
theorem old_keptT {h' : Heap} {o : Obj} (hk : ∀ b u, b ∉ [s.heap.objs.size] → (s.heap.push o).get? b = some u → h'.get? b = some u) :
    ∀ b u, s.heap.get? b = some u → h'.get? b = some u := fun b u e => by
  refine hk b u (fun hm => ?_) (Heap.get?_push_of_some _ e)
  rcases List.mem_cons.mp hm with e1 | hm
  · exact absurd (e1 ▸ Heap.lt_size e) (Nat.lt_irrefl _)
  · cases hm
theorem max_intTuple {Q : Value → Shared → Prop} (hh : A.handled = none) (hl : s.heap.IsTuple l (intItems xs)) (hne : 0 < xs.size)
    (h : ∀ v h' tk, (intItems xs)[argBest (fun i j => decide (numAt xs i > numAt xs j)) (xs.size - 1)]? = some v → (∀ b o, s.heap.get? b = some o → h'.get? b = some o) → Q v { s with heap := h', toks := tk }) :
    wpAny (model prog w) A (call (.builtin "max") [.ref l]) Q E s := by
  have hlt : l < s.heap.objs.size := by obtain ⟨_, e, _⟩ := hl; exact Heap.lt_size e
  refine call_max_walk (wpAny_pyIter_tuple hl ?_)
  refine ⟨_, [_, l], [_], _, _, _, _, rfl, Walks.tuple (A := A.in1) hh _ l (Nat.ne_of_lt hlt) (intItems xs), ⟨⟨_, Heap.get?_push_size _ rfl, rfl, rfl⟩, hl.push _⟩, fun c hc => ?_, by simpa [intItems] using hne, CmpOf.ints_gt (numAt xs) (fun _ _ => intItems_at), fun v h' tk hP hk => ?_⟩
  · show c < (s.heap.push _).objs.size
    rw [Heap.size_push]
    rcases List.mem_cons.mp hc with rfl | hc
    · exact Nat.lt_succ_self _
    · rcases List.mem_cons.mp hc with rfl | hc
      · exact Nat.lt_succ_of_lt hlt
      · cases hc
  · exact h v h' tk (by simpa [intItems] using hP) (old_keptT hk)
theorem min_intTuple {Q : Value → Shared → Prop} (hh : A.handled = none) (hl : s.heap.IsTuple l (intItems xs)) (hne : 0 < xs.size)
    (h : ∀ v h' tk, (intItems xs)[argBest (fun i j => decide (numAt xs i < numAt xs j)) (xs.size - 1)]? = some v → (∀ b o, s.heap.get? b = some o → h'.get? b = some o) → Q v { s with heap := h', toks := tk }) :
    wpAny (model prog w) A (call (.builtin "min") [.ref l]) Q E s := by
  have hlt : l < s.heap.objs.size := by obtain ⟨_, e, _⟩ := hl; exact Heap.lt_size e
  refine call_min_walk (wpAny_pyIter_tuple hl ?_)
  refine ⟨_, [_, l], [_], _, _, _, _, rfl, Walks.tuple (A := A.in1) hh _ l (Nat.ne_of_lt hlt) (intItems xs), ⟨⟨_, Heap.get?_push_size _ rfl, rfl, rfl⟩, hl.push _⟩, fun c hc => ?_, by simpa [intItems] using hne, CmpOf.ints_lt (numAt xs) (fun _ _ => intItems_at), fun v h' tk hP hk => ?_⟩
  · show c < (s.heap.push _).objs.size
    rw [Heap.size_push]
    rcases List.mem_cons.mp hc with rfl | hc
    · exact Nat.lt_succ_self _
    · rcases List.mem_cons.mp hc with rfl | hc
      · exact Nat.lt_succ_of_lt hlt
      · cases hc
  · exact h v h' tk (by simpa [intItems] using hP) (old_keptT hk)
end
section
variable {X : Cx}
def rMaxT (K : PySem.W.Frag) : List V → Hp → VK → Prop := fun vs H Q => ∃ (a : Addr) (ns : List Int), vs = [V.ref a] ∧ SqT K H a (ns.map V.int) ∧ 0 < ns.length ∧ ∀ m, m ∈ ns → (∀ y, y ∈ ns → y ≤ m) → Q (.int m) H
def rMinT (K : PySem.W.Frag) : List V → Hp → VK → Prop := fun vs H Q => ∃ (a : Addr) (ns : List Int), vs = [V.ref a] ∧ SqT K H a (ns.map V.int) ∧ 0 < ns.length ∧ ∀ m, m ∈ ns → (∀ y, y ∈ ns → m ≤ y) → Q (.int m) H
theorem cr_maxT (hc : X.calm = true) : CallR X (.builtin "max") (rMaxT X.K) := by
  intro pins s σ H vs us Q I r h
  obtain ⟨a, ns, rfl, hs, hne, q⟩ := h
  obtain ⟨its, rv, hl, _⟩ := I.tuple hs
  rw [Vals.ref1 r]
  obtain ⟨xs, e⟩ := rv.ints.allInts.items
  have hn : numsOf (intItems xs).toList = ns := by rw [← e]; exact rv.ints.numsOf
  rw [nums_intItems] at hn
  subst hn
  rw [e] at hl
  have hsz : 0 < xs.size := by simpa using hne
  refine max_intTuple (I.ok.hd hc) hl hsz fun v h' tk hv hk => ?_
  obtain ⟨t, rfl⟩ := intItems_at hv
  obtain ⟨h1, h2⟩ := argBest_gt (numAt xs) (xs.size - 1)
  refine ⟨.int _, H, I.kept hk, ⟨_, rfl⟩, q _ ?_ fun a ha => ?_⟩
  · rw [numAt_eq]; exact PySem.getD_mem (by rw [List.length_map, Array.length_toList]; omega)
  · obtain ⟨j, hj, rfl⟩ := mem_getD ha
    rw [List.length_map, Array.length_toList] at hj
    rw [← numAt_eq]; exact h2 j (by omega)
theorem cr_minT (hc : X.calm = true) : CallR X (.builtin "min") (rMinT X.K) := by
  intro pins s σ H vs us Q I r h
  obtain ⟨a, ns, rfl, hs, hne, q⟩ := h
  obtain ⟨its, rv, hl, _⟩ := I.tuple hs
  rw [Vals.ref1 r]
  obtain ⟨xs, e⟩ := rv.ints.allInts.items
  have hn : numsOf (intItems xs).toList = ns := by rw [← e]; exact rv.ints.numsOf
  rw [nums_intItems] at hn
  subst hn
  rw [e] at hl
  have hsz : 0 < xs.size := by simpa using hne
  refine min_intTuple (I.ok.hd hc) hl hsz fun v h' tk hv hk => ?_
  obtain ⟨t, rfl⟩ := intItems_at hv
  obtain ⟨h1, h2⟩ := argBest_lt (numAt xs) (xs.size - 1)
  refine ⟨.int _, H, I.kept hk, ⟨_, rfl⟩, q _ ?_ fun a ha => ?_⟩
  · rw [numAt_eq]; exact PySem.getD_mem (by rw [List.length_map, Array.length_toList]; omega)
  · obtain ⟨j, hj, rfl⟩ := mem_getD ha
    rw [List.length_map, Array.length_toList] at hj
    rw [← numAt_eq]; exact h2 j (by omega)
end
end Dz

/-! Nests of lets: how deep their expansions are, no products, names called otherwise. -/
namespace Fm
open PySem
/-- an expansion is no deeper than a walk along the names -/
theorem dep_emb : ∀ (F : Fd) (xs : List Str) (r : Env) (δ : List (Str × Nat)), Bnd F xs → (∀ x ∈ xs, dep (emb (look r x)) + 1 ≤ (δ.lookup x).getD 0) → dep (emb (expand F r)) + 1 ≤ udep F δ
  | .whole _, _, _, _, _, _ => by simp only [expand, emb, dep, udep]; omega
  | .px, _, _, _, _, _ => by simp only [expand, emb, dep, udep]; omega
  | .pz, _, _, _, _, _ => by simp only [expand, emb, dep, udep]; omega
  | .noise _ _, _, _, _, _, _ => by simp only [expand, emb, dep, udep]; omega
  | .two _ a b, xs, r, δ, h, e => by
    have h1 := dep_emb a xs r δ h.1 e
    have h2 := dep_emb b xs r δ h.2 e
    simp only [expand, emb, dep, udep]; omega
  | .over a _, xs, r, δ, h, e => by
    have h1 := dep_emb a xs r δ h e
    simp only [expand, emb, dep, udep]; omega
  | .bel a b c d, xs, r, δ, h, e => by
    have h1 := dep_emb a xs r δ h.1 e
    have h2 := dep_emb b xs r δ h.2.1 e
    have h3 := dep_emb c xs r δ h.2.2.1 e
    have h4 := dep_emb d xs r δ h.2.2.2 e
    simp only [expand, emb, dep, udep]; omega
  | .shift _ _ a, xs, r, δ, h, e => by
    have h1 := dep_emb a xs r δ h e
    simp only [expand, emb, dep, udep]; omega
  | .lt x a b, xs, r, δ, h, e => by
    have h1 := dep_emb a xs r δ h.1 e
    have h2 := dep_emb b (x :: xs) ((x, expand a r) :: r) ((x, udep a δ) :: δ) h.2 fun y hy => by
      by_cases c : y = x
      · subst c
        simp [look, List.lookup]; omega
      · have hb : (y == x) = false := by simpa using c
        simp only [look, if_neg c, List.lookup, hb]
        exact e y (by rcases List.mem_cons.mp hy with h | h; exact absurd h c; exact h)
    simp only [expand, udep]; omega
  | .nm x, xs, r, δ, h, e => by
    have h1 := e x h
    simp only [expand, udep]; omega
theorem sh_emb : ∀ e : Ex, sh e ≤ dep (emb e) ∧ dpE e ≤ dep (emb e)
  | .whole _ => by simp only [sh, dpE, emb, dep]; omega
  | .px => by simp only [sh, dpE, emb, dep]; omega
  | .pz => by simp only [sh, dpE, emb, dep]; omega
  | .noise _ _ => by simp only [sh, dpE, emb, dep]; omega
  | .two _ a b => by have := sh_emb a; have := sh_emb b; simp only [sh, dpE, emb, dep]; omega
  | .over a _ => by have := sh_emb a; simp only [sh, dpE, emb, dep]; omega
  | .bel a b c d => by have := sh_emb a; have := sh_emb b; have := sh_emb c; have := sh_emb d; simp only [sh, dpE, emb, dep]; omega
  | .shift _ _ a => by have := sh_emb a; simp only [sh, dpE, emb, dep]; omega
theorem udep_emb : ∀ (e : Ex) (δ : List (Str × Nat)), udep (emb e) δ = dep (emb e) + 1
  | .whole _, _ => rfl
  | .px, _ => rfl
  | .pz, _ => rfl
  | .noise _ _, _ => rfl
  | .two _ a b, δ => by have := udep_emb a δ; have := udep_emb b δ; simp only [emb, dep, udep]; omega
  | .over a _, δ => by have := udep_emb a δ; simp only [emb, dep, udep]; omega
  | .bel a b c d, δ => by have := udep_emb a δ; have := udep_emb b δ; have := udep_emb c δ; have := udep_emb d δ; simp only [emb, dep, udep]; omega
  | .shift _ _ a, δ => by have := udep_emb a δ; simp only [emb, dep, udep]; omega
theorem cok_emb : ∀ (e : Ex) (r : Env), Pf.Cok (emb e) r
  | .whole _, _ => True.intro
  | .px, _ => True.intro
  | .pz, _ => True.intro
  | .noise _ _, _ => True.intro
  | .two _ a b, r => ⟨cok_emb a r, cok_emb b r⟩
  | .over a _, r => cok_emb a r
  | .bel a b c d, r => ⟨cok_emb a r, cok_emb b r, cok_emb c r, cok_emb d r⟩
  | .shift _ _ a, r => cok_emb a r
/-- without products -/
def noTF : Fd → Prop
  | .two w a b => w ≠ .times ∧ noTF a ∧ noTF b
  | .over a _ => noTF a
  | .bel a b c d => noTF a ∧ noTF b ∧ noTF c ∧ noTF d
  | .shift _ _ a => noTF a
  | .lt _ a b => noTF a ∧ noTF b
  | _ => True
theorem noT_expand : ∀ (F : Fd) (r : Env), noTF F → (∀ x, noT (look r x)) → noT (expand F r)
  | .whole _, _, _, _ => True.intro
  | .px, _, _, _ => True.intro
  | .pz, _, _, _ => True.intro
  | .noise _ _, _, _, _ => True.intro
  | .two _ a b, r, h, e => ⟨h.1, noT_expand a r h.2.1 e, noT_expand b r h.2.2 e⟩
  | .over a _, r, h, e => noT_expand a r h e
  | .bel a b c d, r, h, e => ⟨noT_expand a r h.1 e, noT_expand b r h.2.1 e, noT_expand c r h.2.2.1 e, noT_expand d r h.2.2.2 e⟩
  | .shift _ _ a, r, h, e => noT_expand a r h e
  | .lt x a b, r, h, e => noT_expand b _ h.2 fun y => by
    unfold look
    split
    · exact noT_expand a r h.1 e
    · exact e y
  | .nm x, r, _, e => e x
/-- all ranges of a field within its own bits -/
theorem allE_bits {N : NR} (hN : NOk N) : ∀ (e : Ex) (x0 z0 x1 z1 : Int) (k : Nat), OkE e → 34 ≤ k → B2 (x0, x1) k → B2 (z0, z1) k → ∀ p ∈ allE N e x0 z0 x1 z1, B2 p (vb e k)
  | .whole n, x0, z0, x1, z1, k, ok, hk, hx, hz => fun p hp => by rw [List.mem_singleton.mp hp]; exact range_bits hN (.whole n) x0 z0 x1 z1 k ok hk hx hz
  | .px, x0, z0, x1, z1, k, ok, hk, hx, hz => fun p hp => by rw [List.mem_singleton.mp hp]; exact range_bits hN .px x0 z0 x1 z1 k ok hk hx hz
  | .pz, x0, z0, x1, z1, k, ok, hk, hx, hz => fun p hp => by rw [List.mem_singleton.mp hp]; exact range_bits hN .pz x0 z0 x1 z1 k ok hk hx hz
  | .noise s l, x0, z0, x1, z1, k, ok, hk, hx, hz => fun p hp => by rw [List.mem_singleton.mp hp]; exact range_bits hN (.noise s l) x0 z0 x1 z1 k ok hk hx hz
  | .two w a b, x0, z0, x1, z1, k, ok, hk, hx, hz => fun p hp => by
    have hv := vb_two w a b k
    simp only [allE, List.mem_cons, List.mem_append] at hp
    rcases hp with rfl | hp | hp
    · exact range_bits hN (.two w a b) x0 z0 x1 z1 k ok hk hx hz
    · exact (allE_bits hN a x0 z0 x1 z1 k ok.1 hk hx hz p hp).mono hv.1
    · exact (allE_bits hN b x0 z0 x1 z1 k ok.2 hk hx hz p hp).mono hv.2
  | .over a n, x0, z0, x1, z1, k, ok, hk, hx, hz => fun p hp => by
    simp only [allE, List.mem_cons] at hp
    rcases hp with rfl | hp
    · exact range_bits hN (.over a n) x0 z0 x1 z1 k ok hk hx hz
    · exact allE_bits hN a x0 z0 x1 z1 k ok.1 hk hx hz p hp
  | .bel a b c d, x0, z0, x1, z1, k, ok, hk, hx, hz => fun p hp => by
    simp only [allE, List.mem_cons, List.mem_append] at hp
    rcases hp with rfl | hp | hp | hp | hp
    · exact range_bits hN (.bel a b c d) x0 z0 x1 z1 k ok hk hx hz
    · exact (allE_bits hN a x0 z0 x1 z1 k ok.1 hk hx hz p hp).mono (by simp only [vb]; omega)
    · exact (allE_bits hN b x0 z0 x1 z1 k ok.2.1 hk hx hz p hp).mono (by simp only [vb]; omega)
    · exact (allE_bits hN c x0 z0 x1 z1 k ok.2.2.1 hk hx hz p hp).mono (by simp only [vb]; omega)
    · exact (allE_bits hN d x0 z0 x1 z1 k ok.2.2.2 hk hx hz p hp).mono (by simp only [vb]; omega)
  | .shift dx dz a, x0, z0, x1, z1, k, ok, hk, hx, hz => fun p hp => by
    simp only [allE, List.mem_cons] at hp
    rcases hp with rfl | hp
    · exact range_bits hN (.shift dx dz a) x0 z0 x1 z1 k ok hk hx hz
    · exact allE_bits hN a _ _ _ _ (k + 1) ok.2.2 (by omega) ⟨shift_bits ok.1 hk hx.1, shift_bits ok.1 hk hx.2⟩ ⟨shift_bits ok.2.1 hk hz.1, shift_bits ok.2.1 hk hz.2⟩ p hp
/-- lets within one another are no more than the field is deep -/
theorem lets_dep : ∀ F : Fd, lets F ≤ dep F
  | .whole _ => Nat.le_refl 0
  | .px => Nat.le_refl 0
  | .pz => Nat.le_refl 0
  | .noise _ _ => Nat.le_refl 0
  | .nm _ => Nat.le_refl 0
  | .two _ a b => by have := lets_dep a; have := lets_dep b; simp only [lets, dep]; omega
  | .over a _ => by have := lets_dep a; simp only [lets, dep]; omega
  | .bel a b c d => by have := lets_dep a; have := lets_dep b; have := lets_dep c; have := lets_dep d; simp only [lets, dep]; omega
  | .shift _ _ a => by have := lets_dep a; simp only [lets, dep]; omega
  | .lt _ a b => by have := lets_dep a; have := lets_dep b; simp only [lets, dep]; omega
/-- what is called otherwise is as deep, within its bounds, bound -/
theorem call_ok (fresh : Nat → Str) (M : Nat) (nok : ∀ j, j < M → NameOk (fresh j)) : ∀ (F : Fd) (xs ys : List Str) (ν : List (Str × Str)) (k : Nat), k + lets F ≤ M → Bnd F xs → OkF F →
    (∀ x ∈ xs, ∃ j, j < k ∧ nu ν x = fresh j) → (∀ x ∈ xs, nu ν x ∈ ys) → OkF (call fresh F ν k) ∧ Bnd (call fresh F ν k) ys ∧ dep (call fresh F ν k) = dep F ∧ (noTF F → noTF (call fresh F ν k)) := by
  intro F
  induction F with
  | whole n => exact fun _ _ _ _ _ _ h _ _ => ⟨h, True.intro, rfl, fun _ => True.intro⟩
  | px => exact fun _ _ _ _ _ _ h _ _ => ⟨h, True.intro, rfl, fun _ => True.intro⟩
  | pz => exact fun _ _ _ _ _ _ h _ _ => ⟨h, True.intro, rfl, fun _ => True.intro⟩
  | noise s l => exact fun _ _ _ _ _ _ h _ _ => ⟨h, True.intro, rfl, fun _ => True.intro⟩
  | two w a b iha ihb =>
    intro xs ys ν k hk h o f g
    simp only [lets] at hk
    obtain ⟨a1, a2, a3, a4⟩ := iha xs ys ν k (by omega) h.1 o.1 f g
    obtain ⟨b1, b2, b3, b4⟩ := ihb xs ys ν k (by omega) h.2 o.2 f g
    exact ⟨⟨a1, b1⟩, ⟨a2, b2⟩, by simp only [call, dep, a3, b3], fun n => ⟨n.1, a4 n.2.1, b4 n.2.2⟩⟩
  | over a n iha =>
    intro xs ys ν k hk h o f g
    simp only [lets] at hk
    obtain ⟨a1, a2, a3, a4⟩ := iha xs ys ν k (by omega) h o.1 f g
    exact ⟨⟨a1, o.2⟩, a2, by simp only [call, dep, a3], fun n => a4 n⟩
  | bel a b c d iha ihb ihc ihd =>
    intro xs ys ν k hk h o f g
    simp only [lets] at hk
    obtain ⟨a1, a2, a3, a4⟩ := iha xs ys ν k (by omega) h.1 o.1 f g
    obtain ⟨b1, b2, b3, b4⟩ := ihb xs ys ν k (by omega) h.2.1 o.2.1 f g
    obtain ⟨c1, c2, c3, c4⟩ := ihc xs ys ν k (by omega) h.2.2.1 o.2.2.1 f g
    obtain ⟨d1, d2, d3, d4⟩ := ihd xs ys ν k (by omega) h.2.2.2 o.2.2.2 f g
    exact ⟨⟨a1, b1, c1, d1⟩, ⟨a2, b2, c2, d2⟩, by simp only [call, dep, a3, b3, c3, d3], fun n => ⟨a4 n.1, b4 n.2.1, c4 n.2.2.1, d4 n.2.2.2⟩⟩
  | shift dx dz a iha =>
    intro xs ys ν k hk h o f g
    simp only [lets] at hk
    obtain ⟨a1, a2, a3, a4⟩ := iha xs ys ν k (by omega) h o.2.2 f g
    exact ⟨⟨o.1, o.2.1, a1⟩, a2, by simp only [call, dep, a3], fun n => a4 n⟩
  | lt x a b iha ihb =>
    intro xs ys ν k hk h o f g
    simp only [lets] at hk
    obtain ⟨a1, a2, a3, a4⟩ := iha xs ys ν k (by omega) h.1 o.2.1 f g
    obtain ⟨b1, b2, b3, b4⟩ := ihb (x :: xs) (fresh k :: ys) ((x, fresh k) :: ν) (k + 1) (by omega) h.2 o.2.2 (fun y hy => by
      by_cases c : y = x
      · exact ⟨k, by omega, by simp only [nu, c, if_true]⟩
      · have hy' : y ∈ xs := by rcases List.mem_cons.mp hy with h | h; exact absurd h c; exact h
        obtain ⟨j, hj, ej⟩ := f y hy'
        exact ⟨j, by omega, by simp only [nu, if_neg c]; exact ej⟩) (fun y hy => by
      by_cases c : y = x
      · simp only [nu, c, if_true]; exact List.mem_cons_self
      · have hy' : y ∈ xs := by rcases List.mem_cons.mp hy with h | h; exact absurd h c; exact h
        simp only [nu, if_neg c]
        exact List.mem_cons_of_mem _ (g y hy'))
    exact ⟨⟨nok k (by omega), a1, b1⟩, ⟨a2, b2⟩, by simp only [call, dep, a3, b3], fun n => ⟨a4 n.1, b4 n.2⟩⟩
  | nm x =>
    intro xs ys ν k hk h o f g
    obtain ⟨j, hj, e⟩ := f x h
    exact ⟨by show NameOk (nu ν x); rw [e]; exact nok j (by omega), g x h, rfl, fun _ => True.intro⟩
end Fm

/-! Noise as the program reckons it; the values of steps. -/
namespace Pf
open PySem L2 Lw Fm Fr Sm
theorem cmul_mod {a m b : Int} (h : 0 < m) (h2 : m ≤ 18446744073709551616) : L2.CMul (a % m) b := Or.inl ⟨by have := Int.emod_nonneg a (show m ≠ 0 by omega); omega, by have := Int.emod_lt_of_pos a h; omega⟩
theorem cmul_nn {a b m : Int} (h0 : 0 ≤ a) (h1 : a < m) (h2 : m ≤ 18446744073709551616) : L2.CMul a b := Or.inl ⟨by omega, by omega⟩
theorem kb_0 (a i : Int) : (a * a + 69621 * i + 1) % 2147483629 = kB a i := rfl
theorem kb_1 (a i : Int) : (a * a + 69621 * i + 1 + 69621) % 2147483629 = kB a (i + 1) := by
  unfold kB
  congr 1
  omega
theorem kc_0 (b j : Int) : (b * b + (16807 * j + 1)) % 2147483587 = kC b j := by
  unfold kC
  congr 1
  omega
theorem kc_1 (b j : Int) : (b * b + (16807 * j + 1) + 16807) % 2147483587 = kC b (j + 1) := by
  unfold kC
  congr 1
  omega
/-- four knots, as they come of one another -/
def fourRaw (g s i j : Int) : List V :=
  let a := (g + 48271 * s + 7) % 2147483647
  let b := (a * a + 69621 * i + 1) % 2147483629
  let c := (a * a + 69621 * i + 1 + 69621) % 2147483629
  let t := 16807 * j + 1
  let k1 := (b * b + t) % 2147483587
  let k3 := (b * b + t + 16807) % 2147483587
  let k2 := (c * c + t) % 2147483587
  let k4 := (c * c + t + 16807) % 2147483587
  [.int ((k1 * k1 + k1) % 2147483579 % 65536), .int ((k2 * k2 + k2) % 2147483579 % 65536), .int ((k3 * k3 + k3) % 2147483579 % 65536), .int ((k4 * k4 + k4) % 2147483579 % 65536)]
abbrev fourV (g s i j : Int) : List V := [.int (knotL g s i j), .int (knotL g s (i + 1) j), .int (knotL g s i (j + 1)), .int (knotL g s (i + 1) (j + 1))]
theorem four_eq (g s i j : Int) : fourRaw g s i j = fourV g s i j := by
  unfold fourRaw
  simp only [kb_0, kb_1, kc_0, kc_1]
  rfl
theorem noise_of {g s x z S : Int} {k : Nat} (hS : (2 : Int) ^ k = S) (S0 : 0 < S) : noiseL g s k x z = ((S - z % S) * ((S - x % S) * knotL g s (x / S) (z / S) + x % S * knotL g s (x / S + 1) (z / S)) + z % S * ((S - x % S) * knotL g s (x / S) (z / S + 1) + x % S * knotL g s (x / S + 1) (z / S + 1))) / (S * S) := by
  have ex : ∀ y : Int, (y - y % S) / S = y / S := fun y => by
    have h := Int.mul_ediv_add_emod y S
    have e : y - y % S = S * (y / S) := by omega
    rw [e, Int.mul_ediv_cancel_left _ (by omega)]
  unfold noiseL
  rw [Int.toNat_natCast, hS]
  simp only [ex]
  congr 1
  simp only [Int.mul_add, Int.mul_assoc, Int.mul_comm, Int.mul_left_comm, Int.add_assoc]
theorem noise_knot {g s x z S : Int} {k : Nat} (hS : (2 : Int) ^ k = S) (S0 : 0 < S) (hx : x % S = 0) (hz : z % S = 0) : noiseL g s k x z = knotL g s (x / S) (z / S) := by
  rw [noise_of hS S0, hx, hz]
  simp only [Int.sub_zero, Int.zero_mul, Int.add_zero]
  rw [← Int.mul_assoc, Int.mul_ediv_cancel_left]
  exact Int.ne_of_gt (Int.mul_pos S0 S0)
theorem shift_eq {a S : Int} {k : Nat} (hS : (2 : Int) ^ k = S) : a / 2 ^ (k + k) = a / (S * S) := by
  rw [Int.pow_add, hS]
/-! ### sizes of steps' values -/
/-- the numbers of a step lie within their bounds -/
def OkS : Stp → Prop
  | .noise _ l _ _ => 0 ≤ l ∧ l ≤ 8
  | .over _ n => 1 ≤ n ∧ n ≤ 1000000000
  | _ => True
def OkSs (st : List Stp) : Prop := ∀ s ∈ st, OkS s
theorem okS_put {st : List Stp} {s : Stp} (h : OkSs st) (hs : OkS s) : OkSs (put st s).1 := by
  unfold put
  split
  · exact h
  · intro t ht
    rcases List.mem_append.mp ht with ht | ht
    · exact h t ht
    · rw [List.mem_singleton.mp ht]; exact hs
theorem okS_into : ∀ (e : Ex) (dx dz : Int) (st : List Stp), OkE e → OkSs st → OkSs (into e dx dz st).1
  | .whole _, _, _, _, _, h => okS_put h True.intro
  | .px, _, _, _, _, h => okS_put h True.intro
  | .pz, _, _, _, _, h => okS_put h True.intro
  | .noise _ _, _, _, _, o, h => okS_put h o.2
  | .two _ a b, dx, dz, st, o, h => okS_put (okS_into b dx dz _ o.2 (okS_into a dx dz st o.1 h)) True.intro
  | .over a _, dx, dz, st, o, h => okS_put (okS_into a dx dz st o.1 h) o.2
  | .bel a b c d, dx, dz, st, o, h => okS_put (okS_into d dx dz _ o.2.2.2 (okS_into c dx dz _ o.2.2.1 (okS_into b dx dz _ o.2.1 (okS_into a dx dz st o.1 h)))) True.intro
  | .shift ex ez a, dx, dz, st, o, h => okS_into a (dx + ex) (dz + ez) st o.2.2 h
/-- all values are less than B bits long -/
def Szd (g x z : Int) (B : Nat) (st : List Stp) : Prop := ∀ i, i < st.length → (((valA g x z).run st).getD i 0).natAbs < 2 ^ B
theorem szd_nil (g x z : Int) (B : Nat) : Szd g x z B [] := fun i h => absurd h (Nat.not_lt_zero i)
theorem szd_put {g x z : Int} {B : Nat} {st : List Stp} {s : Stp} (h : Szd g x z B st) (hv : (((valA g x z).run (put st s).1).getD (put st s).2 0).natAbs < 2 ^ B) : Szd g x z B (put st s).1 := by
  have P := put_ok st s
  intro i hi
  by_cases l : i < st.length
  · show (((valA g x z).run (put st s).1).getD i (valA g x z).dflt).natAbs < 2 ^ B
    rw [run_get (valA g x z) P.pre l]
    exact h i l
  · have e : i = (put st s).2 := by
      unfold put at hi ⊢
      split at hi
      · exact absurd hi l
      · rename_i m
        rw [if_neg m]
        rw [List.length_append] at hi
        simp only [List.length_cons, List.length_nil] at hi
        show i = st.length
        omega
    rw [e]
    exact hv
theorem szd_into : ∀ (e : Ex) (g x z dx dz : Int) (k B : Nat) (st : List Stp), OkE e → Ok st → 34 ≤ k → (x + dx).natAbs < 2 ^ k → (z + dz).natAbs < 2 ^ k → vb e k ≤ B → Szd g x z B st → Szd g x z B (into e dx dz st).1 := by
  have leaf : ∀ (e : Ex) (s : Stp) (g x z dx dz : Int) (k B : Nat) (st : List Stp), into e dx dz st = put st s → OkE e → Ok st → 34 ≤ k → (x + dx).natAbs < 2 ^ k → (z + dz).natAbs < 2 ^ k → vb e k ≤ B → Szd g x z B st → Szd g x z B (into e dx dz st).1 := by
    intro e s g x z dx dz k B st he o ok hk hx hz hv h
    have iv := (into_ok e dx dz st).val ok (valA g x z)
    have b := lt_pow_of (val_bits e g (x + dx) (z + dz) k o hk hx hz) hv
    rw [fold_val] at iv
    rw [he] at iv ⊢
    refine szd_put h ?_
    show (((valA g x z).run (put st s).1).getD (put st s).2 (valA g x z).dflt).natAbs < 2 ^ B
    rw [iv]
    exact b
  have whole : ∀ (e : Ex) (s : Stp) (st' : List Stp) (g x z dx dz : Int) (k B : Nat) (st : List Stp), into e dx dz st = put st' s → OkE e → Ok st → 34 ≤ k → (x + dx).natAbs < 2 ^ k → (z + dz).natAbs < 2 ^ k → vb e k ≤ B → Szd g x z B st' → Szd g x z B (into e dx dz st).1 := by
    intro e s st' g x z dx dz k B st he o ok hk hx hz hv h
    have iv := (into_ok e dx dz st).val ok (valA g x z)
    have b := lt_pow_of (val_bits e g (x + dx) (z + dz) k o hk hx hz) hv
    rw [fold_val] at iv
    rw [he] at iv ⊢
    refine szd_put h ?_
    show (((valA g x z).run (put st' s).1).getD (put st' s).2 (valA g x z).dflt).natAbs < 2 ^ B
    rw [iv]
    exact b
  intro e
  induction e with
  | whole n => exact fun g x z dx dz k B st => leaf (.whole n) (.whole n) g x z dx dz k B st rfl
  | px => exact fun g x z dx dz k B st => leaf .px (.px dx) g x z dx dz k B st rfl
  | pz => exact fun g x z dx dz k B st => leaf .pz (.pz dz) g x z dx dz k B st rfl
  | noise s l => exact fun g x z dx dz k B st => leaf (.noise s l) (.noise s l dx dz) g x z dx dz k B st rfl
  | two w a b iha ihb =>
    intro g x z dx dz k B st o ok hk hx hz hv h
    have v2 := vb_two w a b k
    have ha := iha g x z dx dz k B st o.1 ok hk hx hz (by omega) h
    have hb := ihb g x z dx dz k B _ o.2 ((into_ok a dx dz st).ok ok) hk hx hz (by omega) ha
    exact whole (.two w a b) _ _ g x z dx dz k B st rfl o ok hk hx hz hv hb
  | over a n iha =>
    intro g x z dx dz k B st o ok hk hx hz hv h
    have ha := iha g x z dx dz k B st o.1 ok hk hx hz hv h
    exact whole (.over a n) _ _ g x z dx dz k B st rfl o ok hk hx hz hv ha
  | bel a b c d iha ihb ihc ihd =>
    intro g x z dx dz k B st o ok hk hx hz hv h
    have hv' : max (max (vb a k) (vb b k)) (max (vb c k) (vb d k)) ≤ B := hv
    have oa := (into_ok a dx dz st).ok ok
    have ob := (into_ok b dx dz _).ok oa
    have oc := (into_ok c dx dz _).ok ob
    have ha := iha g x z dx dz k B st o.1 ok hk hx hz (by omega) h
    have hb := ihb g x z dx dz k B _ o.2.1 oa hk hx hz (by omega) ha
    have hc := ihc g x z dx dz k B _ o.2.2.1 ob hk hx hz (by omega) hb
    have hd := ihd g x z dx dz k B _ o.2.2.2 oc hk hx hz (by omega) hc
    exact whole (.bel a b c d) _ _ g x z dx dz k B st rfl o ok hk hx hz hv hd
  | shift ex ez a iha =>
    intro g x z dx dz k B st o ok hk hx hz hv h
    refine iha g x z (dx + ex) (dz + ez) (k + 1) B st o.2.2 ok (by omega) ?_ ?_ hv h
    · rw [← Int.add_assoc]; exact shift_bits o.1 hk hx
    · rw [← Int.add_assoc]; exact shift_bits o.2.1 hk hz
theorem cut1T {w : V} {xs : List V} : cutV (w :: xs) (some 1) none = xs := by
  unfold cutV
  rw [show HT.sIx (w :: xs).length 0 (some 1) = min 1 (w :: xs).length from HT.sIx_nat (w :: xs).length 0 1, HT.sIx_none]
  rw [show min 1 (w :: xs).length = 1 by rw [List.length_cons]; omega]
  show List.take ((w :: xs).length - 1) xs = xs
  rw [List.length_cons, Nat.add_sub_cancel]
  exact List.take_length
theorem cut1T_ok {w : V} {xs : List V} : ¬ (HT.sIx (w :: xs).length 0 (some 1) = 0 ∧ HT.sIx (w :: xs).length (w :: xs).length none = (w :: xs).length) := by
  rw [show HT.sIx (w :: xs).length 0 (some 1) = min 1 (w :: xs).length from HT.sIx_nat (w :: xs).length 0 1]
  rw [List.length_cons]
  omega
theorem g_yes {σ : L2.St} {H : Hp} {Q : Bool → Hp → Prop} (q : Q true H) : tYes σ H Q := q
theorem g_din {σ : L2.St} {H : Hp} {Q : VK} {ty td : TE} (q : ty σ H fun y H1 => td σ H1 fun x H2 => ∃ a o, x = .ref a ∧ DGet H2 a y o ∧ Q (.bl o.isSome) H2) : tDIn ty td σ H Q := q
theorem keepT_tup {mk : Addr} {H H' : Hp} {kvs : List (List Key × V)} (k : Keep mk H H') (h : H mk = some (.dT kvs)) : Tup H H' := fun a xs e => k a _ (ne_of e h (by intro z; cases z)) e
theorem envR_keep {mk : Addr} {H H' : Hp} {kv : List (List Key × V)} (k : Keep mk H H') (h : H mk = some (.dT kv)) : ∀ {n : Nat} {d : Addr} {r : Fm.Env} {δ : List (Str × Nat)}, EnvR n H d r δ → EnvR n H' d r δ
  | 0, _, _, _, ⟨e, q⟩ => ⟨k _ _ (ne_of e h (by intro z; cases z)) e, q⟩
  | n + 1, _, _, _, ⟨kvs, e, l, q⟩ => ⟨kvs, k _ _ (ne_of e h (by intro z; cases z)) e, l, fun x hx => by
    obtain ⟨t, u, d', F, r', δ', a1, a2, a3, a4, a5⟩ := q x hx
    exact ⟨t, u, d', F, r', δ', a1, k _ _ (ne_of a2 h (by intro z; cases z)) a2, a3.mono (keepT_tup k h), envR_keep k h a4, a5⟩⟩
theorem g_star {K : PySem.W.Frag} {σ : L2.St} {H : Hp} {te : TE} {t : TA} {Q : List V → Hp → Prop} (q : te σ H fun x H1 => ∃ p xs, x = V.ref p ∧ (SqT K H1 p xs ∨ SqL K H1 p xs) ∧ t σ H1 fun ys H2 => Q (xs ++ ys) H2) : StX.tStar K te t σ H Q := q
theorem g_lstT {K : PySem.W.Frag} {σ : L2.St} {H : Hp} {p : Addr} {xs : List V} {t : TGs} {Q : L2.St → Hp → Prop} {m : Nat} (h : SqL K H p xs) (hl : xs.length = m) (q : t xs σ H Q) : gLst K m t (.ref p) σ H Q := ⟨p, xs, rfl, h, hl, q⟩
theorem mn4_of {a b c d m : Int} (h : m ∈ [a, b, c, d]) (l : ∀ y, y ∈ [a, b, c, d] → m ≤ y) : m = mn4 a b c d := by
  have h1 := l a (by simp); have h2 := l b (by simp); have h3 := l c (by simp); have h4 := l d (by simp)
  simp only [List.mem_cons, List.not_mem_nil, or_false] at h
  unfold mn4
  omega
theorem mx4_of {a b c d m : Int} (h : m ∈ [a, b, c, d]) (l : ∀ y, y ∈ [a, b, c, d] → y ≤ m) : m = mx4 a b c d := by
  have h1 := l a (by simp); have h2 := l b (by simp); have h3 := l c (by simp); have h4 := l d (by simp)
  simp only [List.mem_cons, List.not_mem_nil, or_false] at h
  unfold mx4
  omega
theorem pr_at {H : Hp} : ∀ {vs : List V} {ps : List (Int × Int)} {j : Nat}, PairsR H vs ps → j < ps.length → ∃ p, vs[j]? = some (V.ref p) ∧ H p = some (.tup [.int (ps.getD j (0, 0)).1, .int (ps.getD j (0, 0)).2])
  | _, _, _, .nil, h => absurd h (Nat.not_lt_zero _)
  | _, _, 0, .cons (b := b) ⟨p, e, h⟩ _, _ => ⟨p, by rw [e]; rfl, h⟩
  | _, _, j + 1, .cons _ t, h => by
    obtain ⟨p, h1, h2⟩ := pr_at (j := j) t (by simpa using h)
    exact ⟨p, by simpa using h1, by simpa using h2⟩
theorem pairs_putL {H : Hp} {a : Addr} {ys : List V} {o : HO} (ha : H a = some (.lst ys)) : ∀ {vs : List V} {ps : List (Int × Int)}, PairsR H vs ps → PairsR (upd H a o) vs ps
  | _, _, .nil => .nil
  | _, _, .cons ⟨p, e, h⟩ t => .cons ⟨p, e, by rw [upd_ne (ne_of h ha (by intro z; cases z))]; exact h⟩ (pairs_putL ha t)
/-- all ranges of steps -/
def AllP (N : NR) (x0 z0 x1 z1 : Int) (P : Int × Int → Prop) (st : List Stp) : Prop := ∀ i, i < st.length → P (((rngA N x0 z0 x1 z1).run st).getD i (0, 0))
theorem allP_put {N : NR} {x0 z0 x1 z1 : Int} {P : Int × Int → Prop} {st : List Stp} {s : Stp} (h : AllP N x0 z0 x1 z1 P st) (hv : P (((rngA N x0 z0 x1 z1).run (put st s).1).getD (put st s).2 (0, 0))) : AllP N x0 z0 x1 z1 P (put st s).1 := by
  have Q := put_ok st s
  intro i hi
  by_cases l : i < st.length
  · show P (((rngA N x0 z0 x1 z1).run (put st s).1).getD i (rngA N x0 z0 x1 z1).dflt)
    rw [run_get (rngA N x0 z0 x1 z1) Q.pre l]
    exact h i l
  · have e : i = (put st s).2 := by
      unfold put at hi ⊢
      split at hi
      · exact absurd hi l
      · rename_i m
        rw [if_neg m]
        rw [List.length_append] at hi
        simp only [List.length_cons, List.length_nil] at hi
        show i = st.length
        omega
    rw [e]
    exact hv
theorem allE_head (N : NR) (e : Ex) (x0 z0 x1 z1 : Int) : rangeG N e x0 z0 x1 z1 ∈ allE N e x0 z0 x1 z1 := by
  cases e <;> simp [allE]
theorem all_into {N : NR} {P : Int × Int → Prop} : ∀ (e : Ex) (x0 z0 x1 z1 dx dz : Int) (st : List Stp), Ok st → (∀ p ∈ allE N e (x0 + dx) (z0 + dz) (x1 + dx) (z1 + dz), P p) → AllP N x0 z0 x1 z1 P st → AllP N x0 z0 x1 z1 P (into e dx dz st).1 := by
  have last : ∀ (e : Ex) (s : Stp) (st' : List Stp) (x0 z0 x1 z1 dx dz : Int) (st : List Stp), into e dx dz st = put st' s → Ok st → (∀ p ∈ allE N e (x0 + dx) (z0 + dz) (x1 + dx) (z1 + dz), P p) → AllP N x0 z0 x1 z1 P st' → AllP N x0 z0 x1 z1 P (into e dx dz st).1 := by
    intro e s st' x0 z0 x1 z1 dx dz st he ok hp h
    have iv := (into_ok e dx dz st).val ok (rngA N x0 z0 x1 z1)
    rw [fold_rng] at iv
    have b := hp _ (allE_head N e _ _ _ _)
    rw [he] at iv ⊢
    refine allP_put h ?_
    show P (((rngA N x0 z0 x1 z1).run (put st' s).1).getD (put st' s).2 (rngA N x0 z0 x1 z1).dflt)
    rw [iv]
    exact b
  intro e
  induction e with
  | whole n => exact fun x0 z0 x1 z1 dx dz st ok hp h => last (.whole n) (.whole n) st x0 z0 x1 z1 dx dz st rfl ok hp h
  | px => exact fun x0 z0 x1 z1 dx dz st ok hp h => last .px (.px dx) st x0 z0 x1 z1 dx dz st rfl ok hp h
  | pz => exact fun x0 z0 x1 z1 dx dz st ok hp h => last .pz (.pz dz) st x0 z0 x1 z1 dx dz st rfl ok hp h
  | noise s l => exact fun x0 z0 x1 z1 dx dz st ok hp h => last (.noise s l) (.noise s l dx dz) st x0 z0 x1 z1 dx dz st rfl ok hp h
  | two w a b iha ihb =>
    intro x0 z0 x1 z1 dx dz st ok hp h
    have ha := iha x0 z0 x1 z1 dx dz st ok (fun p hm => hp p (by simp [allE, hm])) h
    have hb := ihb x0 z0 x1 z1 dx dz _ ((into_ok a dx dz st).ok ok) (fun p hm => hp p (by simp [allE, hm])) ha
    exact last (.two w a b) _ _ x0 z0 x1 z1 dx dz st rfl ok hp hb
  | over a n iha =>
    intro x0 z0 x1 z1 dx dz st ok hp h
    have ha := iha x0 z0 x1 z1 dx dz st ok (fun p hm => hp p (by simp [allE, hm])) h
    exact last (.over a n) _ _ x0 z0 x1 z1 dx dz st rfl ok hp ha
  | bel a b c d iha ihb ihc ihd =>
    intro x0 z0 x1 z1 dx dz st ok hp h
    have oa := (into_ok a dx dz st).ok ok
    have ob := (into_ok b dx dz _).ok oa
    have oc := (into_ok c dx dz _).ok ob
    have ha := iha x0 z0 x1 z1 dx dz st ok (fun p hm => hp p (by simp [allE, hm])) h
    have hb := ihb x0 z0 x1 z1 dx dz _ oa (fun p hm => hp p (by simp [allE, hm])) ha
    have hc := ihc x0 z0 x1 z1 dx dz _ ob (fun p hm => hp p (by simp [allE, hm])) hb
    have hd := ihd x0 z0 x1 z1 dx dz _ oc (fun p hm => hp p (by simp [allE, hm])) hc
    exact last (.bel a b c d) _ _ x0 z0 x1 z1 dx dz st rfl ok hp hd
  | shift ex ez a iha =>
    intro x0 z0 x1 z1 dx dz st ok hp h
    refine iha x0 z0 x1 z1 (dx + ex) (dz + ez) st ok (fun p hm => hp p ?_) h
    simp only [allE, List.mem_cons]
    right
    simpa [Int.add_assoc] using hm
theorem all_bits {N : NR} (hN : NOk N) : ∀ (e : Ex) (x0 z0 x1 z1 : Int) (k : Nat), OkE e → 34 ≤ k → B2 (x0, x1) k → B2 (z0, z1) k → ∀ p ∈ allE N e x0 z0 x1 z1, B2 p (vb e k) := by
  intro e
  induction e with
  | two w a b iha ihb =>
    intro x0 z0 x1 z1 k h hk hx hz p hp
    have v2 := vb_two w a b k
    simp only [allE, List.mem_cons, List.mem_append] at hp
    rcases hp with rfl | hp | hp
    · exact range_bits hN (.two w a b) x0 z0 x1 z1 k h hk hx hz
    · exact (iha x0 z0 x1 z1 k h.1 hk hx hz p hp).mono v2.1
    · exact (ihb x0 z0 x1 z1 k h.2 hk hx hz p hp).mono v2.2
  | over a n iha =>
    intro x0 z0 x1 z1 k h hk hx hz p hp
    simp only [allE, List.mem_cons] at hp
    rcases hp with rfl | hp
    · exact range_bits hN (.over a n) x0 z0 x1 z1 k h hk hx hz
    · exact iha x0 z0 x1 z1 k h.1 hk hx hz p hp
  | bel a b c d iha ihb ihc ihd =>
    intro x0 z0 x1 z1 k h hk hx hz p hp
    have hv : vb (.bel a b c d) k = max (max (vb a k) (vb b k)) (max (vb c k) (vb d k)) := rfl
    simp only [allE, List.mem_cons, List.mem_append] at hp
    rcases hp with rfl | hp | hp | hp | hp
    · exact range_bits hN (.bel a b c d) x0 z0 x1 z1 k h hk hx hz
    · exact (iha x0 z0 x1 z1 k h.1 hk hx hz p hp).mono (by omega)
    · exact (ihb x0 z0 x1 z1 k h.2.1 hk hx hz p hp).mono (by omega)
    · exact (ihc x0 z0 x1 z1 k h.2.2.1 hk hx hz p hp).mono (by omega)
    · exact (ihd x0 z0 x1 z1 k h.2.2.2 hk hx hz p hp).mono (by omega)
  | shift ex ez a iha =>
    intro x0 z0 x1 z1 k h hk hx hz p hp
    simp only [allE, List.mem_cons] at hp
    rcases hp with rfl | hp
    · exact range_bits hN (.shift ex ez a) x0 z0 x1 z1 k h hk hx hz
    · exact iha (x0 + ex) (z0 + ez) (x1 + ex) (z1 + ez) (k + 1) h.2.2 (by omega) ⟨shift_bits h.1 hk hx.1, shift_bits h.1 hk hx.2⟩ ⟨shift_bits h.2.1 hk hz.1, shift_bits h.2.1 hk hz.2⟩ p hp
  | _ =>
    intro x0 z0 x1 z1 k h hk hx hz p hp
    simp only [allE, List.mem_singleton] at hp
    subst hp
    exact range_bits hN _ x0 z0 x1 z1 k h hk hx hz
/-- weights as pairs -/
abbrev WR (K : PySem.W.Frag) (H : Hp) : List V → List Ex → Prop := Paired fun v e => ∃ p, v = V.ref p ∧ SqT K H p [.int (cn e : Nat), .int (grE e)]
theorem sqT_putL {K : PySem.W.Frag} {H : Hp} {p a : Addr} {xs ys : List V} {o : HO} (h : SqT K H p xs) (ha : H a = some (.lst ys)) : SqT K (upd H a o) p xs := by
  rcases h with (h | ⟨o', h⟩) | h
  · exact .inl (.inl (by rw [upd_ne (ne_of h ha (by intro z; cases z))]; exact h))
  · exact .inl (.inr ⟨o', by rw [upd_ne (ne_of h ha (by intro z; cases z))]; exact h⟩)
  · exact .inr h
theorem WR.putL {K : PySem.W.Frag} {H : Hp} {a : Addr} {ys : List V} {o : HO} (ha : H a = some (.lst ys)) : ∀ {vs : List V} {es : List Ex}, WR K H vs es → WR K (upd H a o) vs es
  | _, _, .nil => .nil
  | _, _, .cons ⟨p, e, h⟩ t => .cons ⟨p, e, sqT_putL h ha⟩ (WR.putL ha t)
theorem WR.mono {K : PySem.W.Frag} {H H' : Hp} (s : Same H H') : ∀ {vs : List V} {es : List Ex}, WR K H vs es → WR K H' vs es
  | _, _, .nil => .nil
  | _, _, .cons ⟨p, e, h⟩ t => .cons ⟨p, e, same_sqT s h⟩ (WR.mono s t)
theorem WR.append {K : PySem.W.Frag} {H : Hp} : ∀ {vs ws : List V} {es fs : List Ex}, WR K H vs es → WR K H ws fs → WR K H (vs ++ ws) (es ++ fs)
  | _, _, _, _, .nil, h => h
  | _, _, _, _, .cons a t, h => .cons a (WR.append t h)
theorem wr_at {K : PySem.W.Frag} {H : Hp} : ∀ {vs : List V} {es : List Ex} {i : Nat} {y : V}, WR K H vs es → vs[i]? = some y → ∃ e, es[i]? = some e ∧ ∃ p, y = V.ref p ∧ SqT K H p [.int (cn e : Nat), .int (grE e)]
  | _, _, _, _, .nil, h => by simp at h
  | _, _, 0, y, .cons (b := b) a _, h => by
    simp at h
    subst h
    exact ⟨b, rfl, a⟩
  | _, _, i + 1, y, .cons _ t, h => by
    obtain ⟨s, h1, h2⟩ := wr_at (i := i) (y := y) t (by simpa using h)
    exact ⟨s, by simpa using h1, h2⟩
/-- what is left of a field when names and lets are gone through -/
def coreF : Fd → Prop
  | .lt _ _ _ => False
  | .nm _ => False
  | _ => True
def wordF : Fd → Str
  | .whole _ => "whole"
  | .px => "x"
  | .pz => "z"
  | .noise _ _ => "noise"
  | .two w _ _ => w.word
  | .over _ _ => "over"
  | .bel _ _ _ _ => "below"
  | .shift _ _ _ => "shift"
  | .lt _ _ _ => "let"
  | .nm _ => "name"
theorem frep_word {H : Hp} {v : V} : ∀ {F : Fd}, FRep F H v → ∃ p xs, v = .ref p ∧ H p = some (.tup (.str (wordF F) :: xs))
  | .whole _, ⟨p, e, h⟩ => ⟨p, _, e, h⟩
  | .px, ⟨p, e, h⟩ => ⟨p, _, e, h⟩
  | .pz, ⟨p, e, h⟩ => ⟨p, _, e, h⟩
  | .noise _ _, ⟨p, e, h⟩ => ⟨p, _, e, h⟩
  | .two _ _ _, ⟨p, _, _, e, h, _⟩ => ⟨p, _, e, h⟩
  | .over _ _, ⟨p, _, e, h, _⟩ => ⟨p, _, e, h⟩
  | .bel _ _ _ _, ⟨p, _, _, _, _, e, h, _⟩ => ⟨p, _, e, h⟩
  | .shift _ _ _, ⟨p, _, e, h, _⟩ => ⟨p, _, e, h⟩
  | .lt _ _ _, ⟨p, _, _, e, h, _⟩ => ⟨p, _, e, h⟩
  | .nm _, ⟨p, e, h⟩ => ⟨p, _, e, h⟩
end Pf

/-! Fields in the heap, made anew part by part. -/
namespace Fr
open PySem L2 Lw Fm
/-- a field with each of its own parts changed -/
def fmap (f : Fd → Fd) : Fd → Fd
  | .two w a b => .two w (f a) (f b)
  | .over a n => .over (f a) n
  | .bel a b c d => .bel (f a) (f b) (f c) (f d)
  | .shift dx dz a => .shift dx dz (f a)
  | F => F
/-- what a part has come to -/
def RB (f : Fd → Fd) (H : Hp) (v : V) (q : V × Option Fd) : Prop := match q.2 with
  | some A => FRep (f A) H v
  | none => v = q.1
theorem RB.mono {f : Fd → Fd} {H H' : Hp} (t : Tup H H') {v : V} {q : V × Option Fd} (h : RB f H v q) : RB f H' v q := by
  obtain ⟨u, o⟩ := q
  cases o with
  | some A => exact FRep.mono t (F := f A) h
  | none => exact h
theorem rbs_mono {f : Fd → Fd} {H H' : Hp} (t : Tup H H') : ∀ {vs : List V} {ps : List (V × Option Fd)}, Paired (RB f H) vs ps → Paired (RB f H') vs ps
  | _, _, .nil => .nil
  | _, _, .cons a r => .cons (a.mono t) (rbs_mono t r)
theorem rbs_snoc {f : Fd → Fd} {H : Hp} {v : V} {q : V × Option Fd} : ∀ {vs : List V} {ps : List (V × Option Fd)}, Paired (RB f H) vs ps → RB f H v q → Paired (RB f H) (vs ++ [v]) (ps ++ [q])
  | _, _, .nil, h => .cons h .nil
  | _, _, .cons a r, h => .cons a (rbs_snoc r h)
theorem tup_putL {H : Hp} {D : Addr} {xs : List V} {o : HO} (h : H D = some (.lst xs)) : Tup H (upd H D o) := fun a ys e => by
  rw [upd_ne (ne_of e h (by intro z; cases z))]
  exact e
def notLN : Fd → Prop
  | .lt _ _ _ => False
  | .nm _ => False
  | _ => True
/-- a direct part -/
structure SubB (A F : Fd) : Prop where
  bnd : ∀ l, Bnd F l → Bnd A l
  ud : ∀ δ, udep A δ + 1 ≤ udep F δ
  lets : lets A ≤ lets F
  dep : dep A + 1 ≤ dep F
structure PartsB (F : Fd) (H : Hp) (u : V) : Prop where
  ex : ∃ (p : Addr) (w : Str) (ps : List (V × Option Fd)), u = .ref p ∧ H p = some (.tup (.str w :: ps.map (·.1))) ∧ (∀ q ∈ ps, PartOk H q.1 q.2) ∧ ps.length ≤ 4 ∧ decide (w = "name") = false ∧ decide (w = "let") = false ∧ (∀ q ∈ ps, ∀ A, q.2 = some A → SubB A F) ∧
    ∀ (f : Fd → Fd) (H' : Hp) (ws : List V) (t : Addr), Paired (RB f H') ws ps → H' t = some (.tup (.str w :: ws)) → FRep (fmap f F) H' (.ref t)
theorem partsB {F : Fd} {H : Hp} {u : V} (h : FRep F H u) (hn : notLN F) : PartsB F H u := by
  cases F with
  | whole n =>
    obtain ⟨p, e, hp⟩ := h
    refine ⟨p, "whole", [(.int n, none)], e, hp, ?_, by simp, by decide +kernel, by decide +kernel, ?_, fun f H' ws t hw ht => ?_⟩
    · intro q hq; rw [List.mem_singleton.mp hq]; exact .inl ⟨n, rfl⟩
    · intro q hq A e; rw [List.mem_singleton.mp hq] at e; cases e
    · cases hw with
      | cons a r => cases r; cases a; exact ⟨t, rfl, ht⟩
  | px =>
    obtain ⟨p, e, hp⟩ := h
    refine ⟨p, "x", [], e, hp, fun q hq => (nomatch hq), by decide, by decide +kernel, by decide +kernel, fun q hq => (nomatch hq), fun f H' ws t hw ht => ?_⟩
    cases hw
    exact ⟨t, rfl, ht⟩
  | pz =>
    obtain ⟨p, e, hp⟩ := h
    refine ⟨p, "z", [], e, hp, fun q hq => (nomatch hq), by decide, by decide +kernel, by decide +kernel, fun q hq => (nomatch hq), fun f H' ws t hw ht => ?_⟩
    cases hw
    exact ⟨t, rfl, ht⟩
  | noise s l =>
    obtain ⟨p, e, hp⟩ := h
    refine ⟨p, "noise", [(.int s, none), (.int l, none)], e, hp, ?_, by simp, by decide +kernel, by decide +kernel, ?_, fun f H' ws t hw ht => ?_⟩
    · intro q hq
      simp only [List.mem_cons, List.not_mem_nil, or_false] at hq
      rcases hq with rfl | rfl
      · exact .inl ⟨s, rfl⟩
      · exact .inl ⟨l, rfl⟩
    · intro q hq A e
      simp only [List.mem_cons, List.not_mem_nil, or_false] at hq
      rcases hq with rfl | rfl <;> cases e
    · cases hw with
      | cons a r =>
        cases r with
        | cons b r =>
          cases r
          cases a
          cases b
          exact ⟨t, rfl, ht⟩
  | two w a b =>
    obtain ⟨p, u1, u2, e, hp, ha, hb⟩ := h
    refine ⟨p, w.word, [(u1, some a), (u2, some b)], e, hp, ?_, by simp, word_ne (by decide +kernel) w, word_ne (by decide +kernel) w, ?_, fun f H' ws t hw ht => ?_⟩
    · intro q hq
      simp only [List.mem_cons, List.not_mem_nil, or_false] at hq
      rcases hq with rfl | rfl
      · exact ha
      · exact hb
    · intro q hq A e
      simp only [List.mem_cons, List.not_mem_nil, or_false] at hq
      rcases hq with rfl | rfl <;> cases e
      · exact ⟨fun _ h => h.1, fun δ => by simp only [udep]; omega, by simp only [Fm.lets]; omega, by simp only [Fm.dep]; omega⟩
      · exact ⟨fun _ h => h.2, fun δ => by simp only [udep]; omega, by simp only [Fm.lets]; omega, by simp only [Fm.dep]; omega⟩
    · cases hw with
      | cons a r =>
        cases r with
        | cons b r =>
          cases r
          exact ⟨t, _, _, rfl, ht, a, b⟩
  | over a n =>
    obtain ⟨p, u1, e, hp, ha⟩ := h
    refine ⟨p, "over", [(u1, some a), (.int n, none)], e, hp, ?_, by simp, by decide +kernel, by decide +kernel, ?_, fun f H' ws t hw ht => ?_⟩
    · intro q hq
      simp only [List.mem_cons, List.not_mem_nil, or_false] at hq
      rcases hq with rfl | rfl
      · exact ha
      · exact .inl ⟨n, rfl⟩
    · intro q hq A e
      simp only [List.mem_cons, List.not_mem_nil, or_false] at hq
      rcases hq with rfl | rfl <;> cases e
      exact ⟨fun _ h => h, fun δ => by simp only [udep]; omega, by simp only [Fm.lets]; omega, by simp only [Fm.dep]; omega⟩
    · cases hw with
      | cons a r =>
        cases r with
        | cons b r =>
          cases r
          cases b
          exact ⟨t, _, rfl, ht, a⟩
  | bel a b c d =>
    obtain ⟨p, u1, u2, u3, u4, e, hp, ha, hb, hc, hd⟩ := h
    refine ⟨p, "below", [(u1, some a), (u2, some b), (u3, some c), (u4, some d)], e, hp, ?_, by simp, by decide +kernel, by decide +kernel, ?_, fun f H' ws t hw ht => ?_⟩
    · intro q hq
      simp only [List.mem_cons, List.not_mem_nil, or_false] at hq
      rcases hq with rfl | rfl | rfl | rfl
      · exact ha
      · exact hb
      · exact hc
      · exact hd
    · intro q hq A e
      simp only [List.mem_cons, List.not_mem_nil, or_false] at hq
      rcases hq with rfl | rfl | rfl | rfl <;> cases e
      · exact ⟨fun _ h => h.1, fun δ => by simp only [udep]; omega, by simp only [Fm.lets]; omega, by simp only [Fm.dep]; omega⟩
      · exact ⟨fun _ h => h.2.1, fun δ => by simp only [udep]; omega, by simp only [Fm.lets]; omega, by simp only [Fm.dep]; omega⟩
      · exact ⟨fun _ h => h.2.2.1, fun δ => by simp only [udep]; omega, by simp only [Fm.lets]; omega, by simp only [Fm.dep]; omega⟩
      · exact ⟨fun _ h => h.2.2.2, fun δ => by simp only [udep]; omega, by simp only [Fm.lets]; omega, by simp only [Fm.dep]; omega⟩
    · cases hw with
      | cons a r =>
        cases r with
        | cons b r =>
          cases r with
          | cons c r =>
            cases r with
            | cons d r =>
              cases r
              exact ⟨t, _, _, _, _, rfl, ht, a, b, c, d⟩
  | shift dx dz a =>
    obtain ⟨p, u1, e, hp, ha⟩ := h
    refine ⟨p, "shift", [(.int dx, none), (.int dz, none), (u1, some a)], e, hp, ?_, by simp, by decide +kernel, by decide +kernel, ?_, fun f H' ws t hw ht => ?_⟩
    · intro q hq
      simp only [List.mem_cons, List.not_mem_nil, or_false] at hq
      rcases hq with rfl | rfl | rfl
      · exact .inl ⟨dx, rfl⟩
      · exact .inl ⟨dz, rfl⟩
      · exact ha
    · intro q hq A e
      simp only [List.mem_cons, List.not_mem_nil, or_false] at hq
      rcases hq with rfl | rfl | rfl <;> cases e
      exact ⟨fun _ h => h, fun δ => by simp only [udep]; omega, by simp only [Fm.lets]; omega, by simp only [Fm.dep]; omega⟩
    · cases hw with
      | cons a r =>
        cases r with
        | cons b r =>
          cases r with
          | cons c r =>
            cases r
            cases a
            cases b
            exact ⟨t, _, rfl, ht, c⟩
  | lt x a b => exact hn.elim
  | nm x => exact hn.elim
theorem fmap_emb {F : Fd} (hn : notLN F) (r : Fm.Env) : fmap (fun A => emb (expand A r)) F = emb (expand F r) := by
  cases F <;> first | rfl | exact hn.elim
theorem fmap_call {F : Fd} (hn : notLN F) (fresh : Nat → Str) (ν : List (Str × Str)) (k : Nat) : fmap (fun A => call fresh A ν k) F = call fresh F ν k := by
  cases F <;> first | rfl | exact hn.elim
/-- which kind a field is -/
theorem kindsB (F : Fd) : (∃ x, F = .nm x) ∨ (∃ x A B, F = .lt x A B) ∨ notLN F := by
  cases F with
  | nm x => exact .inl ⟨x, rfl⟩
  | lt x A B => exact .inr (.inl ⟨x, A, B, rfl⟩)
  | _ => exact .inr (.inr True.intro)
/-- new names -/
def fresh (k : Nat) : Str := ("n" : Str) ++ ⟨#[("pqrstuvw" : Str).cps.toList.getD k 112]⟩
theorem fresh_ok : ∀ j, j < 8 → NameOk (fresh j) := by
  intro j hj
  rcases (show j = 0 ∨ j = 1 ∨ j = 2 ∨ j = 3 ∨ j = 4 ∨ j = 5 ∨ j = 6 ∨ j = 7 by omega) with rfl | rfl | rfl | rfl | rfl | rfl | rfl | rfl <;> exact ⟨by decide +kernel, by decide +kernel, by decide +kernel⟩
theorem fresh_inj : ∀ i j, i < 8 → j < 8 → fresh i = fresh j → i = j := by
  have h : ∀ i : Fin 8, ∀ j : Fin 8, fresh i.1 = fresh j.1 → i.1 = j.1 := by decide +kernel
  exact fun i j hi hj e => h ⟨i, hi⟩ ⟨j, hj⟩ e
end Fr

/-! Noise along rows from knot to knot, and in the middle. -/
namespace Pf
open PySem L2 Lw Fm Fr Sm
/-- from knot to knot -/
def lnV (A B W k : Int) : Int := (A * (W - k) + B * k) / W
theorem ln_eq (A B W k : Int) : A * (W - k) + B * k = A * W + (B - A) * k := by
  rw [Int.mul_sub, Int.sub_mul]
  omega
theorem ln_0 {A B W : Int} (W0 : 0 < W) : lnV A B W 0 = A := by
  unfold lnV
  rw [Int.mul_zero, Int.add_zero, Int.sub_zero, Int.mul_ediv_cancel _ (by omega)]
theorem ln_W {A B W : Int} (W0 : 0 < W) : lnV A B W W = B := by
  unfold lnV
  rw [Int.sub_self, Int.mul_zero, Int.zero_add, Int.mul_ediv_cancel _ (by omega)]
theorem ln_up {A B W j k : Int} (W0 : 0 < W) (h : A ≤ B) (l : j ≤ k) : lnV A B W j ≤ lnV A B W k := by
  unfold lnV
  refine Int.ediv_le_ediv W0 ?_
  rw [ln_eq, ln_eq]
  have := Int.mul_le_mul_of_nonneg_left l (show 0 ≤ B - A by omega)
  omega
theorem ln_dn {A B W j k : Int} (W0 : 0 < W) (h : B ≤ A) (l : j ≤ k) : lnV A B W k ≤ lnV A B W j := by
  unfold lnV
  refine Int.ediv_le_ediv W0 ?_
  rw [ln_eq, ln_eq]
  have := Int.mul_le_mul_of_nonneg_left l (show 0 ≤ A - B by omega)
  have e : ∀ k, (B - A) * k = -((A - B) * k) := fun k => by rw [← Int.neg_mul]; congr 1; omega
  rw [e, e]
  omega
theorem mod_add {a S k : Int} (S0 : 0 < S) (ha : a % S = 0) (k0 : 0 ≤ k) (k1 : k < S) : (a + k) % S = k ∧ (a + k) / S = a / S := by
  have h := Int.mul_ediv_add_emod a S
  have e : a + k = k + S * (a / S) := by omega
  rw [e, Int.add_mul_emod_self_left, Int.add_mul_ediv_left _ _ (by omega), Int.emod_eq_of_lt k0 k1, Int.ediv_eq_zero_of_lt k0 k1]
  omega
theorem mod_addS {a S : Int} (S0 : 0 < S) (ha : a % S = 0) : (a + S) % S = 0 ∧ (a + S) / S = a / S + 1 := by
  rw [Int.add_emod_right, Int.add_ediv_of_dvd_right (Int.dvd_refl S), Int.ediv_self (by omega)]
  exact ⟨ha, rfl⟩
theorem noise_x {g s a b S k : Int} {n : Nat} (hS : (2 : Int) ^ n = S) (S0 : 0 < S) (ha : a % S = 0) (hb : b % S = 0) (k0 : 0 ≤ k) (k1 : k ≤ S) :
    noiseL g s n (a + k) b = lnV (noiseL g s n a b) (noiseL g s n (a + S) b) S k := by
  have m := mod_addS S0 ha
  rw [noise_knot hS S0 ha hb, noise_knot hS S0 m.1 hb, m.2]
  by_cases e : k = S
  · subst e
    rw [ln_W S0, noise_knot hS S0 m.1 hb, m.2]
  · have n := mod_add S0 ha k0 (show k < S by omega)
    rw [noise_of hS S0, hb, n.1, n.2, Int.sub_zero, Int.zero_mul, Int.add_zero, Int.mul_ediv_mul_of_pos _ _ S0]
    unfold lnV
    rw [Int.mul_comm (S - k), Int.mul_comm k]
theorem noise_z {g s a b S k : Int} {n : Nat} (hS : (2 : Int) ^ n = S) (S0 : 0 < S) (ha : a % S = 0) (hb : b % S = 0) (k0 : 0 ≤ k) (k1 : k ≤ S) :
    noiseL g s n a (b + k) = lnV (noiseL g s n a b) (noiseL g s n a (b + S)) S k := by
  have m := mod_addS S0 hb
  rw [noise_knot hS S0 ha hb, noise_knot hS S0 ha m.1, m.2]
  by_cases e : k = S
  · subst e
    rw [ln_W S0, noise_knot hS S0 ha m.1, m.2]
  · have n := mod_add S0 hb k0 (show k < S by omega)
    rw [noise_of hS S0, ha, n.1, n.2, Int.sub_zero, Int.zero_mul, Int.zero_mul, Int.add_zero, Int.add_zero]
    have e2 : (S - k) * (S * knotL g s (a / S) (b / S)) + k * (S * knotL g s (a / S) (b / S + 1)) = S * (knotL g s (a / S) (b / S) * (S - k) + knotL g s (a / S) (b / S + 1) * k) := by
      rw [Int.mul_add, Int.mul_left_comm, Int.mul_left_comm k, Int.mul_comm (S - k), Int.mul_comm k]
    rw [e2, Int.mul_ediv_mul_of_pos _ _ S0]
    rfl
theorem noise_row {g s a b dx dz S k l : Int} (l0 : 0 ≤ l) (hS : (2 : Int) ^ l.toNat = S) (S0 : 0 < S) (ha : a % S = 0) (hb : b % S = 0) (d : (dx = 1 ∧ dz = 0) ∨ (dx = 0 ∧ dz = 1)) (k0 : 0 ≤ k) (k1 : k ≤ S) :
    noiseL g s l (a + dx * k) (b + dz * k) = lnV (noiseL g s l a b) (noiseL g s l (a + dx * S) (b + dz * S)) S k := by
  have e : ((l.toNat : Nat) : Int) = l := Int.toNat_of_nonneg l0
  rw [← e]
  rcases d with ⟨rfl, rfl⟩ | ⟨rfl, rfl⟩
  · rw [Int.one_mul, Int.one_mul, Int.zero_mul, Int.zero_mul, Int.add_zero]
    exact noise_x hS S0 ha hb k0 k1
  · rw [Int.one_mul, Int.one_mul, Int.zero_mul, Int.zero_mul, Int.add_zero]
    exact noise_z hS S0 ha hb k0 k1
/-- in the middle between two -/
theorem ln_half {A B W h : Int} (W0 : 0 < W) (e : W = 2 * h) : lnV A B W h = (A + B) / 2 := by
  unfold lnV
  have e2 : A * (W - h) + B * h = (A + B) * h := by
    rw [show W - h = h by omega, ← Int.add_mul]
  rw [e2, e, Int.mul_ediv_mul_of_pos_left _ _ (by omega)]
/-- in the middle between four -/
theorem noise_mid {g s a b S h : Int} {n : Nat} (hS : (2 : Int) ^ n = S) (S0 : 0 < S) (ha : a % S = 0) (hb : b % S = 0) (e : S = 2 * h) :
    noiseL g s n (a + h) (b + h) = (knotL g s (a / S) (b / S) + knotL g s (a / S + 1) (b / S) + knotL g s (a / S) (b / S + 1) + knotL g s (a / S + 1) (b / S + 1)) / 4 := by
  have m1 := mod_add S0 ha (show 0 ≤ h by omega) (show h < S by omega)
  have m2 := mod_add S0 hb (show 0 ≤ h by omega) (show h < S by omega)
  rw [noise_of hS S0, m1.1, m1.2, m2.1, m2.2, show S - h = h by omega]
  have e2 : ∀ p q r t : Int, h * (h * p + h * q) + h * (h * r + h * t) = (h * h) * (p + q + r + t) := fun p q r t => by
    simp only [Int.mul_add, Int.mul_assoc, Int.add_assoc]
  rw [e2, show S * S = (h * h) * 4 by rw [e]; simp only [Int.mul_assoc, Int.mul_comm, Int.mul_left_comm]; rfl, Int.mul_ediv_mul_of_pos _ _ (Int.mul_pos (by omega) (by omega))]
end Pf

/-! Steps as data; the steps of several fields, one behind the other. -/
namespace Pf
open PySem PySem.Spec PyProof.Rows L2 Lw Fm Fr Sm
theorem room65 {k : Nat} {A : Around} (r : Room k A) : A.units + 65 < cLine := by
  have := r.un
  omega
def kD : Key → PyData
  | .inl i => .int i
  | .inr x => .str x
def stepD (s : Stp) : PyData := .tuple ((stepK s).map kD)
theorem eqv_kD (a b : Key) : PyData.eqv (kD a) (kD b) = decide (a = b) := by
  cases a with
  | inl i => cases b with
    | inl j => simp only [kD, PyData.eqv, Sum.inl.injEq]; exact Bool.eq_iff_iff.mpr (by simp)
    | inr y => simp [kD, PyData.eqv]
  | inr x => cases b with
    | inl j => simp [kD, PyData.eqv]
    | inr y => simp only [kD, PyData.eqv, Sum.inr.injEq]; exact Bool.eq_iff_iff.mpr (by simp)
theorem eqv_kDs : ∀ (a b : List Key), PyData.eqvAll (a.map kD) (b.map kD) = decide (a = b)
  | [], [] => by simp [PyData.eqvAll]
  | [], _ :: _ => by simp [PyData.eqvAll]
  | _ :: _, [] => by simp [PyData.eqvAll]
  | x :: a, y :: b => by
    rw [List.map_cons, List.map_cons]
    simp only [PyData.eqvAll, eqv_kD, eqv_kDs a b]
    by_cases h1 : x = y <;> by_cases h2 : a = b <;> simp [h1, h2]
theorem eqv_stepD (s t : Stp) : PyData.eqv (stepD s) (stepD t) = decide (s = t) := by
  unfold stepD
  simp only [PyData.eqv, eqv_kDs]
  by_cases h : s = t
  · rw [h]; simp
  · rw [decide_eq_false h, decide_eq_false fun e => h (stepK_inj e)]
theorem eqv_stepsD : ∀ (a b : List Stp), PyData.eqvAll (a.map stepD) (b.map stepD) = decide (a = b)
  | [], [] => by simp [PyData.eqvAll]
  | [], _ :: _ => by simp [PyData.eqvAll]
  | _ :: _, [] => by simp [PyData.eqvAll]
  | x :: a, y :: b => by
    rw [List.map_cons, List.map_cons]
    simp only [PyData.eqvAll, eqv_stepD, eqv_stepsD a b]
    by_cases h1 : x = y <;> by_cases h2 : a = b <;> simp [h1, h2]
theorem any_stepD (s : Stp) : ∀ st : List Stp, ((st.map stepD).any fun z => PyData.eqv z (stepD s)) = decide (s ∈ st)
  | [] => by simp
  | t :: r => by
    rw [List.map_cons, List.any_cons, any_stepD s r, eqv_stepD]
    by_cases h1 : t = s
    · subst h1; simp
    · have : ¬ s = t := fun e => h1 e.symm
      simp [h1, this]
theorem lay_step (s : Stp) : PyData.canLay0 (stepD s) = true := by
  have hw : ∀ w : W2, PyData.strOk w.word = true := fun w => by cases w <;> decide +kernel
  cases s with
  | two w i j =>
    show (PyData.canLay0 (.str w.word) && (true && (true && true))) = true
    rw [show PyData.canLay0 (.str w.word) = PyData.strOk w.word from rfl, hw w]
    rfl
  | whole n => show (PyData.canLay0 (.str "whole") && (true && true)) = true; decide +kernel
  | px n => show (PyData.canLay0 (.str "x") && (true && true)) = true; decide +kernel
  | pz n => show (PyData.canLay0 (.str "z") && (true && true)) = true; decide +kernel
  | noise a b c d => show (PyData.canLay0 (.str "noise") && (true && (true && (true && (true && true))))) = true; decide +kernel
  | over a b => show (PyData.canLay0 (.str "over") && (true && (true && true))) = true; decide +kernel
  | bel a b c d => show (PyData.canLay0 (.str "below") && (true && (true && (true && (true && true))))) = true; decide +kernel
theorem depth_keys : ∀ ks : List Key, PyData.depthAll (ks.map kD) ≤ 1
  | [] => by decide
  | x :: r => by
    have h := depth_keys r
    have e : PyData.depthAll ((x :: r).map kD) = max (PyData.depth (kD x)) (PyData.depthAll (r.map kD)) := rfl
    have e2 : PyData.depth (kD x) ≤ 1 := by cases x <;> simp [kD, PyData.depth]
    omega
theorem depth_step (s : Stp) : PyData.depth (stepD s) ≤ 2 := by
  have h := depth_keys (stepK s)
  have e : PyData.depth (stepD s) = PyData.depthAll ((stepK s).map kD) + 1 := rfl
  omega
theorem lay_steps : ∀ st : List Stp, PyData.canLayAll0 (st.map stepD) = true
  | [] => rfl
  | x :: r => by
    show (PyData.canLay0 (stepD x) && PyData.canLayAll0 (r.map stepD)) = true
    rw [lay_step, lay_steps r]
    rfl
theorem depth_steps : ∀ st : List Stp, PyData.depthAll (st.map stepD) ≤ 2
  | [] => by decide
  | x :: r => by
    have h := depth_steps r
    have e : PyData.depthAll ((x :: r).map stepD) = max (PyData.depth (stepD x)) (PyData.depthAll (r.map stepD)) := rfl
    have e2 := depth_step x
    omega
theorem shaped_step (s : Stp) : SeqAt.shaped (stepD s) = true := by
  unfold SeqAt.shaped
  have := depth_step s
  rw [lay_step, decide_eq_true (show PyData.depth (stepD s) ≤ 64 by omega)]
  rfl
theorem shaped_steps (st : List Stp) : SeqAt.shaped (.list (st.map stepD)) = true := by
  have h1 : PyData.canLay0 (.list (st.map stepD)) = true := lay_steps st
  have h2 : PyData.depth (.list (st.map stepD)) ≤ 64 := by
    have h := depth_steps st
    have e : PyData.depth (.list (st.map stepD)) = PyData.depthAll (st.map stepD) + 1 := rfl
    omega
  unfold SeqAt.shaped
  rw [h1, decide_eq_true h2]
  rfl
theorem dp_keys {K : PySem.W.Frag} {H : Hp} : ∀ ks : List Key, DpAll K H (ks.map kV) (ks.map kD)
  | [] => .nil
  | .inl i :: r => .cons (.int i) (dp_keys r)
  | .inr x :: r => .cons (.str x) (dp_keys r)
theorem dp_step {K : PySem.W.Frag} {H : Hp} {p : Addr} {s : Stp} (h : H p = some (.tup (stepV s))) : Dp K H (.ref p) (stepD s) := by
  rw [stepV_eq] at h
  exact .tup (SqT.of h) (dp_keys _)
theorem dp_steps {K : PySem.W.Frag} {H : Hp} : ∀ {vs : List V} {st : List Stp}, StepsR H vs st → DpAll K H vs (st.map stepD)
  | _, _, .nil => .nil
  | _, _, .cons ⟨p, e, h⟩ t => by
    subst e
    exact .cons (dp_step h) (dp_steps t)
theorem steps_putL {H : Hp} {a : Addr} {ys : List V} {o : HO} (ha : H a = some (.lst ys)) : ∀ {vs : List V} {st : List Stp}, StepsR H vs st → StepsR (upd H a o) vs st
  | _, _, .nil => .nil
  | _, _, .cons ⟨p, e, h⟩ t => .cons ⟨p, e, by rw [upd_ne (ne_of h ha (by intro z; cases z))]; exact h⟩ (steps_putL ha t)
theorem none_of_same {H H' : Hp} {a : Addr} (s : Same H H') (h : H' a = none) : H a = none := by
  cases e : H a with
  | none => rfl
  | some u => rw [s _ _ e] at h; cases h
theorem steps_get {H : Hp} : ∀ {vs : List V} {st : List Stp} {i : Nat}, StepsR H vs st → i < st.length → ∃ p s, vs[i]? = some (V.ref p) ∧ st[i]? = some s ∧ H p = some (.tup (stepV s))
  | _, _, _, .nil, h => absurd h (Nat.not_lt_zero _)
  | _, _, 0, .cons (b := b) ⟨p, e, h⟩ _, _ => ⟨p, b, by rw [e]; rfl, rfl, h⟩
  | _, _, i + 1, .cons _ t, h => by
    obtain ⟨p, s, h1, h2, h3⟩ := steps_get (i := i) t (by simpa using h)
    exact ⟨p, s, by simpa using h1, by simpa using h2, h3⟩
theorem StepsR.take {H : Hp} : ∀ {vs : List V} {st : List Stp} (n : Nat), StepsR H vs st → StepsR H (vs.take n) (st.take n)
  | _, _, 0, _ => .nil
  | _, _, n + 1, .nil => .nil
  | _, _, n + 1, .cons a t => .cons a (StepsR.take n t)
theorem ok_take {st : List Stp} (h : Ok st) (n : Nat) : Ok (st.take n) := fun j s e => by
  rw [List.getElem?_take] at e
  split at e
  · exact h j s e
  · cases e
theorem okSs_take {st : List Stp} (h : OkSs st) (n : Nat) : OkSs (st.take n) := fun s hs => h s (List.mem_of_mem_take hs)
theorem szd_take {g x z : Int} {B : Nat} {st : List Stp} (h : Szd g x z B st) (n : Nat) : Szd g x z B (st.take n) := fun i hi => by
  have e := run_get (valA g x z) (List.take_prefix n st) hi
  have l : i < st.length := by rw [List.length_take] at hi; omega
  have b := h i l
  have e' : ((valA g x z).run st).getD i 0 = ((valA g x z).run (st.take n)).getD i 0 := e
  rw [e'] at b
  exact b
theorem cut_take {xs : List V} {j : Nat} : cutV xs none (some (j : Int)) = xs.take j := by
  unfold cutV
  rw [HT.sIx_none, show HT.sIx xs.length xs.length (some (j : Int)) = min j xs.length from HT.sIx_nat xs.length xs.length j]
  simp only [List.drop_zero, Nat.sub_zero]
  rcases Nat.le_total j xs.length with h | h
  · rw [Nat.min_eq_left h]
  · rw [Nat.min_eq_right h, List.take_length, List.take_of_length_le h]
/-- the place of a step among steps that have it -/
theorem idx_facts {s : Stp} {st : List Stp} (h : s ∈ st) : (st.map stepD)[st.idxOf s]? = some (stepD s) ∧ ∀ (m : Nat) (z : PyData), m < st.idxOf s → (st.map stepD)[m]? = some z → PyData.eqv z (stepD s) = false := by
  have hl := List.idxOf_lt_length_iff.mpr h
  refine ⟨by rw [List.getElem?_map, List.getElem?_eq_getElem hl, List.getElem_idxOf]; rfl, fun m z hm hz => ?_⟩
  rw [List.getElem?_map] at hz
  obtain ⟨t, ht, rfl⟩ := Option.map_eq_some_iff.mp hz
  rw [eqv_stepD]
  refine decide_eq_false fun e => ?_
  subst e
  obtain ⟨hm', e⟩ := List.getElem?_eq_some_iff.mp ht
  have hn := List.not_of_lt_findIdx (p := fun y => y == t) (xs := st) (i := m) hm
  rw [e] at hn
  simp at hn
/-- the steps of several fields, one behind the other -/
def intos (r : Fm.Env) (dx dz : Int) : List Fd → List Stp → List Stp × List Nat
  | [], st => (st, [])
  | A :: l, st => ((intos r dx dz l (into (expand A r) dx dz st).1).1, (into (expand A r) dx dz st).2 :: (intos r dx dz l (into (expand A r) dx dz st).1).2)
theorem intos_snoc (r : Fm.Env) (dx dz : Int) (A : Fd) : ∀ (l : List Fd) (st : List Stp), intos r dx dz (l ++ [A]) st = ((into (expand A r) dx dz (intos r dx dz l st).1).1, (intos r dx dz l st).2 ++ [(into (expand A r) dx dz (intos r dx dz l st).1).2])
  | [], st => rfl
  | B :: l, st => by
    show ((intos r dx dz (l ++ [A]) _).1, _ :: (intos r dx dz (l ++ [A]) _).2) = _
    rw [intos_snoc r dx dz A l]
    rfl
theorem intos_len (r : Fm.Env) (dx dz : Int) : ∀ (l : List Fd) (st : List Stp), (intos r dx dz l st).1.length ≤ st.length + (l.map fun A => cn (expand A r)).sum ∧ (intos r dx dz l st).2.length = l.length
  | [], st => ⟨by simp [intos], rfl⟩
  | A :: l, st => by
    have h := intos_len r dx dz l (into (expand A r) dx dz st).1
    have i := (into_ok (expand A r) dx dz st).len
    refine ⟨?_, ?_⟩
    · show (intos r dx dz l _).1.length ≤ _
      rw [List.map_cons, List.sum_cons]
      omega
    · show (_ :: (intos r dx dz l _).2).length = _
      simp [h.2]
end Pf

/-! The exact range of noise over a box: by its least and greatest points. -/
namespace Pf
open PySem L2 Lw Fm Fr Sm Rm
/-- the sum of a row of knots, weighed by the place between two of them -/
def rowK (g s i z S : Int) : Int := (S - z % S) * knotL g s i (z / S) + z % S * knotL g s i (z / S + 1)
def colK (g s x j S : Int) : Int := (S - x % S) * knotL g s (x / S) j + x % S * knotL g s (x / S + 1) j
/-- noise in a closed square, along x -/
theorem noise_cx {g s x z i S : Int} {n : Nat} (hS : (2 : Int) ^ n = S) (S0 : 0 < S) (h1 : i * S ≤ x) (h2 : x ≤ i * S + S) :
    noiseL g s n x z = (rowK g s i z S * S + (rowK g s (i + 1) z S - rowK g s i z S) * (x - i * S)) / (S * S) := by
  have e0 : (i * S) % S = 0 := Int.mul_emod_left i S
  have e1 : (i * S) / S = i := Int.mul_ediv_cancel _ (by omega)
  rw [noise_of hS S0]
  by_cases e : x = i * S + S
  · have m := mod_addS S0 e0
    rw [e, m.1, m.2, e1]
    congr 1
    unfold rowK
    grind
  · have m := mod_add S0 e0 (show 0 ≤ x - i * S by omega) (show x - i * S < S by omega)
    rw [show i * S + (x - i * S) = x by omega, e1] at m
    rw [m.1, m.2]
    congr 1
    unfold rowK
    grind
theorem noise_cz {g s x z j S : Int} {n : Nat} (hS : (2 : Int) ^ n = S) (S0 : 0 < S) (h1 : j * S ≤ z) (h2 : z ≤ j * S + S) :
    noiseL g s n x z = (colK g s x j S * S + (colK g s x (j + 1) S - colK g s x j S) * (z - j * S)) / (S * S) := by
  have e0 : (j * S) % S = 0 := Int.mul_emod_left j S
  have e1 : (j * S) / S = j := Int.mul_ediv_cancel _ (by omega)
  rw [noise_of hS S0]
  by_cases e : z = j * S + S
  · have m := mod_addS S0 e0
    rw [e, m.1, m.2, e1]
    congr 1
    unfold colK
    grind
  · have m := mod_add S0 e0 (show 0 ≤ z - j * S by omega) (show z - j * S < S by omega)
    rw [show j * S + (z - j * S) = z by omega, e1] at m
    rw [m.1, m.2]
    congr 1
    unfold colK
    grind
/-- between two points of a line lies what stands between -/
theorem line_btw {A D W a x b : Int} (W0 : 0 < W) (h1 : a ≤ x) (h2 : x ≤ b) :
    min ((A + D * a) / W) ((A + D * b) / W) ≤ (A + D * x) / W ∧ (A + D * x) / W ≤ max ((A + D * a) / W) ((A + D * b) / W) := by
  by_cases h : 0 ≤ D
  · have l1 := Int.mul_le_mul_of_nonneg_left h1 h
    have l2 := Int.mul_le_mul_of_nonneg_left h2 h
    have d1 : (A + D * a) / W ≤ (A + D * x) / W := Int.ediv_le_ediv W0 (by omega)
    have d2 : (A + D * x) / W ≤ (A + D * b) / W := Int.ediv_le_ediv W0 (by omega)
    omega
  · have l1 := Int.mul_le_mul_of_nonneg_left h1 (show 0 ≤ -D by omega)
    have l2 := Int.mul_le_mul_of_nonneg_left h2 (show 0 ≤ -D by omega)
    rw [Int.neg_mul, Int.neg_mul] at l1 l2
    have d1 : (A + D * x) / W ≤ (A + D * a) / W := Int.ediv_le_ediv W0 (by omega)
    have d2 : (A + D * b) / W ≤ (A + D * x) / W := Int.ediv_le_ediv W0 (by omega)
    omega
/-- two points of one closed square, side by side in a row: what lies between them -/
theorem noise_btx {g s a x b z i S : Int} {n : Nat} (hS : (2 : Int) ^ n = S) (S0 : 0 < S) (h0 : i * S ≤ a) (h3 : b ≤ i * S + S) (h1 : a ≤ x) (h2 : x ≤ b) :
    min (noiseL g s n a z) (noiseL g s n b z) ≤ noiseL g s n x z ∧ noiseL g s n x z ≤ max (noiseL g s n a z) (noiseL g s n b z) := by
  rw [noise_cx (x := a) (i := i) hS S0 h0 (by omega), noise_cx (x := b) (i := i) hS S0 (by omega) h3, noise_cx (x := x) (i := i) hS S0 (by omega) (by omega)]
  exact line_btw (Int.mul_pos S0 S0) (Int.sub_le_sub_right h1 _) (Int.sub_le_sub_right h2 _)
theorem noise_btz {g s x a z b j S : Int} {n : Nat} (hS : (2 : Int) ^ n = S) (S0 : 0 < S) (h0 : j * S ≤ a) (h3 : b ≤ j * S + S) (h1 : a ≤ z) (h2 : z ≤ b) :
    min (noiseL g s n x a) (noiseL g s n x b) ≤ noiseL g s n x z ∧ noiseL g s n x z ≤ max (noiseL g s n x a) (noiseL g s n x b) := by
  rw [noise_cz (z := a) (j := j) hS S0 h0 (by omega), noise_cz (z := b) (j := j) hS S0 (by omega) h3, noise_cz (z := z) (j := j) hS S0 (by omega) (by omega)]
  exact line_btw (Int.mul_pos S0 S0) (Int.sub_le_sub_right h1 _) (Int.sub_le_sub_right h2 _)
/-! least and greatest of a list -/
def lMin : List Int → Int
  | [] => 0
  | a :: r => r.foldl min a
def lMax : List Int → Int
  | [] => 0
  | a :: r => r.foldl max a
theorem foldl_min (r : List Int) : ∀ a : Int, (r.foldl min a = a ∨ r.foldl min a ∈ r) ∧ r.foldl min a ≤ a ∧ ∀ y ∈ r, r.foldl min a ≤ y := by
  induction r with
  | nil => exact fun a => ⟨.inl rfl, Int.le_refl _, fun y hy => nomatch hy⟩
  | cons b r ih =>
    intro a
    obtain ⟨h1, h2, h3⟩ := ih (min a b)
    refine ⟨?_, by show List.foldl min (min a b) r ≤ a; omega, fun y hy => ?_⟩
    · show List.foldl min (min a b) r = a ∨ List.foldl min (min a b) r ∈ b :: r
      rcases h1 with h | h
      · rw [h]
        rcases (show min a b = a ∨ min a b = b by omega) with e | e
        · exact .inl e
        · exact .inr (by rw [e]; exact List.mem_cons_self)
      · exact .inr (List.mem_cons_of_mem _ h)
    · show List.foldl min (min a b) r ≤ y
      rcases List.mem_cons.mp hy with rfl | hy
      · omega
      · exact h3 y hy
theorem foldl_max (r : List Int) : ∀ a : Int, (r.foldl max a = a ∨ r.foldl max a ∈ r) ∧ a ≤ r.foldl max a ∧ ∀ y ∈ r, y ≤ r.foldl max a := by
  induction r with
  | nil => exact fun a => ⟨.inl rfl, Int.le_refl _, fun y hy => nomatch hy⟩
  | cons b r ih =>
    intro a
    obtain ⟨h1, h2, h3⟩ := ih (max a b)
    refine ⟨?_, by show a ≤ List.foldl max (max a b) r; omega, fun y hy => ?_⟩
    · show List.foldl max (max a b) r = a ∨ List.foldl max (max a b) r ∈ b :: r
      rcases h1 with h | h
      · rw [h]
        rcases (show max a b = a ∨ max a b = b by omega) with e | e
        · exact .inl e
        · exact .inr (by rw [e]; exact List.mem_cons_self)
      · exact .inr (List.mem_cons_of_mem _ h)
    · show y ≤ List.foldl max (max a b) r
      rcases List.mem_cons.mp hy with rfl | hy
      · omega
      · exact h3 y hy
theorem lMin_mem {l : List Int} (h : l ≠ []) : lMin l ∈ l := by
  cases l with
  | nil => exact absurd rfl h
  | cons a r =>
    rcases (foldl_min r a).1 with e | e
    · exact List.mem_cons.mpr (.inl e)
    · exact List.mem_cons_of_mem _ e
theorem lMax_mem {l : List Int} (h : l ≠ []) : lMax l ∈ l := by
  cases l with
  | nil => exact absurd rfl h
  | cons a r =>
    rcases (foldl_max r a).1 with e | e
    · exact List.mem_cons.mpr (.inl e)
    · exact List.mem_cons_of_mem _ e
theorem lMin_le {l : List Int} {y : Int} (h : y ∈ l) : lMin l ≤ y := by
  cases l with
  | nil => cases h
  | cons a r =>
    rcases List.mem_cons.mp h with rfl | h
    · exact (foldl_min r y).2.1
    · exact (foldl_min r a).2.2 y h
theorem le_lMax {l : List Int} {y : Int} (h : y ∈ l) : y ≤ lMax l := by
  cases l with
  | nil => cases h
  | cons a r =>
    rcases List.mem_cons.mp h with rfl | h
    · exact (foldl_max r y).2.1
    · exact (foldl_max r a).2.2 y h
theorem lMin_eq {l : List Int} {m : Int} (h : m ∈ l) (k : ∀ y ∈ l, m ≤ y) : lMin l = m := Int.le_antisymm (lMin_le h) (k _ (lMin_mem (List.ne_nil_of_mem h)))
theorem lMax_eq {l : List Int} {m : Int} (h : m ∈ l) (k : ∀ y ∈ l, y ≤ m) : lMax l = m := Int.le_antisymm (k _ (lMax_mem (List.ne_nil_of_mem h))) (le_lMax h)
/-! where a row turns: its ends, and the knots between -/
def turnC (S lo hi : Int) : Nat := if (lo / S + 1) * S < hi then ((hi - 1 - (lo / S + 1) * S) / S).toNat + 1 else 0
def turnsL (S lo hi : Int) : List Int := (lo :: (List.range (turnC S lo hi)).map fun (k : Nat) => (lo / S + 1) * S + k * S) ++ if lo < hi then [hi] else []
theorem lo_div {S lo : Int} (S0 : 0 < S) : lo / S * S ≤ lo ∧ lo < lo / S * S + S := by
  have h := Int.mul_ediv_add_emod lo S
  have m0 := Int.emod_nonneg lo (show S ≠ 0 by omega)
  have m1 := Int.emod_lt_of_pos lo S0
  have c := Int.mul_comm S (lo / S)
  omega
theorem turn_in {S lo hi t : Int} (S0 : 0 < S) (h : lo ≤ hi) (m : t ∈ turnsL S lo hi) : lo ≤ t ∧ t ≤ hi := by
  have d := lo_div (lo := lo) S0
  have e1 : (lo / S + 1) * S = lo / S * S + S := by rw [Int.add_mul, Int.one_mul]
  unfold turnsL at m
  rcases List.mem_append.mp m with m | m
  · rcases List.mem_cons.mp m with rfl | m
    · omega
    · obtain ⟨k, hk, rfl⟩ := List.mem_map.mp m
      have hk := List.mem_range.mp hk
      unfold turnC at hk
      split at hk
      · have q := Int.mul_ediv_add_emod (hi - 1 - (lo / S + 1) * S) S
        have q0 := Int.emod_nonneg (hi - 1 - (lo / S + 1) * S) (show S ≠ 0 by omega)
        have hk2 : (k : Int) ≤ (hi - 1 - (lo / S + 1) * S) / S := by
          have := Int.ediv_nonneg (a := hi - 1 - (lo / S + 1) * S) (b := S) (by omega) (by omega)
          omega
        have l := Int.mul_le_mul_of_nonneg_left hk2 (show 0 ≤ S by omega)
        have l0 := Int.mul_nonneg (show 0 ≤ (k : Int) by omega) (show 0 ≤ S by omega)
        have c := Int.mul_comm S (k : Int)
        omega
      · omega
  · split at m
    · rw [List.mem_singleton.mp m]; omega
    · cases m
/-- each point of a row stands between two turns of one closed square -/
theorem turn_btw {S lo hi x : Int} (S0 : 0 < S) (h1 : lo ≤ x) (h2 : x ≤ hi) : ∃ a b i : Int, a ∈ turnsL S lo hi ∧ b ∈ turnsL S lo hi ∧ i * S ≤ a ∧ b ≤ i * S + S ∧ a ≤ x ∧ x ≤ b := by
  have dl := lo_div (lo := lo) S0
  have dx := lo_div (lo := x) S0
  have e1 : (lo / S + 1) * S = lo / S * S + S := by rw [Int.add_mul, Int.one_mul]
  have mlo : lo ∈ turnsL S lo hi := List.mem_append_left _ List.mem_cons_self
  have mhi : hi ∈ turnsL S lo hi := by
    by_cases e : lo < hi
    · exact List.mem_append_right _ (by rw [if_pos e]; exact List.mem_cons_self)
    · rw [show hi = lo by omega]; rw [show hi = lo by omega] at mlo; exact mlo
  have mk : ∀ k : Nat, (lo / S + 1) * S + k * S < hi → (lo / S + 1) * S + k * S ∈ turnsL S lo hi := fun k hk => by
    have k0 := Int.mul_nonneg (show 0 ≤ (k : Int) by omega) (show 0 ≤ S by omega)
    refine List.mem_append_left _ (List.mem_cons_of_mem _ (List.mem_map.mpr ⟨k, List.mem_range.mpr ?_, rfl⟩))
    unfold turnC
    rw [if_pos (by omega)]
    have : (k : Int) ≤ (hi - 1 - (lo / S + 1) * S) / S := Int.le_ediv_of_mul_le S0 (by omega)
    omega
  have ij : lo / S ≤ x / S := Int.ediv_le_ediv S0 h1
  obtain ⟨d, hd⟩ : ∃ d : Nat, x / S = lo / S + d := ⟨(x / S - lo / S).toNat, by omega⟩
  have ex : x / S * S = lo / S * S + d * S := by rw [hd, Int.add_mul]
  -- the turn at or ahead of x
  obtain ⟨a, ma, ha, hax⟩ : ∃ a, a ∈ turnsL S lo hi ∧ x / S * S ≤ a ∧ a ≤ x := by
    cases d with
    | zero => exact ⟨lo, mlo, by simp at ex; omega, h1⟩
    | succ k =>
      have e : ((k + 1 : Nat) : Int) * S = k * S + S := by rw [Int.natCast_add, Int.add_mul]; simp
      by_cases c : x / S * S < hi
      · exact ⟨x / S * S, by
          have := mk k (by omega)
          rw [show (lo / S + 1) * S + k * S = x / S * S by omega] at this
          exact this, Int.le_refl _, dx.1⟩
      · exact ⟨hi, mhi, by omega, by omega⟩
  obtain ⟨b, mb, hb, hbx⟩ : ∃ b, b ∈ turnsL S lo hi ∧ b ≤ x / S * S + S ∧ x ≤ b := by
    by_cases c : x / S * S + S < hi
    · exact ⟨x / S * S + S, by
        have := mk d (by omega)
        rw [show (lo / S + 1) * S + d * S = x / S * S + S by omega] at this
        exact this, Int.le_refl _, by omega⟩
    · exact ⟨hi, mhi, by omega, h2⟩
  exact ⟨a, b, x / S, ma, mb, ha, hb, hax, hbx⟩
/-! the range -/
def gridL (g s l : Int) (xs zs : List Int) : List Int := xs.flatMap fun x => zs.map fun z => noiseL g s l x z
def sqs (S x0 z0 x1 z1 : Int) : Int := (x1 / S - x0 / S + 1) * (z1 / S - z0 / S + 1)
def exactN (g : Int) : NR := fun s l x0 z0 x1 z1 =>
  let S := (2 : Int) ^ l.toNat
  if 64 < sqs S x0 z0 x1 z1 then (0, 65535) else (lMin (gridL g s l (turnsL S x0 x1) (turnsL S z0 z1)), lMax (gridL g s l (turnsL S x0 x1) (turnsL S z0 z1)))
theorem turns_ne (S lo hi : Int) : lo ∈ turnsL S lo hi := List.mem_append_left _ List.mem_cons_self
theorem grid_mem {g s l x z : Int} {xs zs : List Int} (hx : x ∈ xs) (hz : z ∈ zs) : noiseL g s l x z ∈ gridL g s l xs zs := List.mem_flatMap.mpr ⟨x, hx, List.mem_map.mpr ⟨z, hz, rfl⟩⟩
theorem mem_grid {g s l v : Int} {xs zs : List Int} (h : v ∈ gridL g s l xs zs) : ∃ x z, x ∈ xs ∧ z ∈ zs ∧ v = noiseL g s l x z := by
  obtain ⟨x, hx, h⟩ := List.mem_flatMap.mp h
  obtain ⟨z, hz, rfl⟩ := List.mem_map.mp h
  exact ⟨x, z, hx, hz, rfl⟩
/-- noise in a box lies between its least and greatest at the turns -/
theorem grid_holds {g s x0 z0 x1 z1 x z S : Int} {n : Nat} (hS : (2 : Int) ^ n = S) (S0 : 0 < S) (h1 : x0 ≤ x) (h2 : x ≤ x1) (h3 : z0 ≤ z) (h4 : z ≤ z1) :
    lMin (gridL g s n (turnsL S x0 x1) (turnsL S z0 z1)) ≤ noiseL g s n x z ∧ noiseL g s n x z ≤ lMax (gridL g s n (turnsL S x0 x1) (turnsL S z0 z1)) := by
  obtain ⟨a, b, i, ma, mb, ia, ib, ax, xb⟩ := turn_btw S0 h1 h2
  obtain ⟨c, d, j, mc, md, jc, jd, cz, zd⟩ := turn_btw S0 h3 h4
  have hx := noise_btx (g := g) (s := s) (z := z) hS S0 ia ib ax xb
  have ha := noise_btz (g := g) (s := s) (x := a) hS S0 jc jd cz zd
  have hb := noise_btz (g := g) (s := s) (x := b) hS S0 jc jd cz zd
  have l1 := lMin_le (grid_mem (g := g) (s := s) (l := n) ma mc)
  have l2 := lMin_le (grid_mem (g := g) (s := s) (l := n) ma md)
  have l3 := lMin_le (grid_mem (g := g) (s := s) (l := n) mb mc)
  have l4 := lMin_le (grid_mem (g := g) (s := s) (l := n) mb md)
  have g1 := le_lMax (grid_mem (g := g) (s := s) (l := n) ma mc)
  have g2 := le_lMax (grid_mem (g := g) (s := s) (l := n) ma md)
  have g3 := le_lMax (grid_mem (g := g) (s := s) (l := n) mb mc)
  have g4 := le_lMax (grid_mem (g := g) (s := s) (l := n) mb md)
  omega
theorem noise_log {g s l x z : Int} : noiseL g s l x z = noiseL g s (l.toNat : Int) x z := by
  unfold noiseL
  rw [Int.toNat_natCast]
theorem grid_log {g s l : Int} {xs zs : List Int} : gridL g s l xs zs = gridL g s (l.toNat : Int) xs zs := by
  unfold gridL
  simp only [noise_log (l := l)]
theorem pow_pos2 (n : Nat) : 0 < (2 : Int) ^ n := Int.pow_pos (by decide)
theorem exact_holds (g : Int) : NHolds g (exactN g) := by
  intro s l x0 z0 x1 z1 x z h1 h2 h3 h4
  unfold exactN
  simp only
  split
  · exact noise_in g s l x z
  · have h := grid_holds (g := g) (s := s) (n := l.toNat) rfl (pow_pos2 l.toNat) h1 h2 h3 h4
    rw [← grid_log, ← noise_log] at h
    exact h
/-- bounds that hold every turn hold all -/
theorem exact_le {g s l x0 z0 x1 z1 A B : Int} (hx : x0 ≤ x1) (hz : z0 ≤ z1) (few : sqs (2 ^ l.toNat) x0 z0 x1 z1 ≤ 64) (h : ∀ x z, x0 ≤ x → x ≤ x1 → z0 ≤ z → z ≤ z1 → A ≤ noiseL g s l x z ∧ noiseL g s l x z ≤ B) :
    A ≤ (exactN g s l x0 z0 x1 z1).1 ∧ (exactN g s l x0 z0 x1 z1).2 ≤ B := by
  unfold exactN
  simp only
  rw [if_neg (by omega)]
  have ne := List.ne_nil_of_mem (grid_mem (g := g) (s := s) (l := l) (turns_ne (2 ^ l.toNat) x0 x1) (turns_ne (2 ^ l.toNat) z0 z1))
  obtain ⟨a, b, ha, hb, e⟩ := mem_grid (lMin_mem ne)
  obtain ⟨c, d, hc, hd, e2⟩ := mem_grid (lMax_mem ne)
  have ta := turn_in (pow_pos2 l.toNat) hx ha
  have tb := turn_in (pow_pos2 l.toNat) hz hb
  have tc := turn_in (pow_pos2 l.toNat) hx hc
  have td := turn_in (pow_pos2 l.toNat) hz hd
  exact ⟨e ▸ (h a b ta.1 ta.2 tb.1 tb.2).1, e2 ▸ (h c d tc.1 tc.2 td.1 td.2).2⟩
theorem exact_in (g s l x0 z0 x1 z1 : Int) (hx : x0 ≤ x1) (hz : z0 ≤ z1) : 0 ≤ (exactN g s l x0 z0 x1 z1).1 ∧ (exactN g s l x0 z0 x1 z1).2 ≤ 65535 := by
  by_cases few : 64 < sqs (2 ^ l.toNat) x0 z0 x1 z1
  · unfold exactN
    simp only
    rw [if_pos few]
    exact ⟨by decide, by decide⟩
  · exact exact_le hx hz (by omega) fun x z _ _ _ _ => noise_in g s l x z
theorem sqs_le {S x0 z0 x1 z1 x0' z0' x1' z1' : Int} (S0 : 0 < S) (hx : x0 ≤ x1) (hz : z0 ≤ z1) (h1 : x0' ≤ x0) (h2 : x1 ≤ x1') (h3 : z0' ≤ z0) (h4 : z1 ≤ z1') : sqs S x0 z0 x1 z1 ≤ sqs S x0' z0' x1' z1' := by
  have a1 : x0' / S ≤ x0 / S := Int.ediv_le_ediv S0 h1
  have a2 : x1 / S ≤ x1' / S := Int.ediv_le_ediv S0 h2
  have a3 : z0' / S ≤ z0 / S := Int.ediv_le_ediv S0 h3
  have a4 : z1 / S ≤ z1' / S := Int.ediv_le_ediv S0 h4
  have a5 : x0 / S ≤ x1 / S := Int.ediv_le_ediv S0 hx
  have a6 : z0 / S ≤ z1 / S := Int.ediv_le_ediv S0 hz
  unfold sqs
  exact Int.mul_le_mul (by omega) (by omega) (by omega) (by omega)
theorem exact_mono (g : Int) : NMono (exactN g) (exactN g) := by
  refine ⟨fun s l x0 z0 x1 z1 hx hz => ?_, fun s l x0 z0 x1 z1 x0' z0' x1' z1' hx hz h1 h2 h3 h4 => ?_⟩
  · have h := exact_holds g s l x0 z0 x1 z1 x0 z0 (by omega) hx (by omega) hz
    omega
  · by_cases few : sqs (2 ^ l.toNat) x0' z0' x1' z1' ≤ 64
    · have f2 := sqs_le (S := 2 ^ l.toNat) (pow_pos2 _) hx hz h1 h2 h3 h4
      exact exact_le hx hz (by omega) fun x z a b c d => exact_holds g s l x0' z0' x1' z1' x z (by omega) (by omega) (by omega) (by omega)
    · have h := exact_in g s l x0 z0 x1 z1 hx hz
      have e : exactN g s l x0' z0' x1' z1' = (0, 65535) := by
        unfold exactN
        simp only
        rw [if_pos (by omega)]
      rw [e]
      exact h
theorem exact_wide (g : Int) : NMono (exactN g) wideN := ⟨(exact_mono g).ok, fun s l x0 z0 x1 z1 _ _ _ _ hx hz _ _ _ _ => exact_in g s l x0 z0 x1 z1 hx hz⟩
theorem exact_point (g s l x z : Int) : exactN g s l x z x z = (noiseL g s l x z, noiseL g s l x z) := by
  have few : sqs (2 ^ l.toNat) x z x z ≤ 64 := by unfold sqs; rw [Int.sub_self, Int.sub_self]; decide
  have h := exact_le (g := g) (s := s) (l := l) (A := noiseL g s l x z) (B := noiseL g s l x z) (Int.le_refl x) (Int.le_refl z) few fun x' z' a b c d => by
    rw [show x' = x by omega, show z' = z by omega]
    exact ⟨Int.le_refl _, Int.le_refl _⟩
  have k := exact_holds g s l x z x z x z (by omega) (by omega) (by omega) (by omega)
  refine Prod.ext ?_ ?_ <;> omega
/-- values at some points of the box, all turns among them: their least and greatest are the range -/
theorem exact_of {g s l x0 z0 x1 z1 : Int} {vs : List Int} (hx : x0 ≤ x1) (hz : z0 ≤ z1) (few : sqs (2 ^ l.toNat) x0 z0 x1 z1 ≤ 64)
    (h1 : ∀ v ∈ vs, ∃ x z, x0 ≤ x ∧ x ≤ x1 ∧ z0 ≤ z ∧ z ≤ z1 ∧ v = noiseL g s l x z) (h2 : ∀ x ∈ turnsL (2 ^ l.toNat) x0 x1, ∀ z ∈ turnsL (2 ^ l.toNat) z0 z1, noiseL g s l x z ∈ vs) : exactN g s l x0 z0 x1 z1 = (lMin vs, lMax vs) := by
  have hold : ∀ v ∈ vs, (exactN g s l x0 z0 x1 z1).1 ≤ v ∧ v ≤ (exactN g s l x0 z0 x1 z1).2 := fun v hv => by
    obtain ⟨x, z, a, b, c, d, rfl⟩ := h1 v hv
    exact exact_holds g s l x0 z0 x1 z1 x z a b c d
  have ne := List.ne_nil_of_mem (grid_mem (g := g) (s := s) (l := l) (turns_ne (2 ^ l.toNat) x0 x1) (turns_ne (2 ^ l.toNat) z0 z1))
  have e : exactN g s l x0 z0 x1 z1 = (lMin (gridL g s l (turnsL (2 ^ l.toNat) x0 x1) (turnsL (2 ^ l.toNat) z0 z1)), lMax (gridL g s l (turnsL (2 ^ l.toNat) x0 x1) (turnsL (2 ^ l.toNat) z0 z1))) := by
    unfold exactN
    simp only
    rw [if_neg (by omega)]
  refine Prod.ext ?_ ?_
  · refine (lMin_eq ?_ fun y hy => (hold y hy).1).symm
    rw [e]
    obtain ⟨x, z, a, b, e2⟩ := mem_grid (lMin_mem ne)
    dsimp only
    rw [e2]
    exact h2 x a z b
  · refine (lMax_eq ?_ fun y hy => (hold y hy).2).symm
    rw [e]
    obtain ⟨x, z, a, b, e2⟩ := mem_grid (lMax_mem ne)
    dsimp only
    rw [e2]
    exact h2 x a z b
/-- a turn is the first or the last point of its square within the row -/
theorem turn_sq {S lo hi t : Int} (S0 : 0 < S) (h : lo ≤ hi) (m : t ∈ turnsL S lo hi) : ∃ i, lo / S ≤ i ∧ i ≤ hi / S ∧ (t = max lo (i * S) ∨ t = min hi (i * S + S - 1)) := by
  have ti := turn_in S0 h m
  have dl := lo_div (lo := lo) S0
  have dh := lo_div (lo := hi) S0
  have lh : lo / S ≤ hi / S := Int.ediv_le_ediv S0 h
  unfold turnsL at m
  rcases List.mem_append.mp m with m | m
  · rcases List.mem_cons.mp m with rfl | m
    · exact ⟨t / S, Int.le_refl _, lh, .inl (by omega)⟩
    · obtain ⟨k, hk, rfl⟩ := List.mem_map.mp m
      have e : (lo / S + 1) * S + (k : Int) * S = (lo / S + 1 + k) * S := by rw [← Int.add_mul]
      rw [e] at ti ⊢
      refine ⟨lo / S + 1 + k, by omega, ?_, .inl (by omega)⟩
      exact Int.le_ediv_of_mul_le S0 ti.2
  · split at m
    · rw [List.mem_singleton.mp m]
      exact ⟨hi / S, lh, Int.le_refl _, .inr (by omega)⟩
    · cases m
/-- first and last point of a square within the row lie in the row -/
theorem sq_in {S lo hi i : Int} (S0 : 0 < S) (h : lo ≤ hi) (h1 : lo / S ≤ i) (h2 : i ≤ hi / S) : (lo ≤ max lo (i * S) ∧ max lo (i * S) ≤ hi) ∧ lo ≤ min hi (i * S + S - 1) ∧ min hi (i * S + S - 1) ≤ hi := by
  have dl := lo_div (lo := lo) S0
  have dh := lo_div (lo := hi) S0
  have a := Int.mul_le_mul_of_nonneg_right h1 (show 0 ≤ S by omega)
  have b := Int.mul_le_mul_of_nonneg_right h2 (show 0 ≤ S by omega)
  omega
theorem cols77 {S a b : Int} (S0 : 0 < S) (S1 : S ≤ 256) (h : 20000 ≤ b - a) : 77 ≤ b / S - a / S := by
  have da := lo_div (lo := a) S0
  have db := lo_div (lo := b) S0
  have e : (b / S - a / S) * S = b / S * S - a / S * S := Int.sub_mul _ _ _
  by_cases hc : b / S - a / S ≤ 76
  · have m := Int.mul_le_mul_of_nonneg_right hc (show 0 ≤ S by omega)
    omega
  · omega
/-- over a wide box it is that of all noise -/
theorem exact_many {g s l x0 z0 x1 z1 : Int} (S1 : (2 : Int) ^ l.toNat ≤ 256) (wx : 20000 ≤ x1 - x0) (wz : 20000 ≤ z1 - z0) : exactN g s l x0 z0 x1 z1 = (0, 65535) := by
  have c := cols77 (pow_pos2 l.toNat) S1 wx
  have d := cols77 (pow_pos2 l.toNat) S1 wz
  unfold exactN
  simp only
  refine if_pos ?_
  unfold sqs
  have m := Int.mul_le_mul_of_nonneg_left (show 1 ≤ z1 / 2 ^ l.toNat - z0 / 2 ^ l.toNat + 1 by omega) (show 0 ≤ x1 / 2 ^ l.toNat - x0 / 2 ^ l.toNat + 1 by omega)
  omega
end Pf

/-! The exact range of noise: over wide boxes, over one point; steps whose shifts are small. -/
namespace Pf
open PySem L2 Lw Fm Fr Sm Rm
theorem exact_ok (g : Int) : NOk (exactN g) := by
  intro s l x0 z0 x1 z1
  unfold exactN
  simp only
  split
  · exact ⟨⟨by decide, by decide⟩, by decide, by decide⟩
  · have ne := List.ne_nil_of_mem (grid_mem (g := g) (s := s) (l := l) (turns_ne (2 ^ l.toNat) x0 x1) (turns_ne (2 ^ l.toNat) z0 z1))
    obtain ⟨a, b, _, _, e⟩ := mem_grid (lMin_mem ne)
    obtain ⟨c, d, _, _, e2⟩ := mem_grid (lMax_mem ne)
    have h1 := noise_in g s l a b
    have h2 := noise_in g s l c d
    rw [← e] at h1
    rw [← e2] at h2
    exact ⟨h1, h2⟩
theorem pow256 {l : Int} (h0 : 0 ≤ l) (h8 : l ≤ 8) : (2 : Int) ^ l.toNat ≤ 256 := by
  obtain ⟨S, _, e, _, h, _⟩ := log_pow h0 h8
  rw [e]
  exact h
theorem range_wide {g : Int} : ∀ (e : Ex) (x0 z0 x1 z1 : Int), OkE e → 20000 ≤ x1 - x0 → 20000 ≤ z1 - z0 → rangeG (exactN g) e x0 z0 x1 z1 = rangeG wideN e x0 z0 x1 z1
  | .whole _, _, _, _, _, _, _, _ => rfl
  | .px, _, _, _, _, _, _, _ => rfl
  | .pz, _, _, _, _, _, _, _ => rfl
  | .noise s l, x0, z0, x1, z1, h, wx, wz => exact_many (pow256 h.2.1 h.2.2) wx wz
  | .two w a b, x0, z0, x1, z1, h, wx, wz => by simp only [rangeG]; rw [range_wide a _ _ _ _ h.1 wx wz, range_wide b _ _ _ _ h.2 wx wz]
  | .over a n, x0, z0, x1, z1, h, wx, wz => by simp only [rangeG]; rw [range_wide a _ _ _ _ h.1 wx wz]
  | .bel a b c d, x0, z0, x1, z1, h, wx, wz => by simp only [rangeG]; rw [range_wide a _ _ _ _ h.1 wx wz, range_wide b _ _ _ _ h.2.1 wx wz, range_wide c _ _ _ _ h.2.2.1 wx wz, range_wide d _ _ _ _ h.2.2.2 wx wz]
  | .shift dx dz a, x0, z0, x1, z1, h, wx, wz => range_wide a _ _ _ _ h.2.2 (by omega) (by omega)
theorem all_wide {g : Int} : ∀ (e : Ex) (x0 z0 x1 z1 : Int), OkE e → 20000 ≤ x1 - x0 → 20000 ≤ z1 - z0 → allE (exactN g) e x0 z0 x1 z1 = allE wideN e x0 z0 x1 z1
  | .whole _, _, _, _, _, _, _, _ => rfl
  | .px, _, _, _, _, _, _, _ => rfl
  | .pz, _, _, _, _, _, _, _ => rfl
  | .noise s l, x0, z0, x1, z1, h, wx, wz => by simp only [allE]; rw [range_wide _ _ _ _ _ h wx wz]
  | .two w a b, x0, z0, x1, z1, h, wx, wz => by simp only [allE]; rw [range_wide _ _ _ _ _ h wx wz, all_wide a _ _ _ _ h.1 wx wz, all_wide b _ _ _ _ h.2 wx wz]
  | .over a n, x0, z0, x1, z1, h, wx, wz => by simp only [allE]; rw [range_wide _ _ _ _ _ h wx wz, all_wide a _ _ _ _ h.1 wx wz]
  | .bel a b c d, x0, z0, x1, z1, h, wx, wz => by simp only [allE]; rw [range_wide _ _ _ _ _ h wx wz, all_wide a _ _ _ _ h.1 wx wz, all_wide b _ _ _ _ h.2.1 wx wz, all_wide c _ _ _ _ h.2.2.1 wx wz, all_wide d _ _ _ _ h.2.2.2 wx wz]
  | .shift dx dz a, x0, z0, x1, z1, h, wx, wz => by simp only [allE]; rw [range_wide _ _ _ _ _ h wx wz, all_wide a _ _ _ _ h.2.2 (by omega) (by omega)]
theorem mn4_same (n : Int) : mn4 n n n n = n := by unfold mn4; omega
theorem mx4_same (n : Int) : mx4 n n n n = n := by unfold mx4; omega
theorem rng_point (w : W2) (a b : Int) : w.rng (a, a) (b, b) = (w.op a b, w.op a b) := by
  cases w with
  | plus => rfl
  | less => rfl
  | times => simp only [W2.rng, W2.op, mn4_same, mx4_same]
  | least => refine Prod.ext ?_ ?_ <;> (simp only [W2.rng, W2.op]; omega)
  | most => refine Prod.ext ?_ ?_ <;> (simp only [W2.rng, W2.op]; omega)
theorem range_point {g : Int} : ∀ (e : Ex) (x z : Int), rangeG (exactN g) e x z x z = (valE e g x z, valE e g x z)
  | .whole _, _, _ => rfl
  | .px, _, _ => rfl
  | .pz, _, _ => rfl
  | .noise s l, x, z => exact_point g s l x z
  | .two w a b, x, z => by simp only [rangeG]; rw [range_point a, range_point b, rng_point]; rfl
  | .over a n, x, z => by simp only [rangeG]; rw [range_point a]; rfl
  | .bel a b c d, x, z => by
    simp only [rangeG]
    rw [range_point a, range_point b, range_point c, range_point d]
    unfold belR
    simp only [valE]
    by_cases h : valE a g x z < valE b g x z
    · rw [if_pos h, if_pos h]
    · rw [if_neg h, if_neg h, if_pos (by omega)]
  | .shift dx dz a, x, z => range_point a _ _
/-! ### steps whose shifts are small -/
def OkSh : Stp → Prop
  | .noise _ _ dx dz => dx.natAbs ≤ 100000000000 ∧ dz.natAbs ≤ 100000000000
  | _ => True
def ShS (st : List Stp) : Prop := ∀ s ∈ st, OkSh s
theorem shS_nil : ShS [] := fun s hs => nomatch hs
theorem shS_put {st : List Stp} {s : Stp} (h : ShS st) (hs : OkSh s) : ShS (put st s).1 := by
  unfold put
  split
  · exact h
  · intro t ht
    rcases List.mem_append.mp ht with ht | ht
    · exact h t ht
    · rw [List.mem_singleton.mp ht]
      exact hs
theorem cn_pos : ∀ e : Ex, 1 ≤ cn e
  | .whole _ => Nat.le_refl 1
  | .px => Nat.le_refl 1
  | .pz => Nat.le_refl 1
  | .noise _ _ => Nat.le_refl 1
  | .two _ a b => by simp only [cn]; omega
  | .over a _ => by simp only [cn]; omega
  | .bel a b c d => by simp only [cn]; omega
  | .shift _ _ a => by simp only [cn]; omega
theorem shS_into : ∀ (e : Ex) (dx dz : Int) (st : List Stp), OkE e → dx.natAbs + 1000 * cn e ≤ 100000000000 → dz.natAbs + 1000 * cn e ≤ 100000000000 → ShS st → ShS (into e dx dz st).1
  | .whole _, _, _, st, _, _, _, h => shS_put h True.intro
  | .px, _, _, st, _, _, _, h => shS_put h True.intro
  | .pz, _, _, st, _, _, _, h => shS_put h True.intro
  | .noise _ _, dx, dz, st, _, hx, hz, h => shS_put h ⟨by omega, by omega⟩
  | .two _ a b, dx, dz, st, o, hx, hz, h => by
    simp only [cn] at hx hz
    exact shS_put (shS_into b dx dz _ o.2 (by omega) (by omega) (shS_into a dx dz st o.1 (by omega) (by omega) h)) True.intro
  | .over a _, dx, dz, st, o, hx, hz, h => by
    simp only [cn] at hx hz
    exact shS_put (shS_into a dx dz st o.1 (by omega) (by omega) h) True.intro
  | .bel a b c d, dx, dz, st, o, hx, hz, h => by
    simp only [cn] at hx hz
    exact shS_put (shS_into d dx dz _ o.2.2.2 (by omega) (by omega) (shS_into c dx dz _ o.2.2.1 (by omega) (by omega) (shS_into b dx dz _ o.2.1 (by omega) (by omega) (shS_into a dx dz st o.1 (by omega) (by omega) h)))) True.intro
  | .shift ex ez a, dx, dz, st, o, hx, hz, h => by
    simp only [cn] at hx hz
    have h1 : -1000 ≤ ex ∧ ex ≤ 1000 := o.1
    have h2 : -1000 ≤ ez ∧ ez ≤ 1000 := o.2.1
    exact shS_into a (dx + ex) (dz + ez) st o.2.2 (by omega) (by omega) h
theorem shS_steps {e : Ex} (o : OkE e) (c : cn e ≤ 900) : ShS (stepsE e) := shS_into e 0 0 [] o (by omega) (by omega) shS_nil
/-- over a wide box the steps' ranges are those of all noise -/
theorem run_wide {g x0 z0 x1 z1 : Int} (wx : 20000 ≤ x1 - x0) (wz : 20000 ≤ z1 - z0) (st : List Stp) (h : OkSs st) : (rngA (exactN g) x0 z0 x1 z1).run st = (rngA wideN x0 z0 x1 z1).run st := by
  revert h
  refine snoc_ind (P := fun st => OkSs st → (rngA (exactN g) x0 z0 x1 z1).run st = (rngA wideN x0 z0 x1 z1).run st) (fun _ => rfl) (fun st s ih h => ?_) st
  rw [run_snoc, run_snoc, ih fun t ht => h t (List.mem_append_left _ ht)]
  congr 1
  have hs := h s (List.mem_append_right _ (List.mem_singleton.mpr rfl))
  cases s with
  | noise s l dx dz =>
    have e : exactN g s l (x0 + dx) (z0 + dz) (x1 + dx) (z1 + dz) = (0, 65535) := exact_many (pow256 hs.1 hs.2) (by omega) (by omega)
    show [exactN g s l (x0 + dx) (z0 + dz) (x1 + dx) (z1 + dz)] = [(0, 65535)]
    rw [e]
  | _ => rfl
end Pf

/-! try: body / except C as e: suite, and what was caught stays known afterwards. -/
namespace Ec
open PySem PySem.Spec PyProof.Rows L2
section
variable {X : Cx} {pins : List (Addr × Obj)} {σ : List (Option V)} {H : Hp} {s : Shared} {a : Addr} {oe : Obj} {vs : Array Value} {O : HO}
/-- an object that lies there untracked, new since the entry, is tracked -/
theorem track (I : Inv X pins σ H s) (ha : s.heap.get? a = some oe) (hd : oe.data = .fields vs) (na : H a = none) (nL : a ≠ X.env.locals) (n0 : X.s_0.heap.get? a = none) (np : ∀ p ∈ X.pn ++ pins, p.1 ≠ a) (hO : ObjOk X.prog X.w (upd H a O) s.heap a O) :
    Inv X pins σ (upd H a O) s := by
  have ne : ∀ {b : Addr} {u : HO}, H b = some u → b ≠ a := fun {b u} q => ne_of_none q na
  have n1 : ∀ {b : Addr} {o : Obj}, X.s_0.heap.get? b = some o → b ≠ a := fun {b o} q z => by
    rw [z, n0] at q
    cases q
  have nc : ∀ {x : Str} {c : Addr}, X.env.cells.lookup x = some c → c ≠ a := fun {x c} q z => by
    obtain ⟨v, o, ho, hv⟩ := I.cell x c q
    rw [z, ha] at ho
    cases ho
    rw [hd] at hv
    cases hv
  refine ⟨I.ok, I.os, I.bare, ⟨I.base.keep, I.base.slot, fun b o q z y => ?_, I.base.there, fun b xs q => ?_, fun b o u q => ?_, fun b ps q => ?_⟩, I.loc, I.cell, ?_, fun x c q => ?_, fun p hp => ?_, fun b u q => ?_, I.len⟩
  · rw [upd_ne (n1 q)]
    exact I.base.free b o q z y
  · have z := I.base.tups b xs q
    rw [upd_ne (ne z)]
    exact z
  · have z := I.base.frzs b o u q
    rw [upd_ne (ne z)]
    exact z
  · obtain ⟨more, z⟩ := I.base.tbls b ps q
    exact ⟨more, by rw [upd_ne (ne z)]; exact z⟩
  · rw [upd_ne nL.symm]
    exact I.free
  · rw [upd_ne (nc q)]
    exact I.freeC x c q
  · obtain ⟨p1, p2, p3⟩ := I.pin p hp
    exact ⟨p1, by rw [upd_ne (np p hp)]; exact p2, p3⟩
  · by_cases e : b = a
    · subst e
      rw [upd_same] at q
      cases q
      exact hO
    · rw [upd_ne e] at q
      exact (I.hok b u q).stay (fun c v _ z => z) (fun c z => by rw [upd_ne (ne z)]; exact z) fun c xs z => by rw [upd_ne (ne z)]; exact z
end
/-- what the clause wishes of an exception of the body, the caught one known when it ends -/
def wKeep (K : PySem.W.Frag) (c : Value) (i : Nat) (ts : Addr → Value → Option Addr → TS) (Wout : WX) (D : Ends) : WX := fun cls d σ H => ∃ b, PySem.W.exmOne K cls c = some b ∧ (b = false → Wout cls d σ H) ∧
  (b = true → ∀ a, H a = none → ts a cls d { nx := fun σ' H' => D.nx (σ'.set i none) (upd H' a (exg a cls d)), rt := fun v H' => D.rt v (upd H' a (exg a cls d)), bk := fun σ' H' => D.bk (σ'.set i none) (upd H' a (exg a cls d)), ct := fun σ' H' => D.ct (σ'.set i none) (upd H' a (exg a cls d)) } (σ.set i (some (.ref a))) H)
section
variable {X : Cx} {x n : Str} {c : Value} {i : Nat} {body suite : List Stmt} {b₀ : Stmt} {np pos pos' : Pos} {tb : WX → TS} {ts : Addr → Value → Option Addr → TS} {Wout : WX}
theorem ps_try_keep (hx : X.ex = []) (hs : X.stack = X.env :: X.outer) (hf : X.env.frame = some X.env.locals) (hN : X.N.Nodup) (hi : X.N[i]? = some n) (hln : X.env.kindOf n = some .local) (hc : Names X x c) (tk : Takes X Wout)
    (hb : ∀ (W : WX) (pn : List (Addr × Obj)) (xe : Value → Shared → Prop), Takes (X.tr pn xe) W → PassesOwn (model X.prog X.w) X.A X.env xe → PSs (X.tr pn xe) body (tb W))
    (hsu : ∀ (a : Addr) (oe : Obj) (cls : Value) (d : Option Addr) (pn : List (Addr × Obj)), Zc cls d oe → (∃ vs, oe.data = .fields vs) → PSs (X.suite a ((a, oe) :: pn)) (b₀ :: suite) (ts a cls d)) :
    PS X (.Try body [.ExceptHandler (some (.Name x np)) (some n) (b₀ :: suite) pos'] [] [] pos) (fun D σ H => tb (wKeep X.K c i ts Wout D) D σ H) := by
  refine ⟨fun pins s σ H D I h => wpAny_Try_except ?_⟩
  have ok := I.ok
  have fr : X.A.frames = some (X.env :: X.outer) := by rw [ok.frames, hs]
  let after : Value → Shared → Prop := fun e sa => wpAny (model X.prog X.w) X.A (noteFrame e X.env) (fun _ sb => wpAny (model X.prog X.w) X.A (setFlight e none) (fun _ sc => wpAny (model X.prog X.w) X.A (handleBy e X.env [.ExceptHandler (some (.Name x np)) (some n) (b₀ :: suite) pos']) (SP X pins D) X.xe sc) X.xe sb) X.xe sa
  refine wpAny_mono ((hb (wKeep X.K c i ts Wout D) (X.pn ++ pins) after (fun u sx xx => ?_) PassesOwn.looking).run [] s σ H D (I.toTry _) h) (fun f s1 done => ?_) fun e s1 he => he
  · obtain ⟨a, B, sI, pins0, τ, G, cls, d, rfl, J0, nb, up, sky, na, os, ag, b, eb, no, yes⟩ := xx
    have J : Inv X pins τ G sI := J0.ofTry ok
    rw [hs] at sky
    show wpAny (model X.prog X.w) X.A (noteFrame (.ref a) X.env) _ _ _
    refine Sky.land Zc.steady fr hf sky fun m fl upm => ?_
    have Jm : Inv X pins τ G { sx with heap := m } := J.landed nb fl.1 (up.trans upm) os ag
    obtain ⟨o1, v1, at1, z1, d1⟩ := fl.there
    have notin : a ∉ frs (X.env :: X.outer) := fun hm => by
      obtain ⟨_, o', e', nofr⟩ := fl.2.2.1.mem hm
      rw [at1] at e'
      cases e'
      exact nofr _ d1
    have nL : a ≠ X.env.locals := fun z => notin (List.mem_filterMap.mpr ⟨X.env, List.mem_cons_self, by rw [hf, z]⟩)
    have nF : a ∉ X.fs := fun hm => by
      obtain ⟨e, he, q⟩ := List.mem_filterMap.mp hm
      exact notin (List.mem_filterMap.mpr ⟨e, List.mem_cons_of_mem _ he, q⟩)
    have new : sI.heap.get? a = none := by
      cases q : sI.heap.get? a with
      | none => rfl
      | some o =>
        have z := nb a o q (by rw [hs]; exact notin)
        rw [fl.2.1] at z
        cases z
    have n0 : X.s_0.heap.get? a = none := by
      cases q : X.s_0.heap.get? a with
      | none => rfl
      | some o =>
        obtain ⟨o', z⟩ := J.base.there a o q (by rw [hx]; exact fun z => nomatch z)
        rw [new] at z
        cases z
    have npin : ∀ p ∈ X.pn ++ pins, p.1 ≠ a := fun p hp z => by
      have q := (J.pin p hp).1
      rw [z, new] at q
      cases q
    have S1 := Jm.suite at1 d1 na nL nF
    refine wpAny_handleBy_cons (codeAny_handlers_test ?_) (by intro q; cases q)
    have ty : PySem.W.Looks (model X.prog X.w) m (typeOf (.ref a)) cls := fun A Q E s k q => wpAny_typeOf_ref (k _ _ at1) (by rw [z1.1]; exact q)
    have asks := PySem.W.exm_one (M := model X.prog X.w) Jm.kIn ty eb
    have name : ∀ {Q : Value → Shared → Prop} {E : Value → Shared → Prop}, Q c { sx with heap := m } → wpAny (model X.prog X.w) (X.A.mark (some (.ref a))) (eval (.Name x np) X.env) Q E { sx with heap := m } := fun {Q E} q => by
      obtain ⟨hg, hdb, hm | ⟨hm, hv, hnn⟩⟩ := hc
      · exact ld_glob (X := X.suite a ((a, o1) :: (X.pn ++ pins))) S1 hg hm q hdb
      · exact ld_blt (X := X.suite a ((a, o1) :: (X.pn ++ pins))) S1 hg hm hv q hnn hdb
    refine name (asks.here ?_)
    cases b with
    | false =>
      show wpAny _ X.A (handleBy (.ref a) X.env []) _ _ _
      refine wpAny_handleBy_nil ?_
      obtain ⟨_, _, _, o2, v2, T, _, _, at2, _, d2, h1, _⟩ := id fl
      unfold PySem.passOn
      refine wpAny_bind (wpAny_field at2 d2 h1 ?_)
      rw [if_neg (show ¬ ((Value.ref T == Value.none) = true) from by simp)]
      have out : wpAny (model X.prog X.w) X.A (setFlight (.ref a) X.env.frame) (fun _ s4 => wpAny (model X.prog X.w) X.A (throw (.ref a) : Sem Flow) (SP X pins D) X.xe s4) X.xe { sx with heap := m } := by
        rw [hf]
        refine HandSPX.setFlight_upZ fl fun m4 hh4 up4 => wpAny_throw (tk _ _ ⟨a, B, sI, pins, τ, G, cls, d, rfl, J, nb, (up.trans upm).trans up4, .inr (.inr (by rw [hs]; exact hh4)), na, os, ag, no rfl⟩)
      first | exact wpAny_bind (wpAny_pure (wpAny_bind out)) | exact wpAny_bind out
    | true =>
      refine codeAny_handlers_suite_as (HandSPX.lands_againZ fl fun m4 fl4 up4 => ?_)
      have J4 : Inv X pins τ G { sx with heap := m4 } := J.landed nb fl4.1 ((up.trans upm).trans up4) os ag
      obtain ⟨o4, v4, at4, z4, d4⟩ := fl4.there
      refine store_ok (X := X.suite a ((a, o4) :: (X.pn ++ pins))) (v := .ref a) (J4.suite at4 d4 na nL nF) hN hi (.inl hln) rfl (fun s5 S5 => ?_) (.inr hln)
      refine wpAny_mono ((hsu a o4 cls d (X.pn ++ pins) z4 ⟨_, d4⟩).run [] s5 _ G _ S5 (yes rfl a na)) (fun f s6 done => ?_) (fun _ _ z => z.elim)
      have ends : ∀ {τ6 : L2.St} {G6 : Hp} {Q : Shared → Prop}, Inv (X.suite a ((a, o4) :: (X.pn ++ pins))) [] τ6 G6 s6 → (∀ s7, Inv X pins (τ6.set i none) (upd G6 a (exg a cls d)) s7 → Q s7) →
          wpAny (model X.prog X.w) X.A (do bindName X.env n .none; unbindBehindTheSuite X.env n pos') (fun _ s7 => Q s7) X.xe s6 := fun {τ6 G6 Q} S6 hq => by
        obtain ⟨q1, q2, _⟩ := S6.pin (a, o4) (List.mem_append_left _ List.mem_cons_self)
        exact gone_ok (track (S6.unsuite ok) q1 d4 q2 nL n0 npin (exg_ok q1 z4 d4)) hN hi hln hq
      cases f with
      | next =>
        obtain ⟨τ6, G6, S6, q6⟩ := done
        exact ends S6 fun s7 J7 => ⟨_, _, J7, q6⟩
      | brk =>
        obtain ⟨τ6, G6, S6, q6⟩ := done
        exact ends S6 fun s7 J7 => ⟨_, _, J7, q6⟩
      | cont =>
        obtain ⟨τ6, G6, S6, q6⟩ := done
        exact ends S6 fun s7 J7 => ⟨_, _, J7, q6⟩
      | ret u =>
        obtain ⟨v6, τ6, G6, S6, r6, q6⟩ := done
        exact ends S6 fun s7 J7 => ⟨_, _, _, J7, r6, q6⟩
  · cases f with
    | next =>
      obtain ⟨τ, G, J, q⟩ := done
      exact wpAny_execs_nil ⟨τ, G, J.ofTry ok, q⟩
    | brk =>
      obtain ⟨τ, G, J, q⟩ := done
      exact ⟨τ, G, J.ofTry ok, q⟩
    | cont =>
      obtain ⟨τ, G, J, q⟩ := done
      exact ⟨τ, G, J.ofTry ok, q⟩
    | ret u =>
      obtain ⟨v, τ, G, J, r, q⟩ := done
      exact ⟨v, τ, G, J.ofTry ok, r, q⟩
end
end Ec

/-! Errors as values: the classes by name, readings of the calls that make them; small readings. -/
namespace Ec
open PySem PySem.Spec PyProof.Rows L2 Lw
def Ext (H H' : Hp) : Prop := ∀ b u, H b = some u → H' b = some u
theorem Ext.refl {H : Hp} : Ext H H := fun _ _ h => h
theorem Ext.trans {H H1 H2 : Hp} (a : Ext H H1) (b : Ext H1 H2) : Ext H H2 := fun c u h => b c u (a c u h)
theorem Ext.new {H H' : Hp} {p : Addr} {o : HO} (a : Ext H H') (n : H' p = none) : Ext H (upd H' p o) := fun c u h => by
  rw [upd_ne (ne_of_none (a c u h) n)]
  exact a c u h
/-- an __init__ that stores what it is given, under these names -/
def spIni (K : PySem.W.Frag) (C : Addr) (names : List Str) : Sp := fun vs H Q _ => ∃ (a : Addr) (ys : List V), vs = .ref a :: ys ∧ ys.length = names.length ∧ Own K C ∧ (∀ f ∈ names, PySem.W.findIn K (.ref C) f = some none) ∧ H a = some (exo a C none) ∧
  ∀ H' d, a ≠ d → H d = none → H' a = some (exo a C (some d)) → H' d = some (exd d (names.zip ys).reverse) → (∀ b u, b ≠ a → H b = some u → H' b = some u) → Q .non H'
section
variable {P : Program} {w : World} {K : PySem.W.Frag} {mg : Str → Option Value} {base : Heap} {f : Addr} {fd : FuncData} {C : Addr}
theorem one_put {σ : L2.St} {H : Hp} {a : Addr} {g : Str} {y : V} {D : Ends} (O : Own K C) (hf : PySem.W.findIn K (.ref C) g = some none) (h : H a = some (exo a C none)) {i j : Nat} (hi : σ[i]? = some (some (.ref a))) (hj : σ[j]? = some (some y))
    (q : ∀ H', Exc H' a C [(g, y)] → (∀ b u, b ≠ a → H b = some u → H' b = some u) → (∃ d, a ≠ d ∧ H d = none ∧ H' a = some (exo a C (some d)) ∧ H' d = some (exd d [(g, y)])) → D.nx σ H') : tSt K g (tVar i) (tVar j) D σ H := by
  refine g_var hj (g_var hi ⟨a, C, rfl, O, hf, .inl ⟨h, fun dx n ne => ?_⟩⟩)
  have e1 : upd (upd H dx (exd dx [(g, y)])) a (exo a C (some dx)) dx = some (exd dx [(g, y)]) := by rw [upd_ne ne, upd_same]
  refine q _ (.dict upd_same e1) (fun b u nb hb => ?_) ⟨dx, ne.symm, n, upd_same, e1⟩
  rw [upd_ne nb, upd_ne (ne_of_none hb n)]
  exact hb
theorem two_put {σ : L2.St} {H : Hp} {a d : Addr} {g : Str} {y : V} {fs : List (Str × V)} {D : Ends} (O : Own K C) (hf : PySem.W.findIn K (.ref C) g = some none) (h : H a = some (exo a C (some d))) (hd : H d = some (exd d fs)) (ne : a ≠ d) (hl : fs.length ≤ 900) {i j : Nat} (hi : σ[i]? = some (some (.ref a))) (hj : σ[j]? = some (some y))
    (q : ∀ H', Exc H' a C ((g, y) :: fs) → (∀ b u, b ≠ d → H b = some u → H' b = some u) → D.nx σ H') : tSt K g (tVar i) (tVar j) D σ H := by
  refine g_var hj (g_var hi ⟨a, C, rfl, O, hf, .inr ⟨d, fs, h, hd, hl, ?_⟩⟩)
  exact q _ (.dict (by rw [upd_ne ne]; exact h) upd_same) (fun b u nb hb => by rw [upd_ne nb]; exact hb)
end
/-! ### the classes by name -/
structure Mk (P : Program) (w : World) (K : PySem.W.Frag) (mg : Str → Option Value) (base : Heap) (x : Str) (names : List Str) (dvs : List V) : Prop where
  ex : ∃ (fd : FuncData) (ps : List Str) (ds : List Value), mg x = some (.ref (cA K x)) ∧ Init K (cA K x) (iA K x) ∧ FnOk P w K mg base CX0 1 (iA K x) fd ps (spIni K (cA K x) names) ∧ Binds K fd ps ds ∧ Vals dvs ds
structure Mkk (P : Program) (w : World) (K : PySem.W.Frag) (mg : Str → Option Value) (base : Heap) (x : Str) (ks names : List Str) (gV : List V → List V → List V) : Prop where
  ex : ∃ (fd : FuncData) (ps : List Str) (g : List Value → List Value → List Value), mg x = some (.ref (cA K x)) ∧ Init K (cA K x) (iA K x) ∧ FnOk P w K mg base CX0 1 (iA K x) fd ps (spIni K (cA K x) names) ∧ KBinds K fd ps ks g gV
section
variable {X : Cx} {x : Str} {names ks : List Str} {dvs : List V} {p pos : Pos} {e : Expr} {es : List Expr} {kws : List Keyword} {t tk : TA} {gV : List V → List V → List V}
theorem pe_cls {C : Addr} (hm : X.mg x = some (.ref C)) (hg : Gl X x := by rfl) (hd : (x == ("__debug__" : Str)) = false := by decide) : PE X (.Name x pos) (tC (.ref C)) := pe_glob hg hm rfl hd
theorem pe_mk (M : Mk X.prog X.w X.K X.mg X.base x names dvs) (hr : Room 2 X.A) (ha : PA X (e :: es) t) (hg : Gl X x := by rfl) (hdb : (x == ("__debug__" : Str)) = false := by decide)
    (he : starEach (e :: es) X.env = (false, eval e X.env) :: starEach es X.env := by rfl) (hpl : (backTo pos (starEach es X.env)).any (·.1) = false := by rfl) : PE X (.Call (.Name x p) (e :: es) [] pos) (tMkI (cA X.K x) (spIni X.K (cA X.K x) names) dvs t) := by
  obtain ⟨fd, ps, ds, hm, N, F, hb, hd⟩ := M.ex
  exact pe_mkI N F hr hb hd hm ha hg hdb he hpl
theorem pe_mk0 (M : Mk X.prog X.w X.K X.mg X.base x names dvs) (hr : Room 2 X.A) (hg : Gl X x := by rfl) (hdb : (x == ("__debug__" : Str)) = false := by decide) : PE X (.Call (.Name x p) [] [] pos) (tMkI (cA X.K x) (spIni X.K (cA X.K x) names) dvs tNil) := by
  obtain ⟨fd, ps, ds, hm, N, F, hb, hd⟩ := M.ex
  exact pe_mkI0 N F hr hb hd hm hg hdb
theorem pe_mkk (M : Mkk X.prog X.w X.K X.mg X.base x ks names gV) (hr : Room 2 X.A) (hkw : PK X kws tk) (hg : Gl X x := by rfl)
    (hall : (backToKw pos (keywordEach kws X.env)).all (·.1.isSome) = true := by rfl) (hks : (backToKw pos (keywordEach kws X.env)).filterMap (·.1) = ks := by rfl) (hdb : (x == ("__debug__" : Str)) = false := by decide)
    (hpl : ((backTo pos (starEach [] X.env)).any (·.1) || (backToKw pos (keywordEach kws X.env)).any (·.1.isNone)) = false := by rfl) : PE X (.Call (.Name x p) [] kws pos) (tMkK (cA X.K x) (spIni X.K (cA X.K x) names) gV tk) := by
  obtain ⟨fd, ps, g, hm, N, F, hb⟩ := M.ex
  exact pe_mkK N F hr hb hm hkw hg hall hks hdb hpl
end
section
variable {K : PySem.W.Frag} {C : Addr} {names : List Str} {Q : VK} {σ : L2.St} {H : Hp} {dvs : List V} {t : TA}
theorem ini_mk {ys : List V} {E : XK} {H : Hp} (O : Own K C) (hf : ∀ f ∈ names, PySem.W.findIn K (.ref C) f = some none) (hl : ys.length = names.length) (q : ∀ a H', H a = none → Exc H' a C (names.zip ys).reverse → Ext H H' → Q (.ref a) H') :
    ∀ a, H a = none → spIni K C names (.ref a :: ys) (upd H a (exo a C none)) (fun v H2 => v = .non ∧ Q (.ref a) H2) E := fun a ha => by
  refine ⟨a, ys, rfl, hl, O, hf, upd_same, fun H' d _ _ e1 e2 k => ⟨rfl, q a H' ha (.dict e1 e2) fun b u hb => k b u (ne_of_none hb ha) ?_⟩⟩
  rw [upd_ne (ne_of_none hb ha)]
  exact hb
theorem g_mkI {sp : Sp} (q : t σ H fun vs H1 => vs.length ≤ 1000 ∧ ∀ a, H1 a = none → sp (.ref a :: (vs ++ dvs)) (upd H1 a (exo a C none)) (fun v H2 => v = .non ∧ Q (.ref a) H2) E0) : tMkI C sp dvs t σ H Q := q
theorem g_mkK {sp : Sp} {gV : List V → List V → List V} (q : t σ H fun zs H1 => ∀ a, H1 a = none → sp (gV [.ref a] zs) (upd H1 a (exo a C none)) (fun v H2 => v = .non ∧ Q (.ref a) H2) E0) : tMkK C sp gV t σ H Q := q
theorem g_mkP (q : t σ H fun vs H1 => vs.length ≤ 1000 ∧ ∀ a, H1 a = none → Q (.ref a) (upd H1 a (exo a C none))) : tMkP C t σ H Q := q
theorem mkP_go {H : Hp} (q : ∀ a H', H a = none → Exc H' a C [] → Ext H H' → Q (.ref a) H') : ∀ a, H a = none → Q (.ref a) (upd H a (exo a C none)) := fun a ha => q a _ ha (.bare upd_same) (Ext.refl.new ha)
theorem g_fx {f : Str} {te : TE} (q : te σ H fun x H1 => ∃ (a C : Addr) (fs : List (Str × V)) (v : V), x = .ref a ∧ Own K C ∧ PySem.W.findIn K (.ref C) f = some none ∧ Exc H1 a C fs ∧ fs.lookup f = some v ∧ Q v H1) : tFx K f te σ H Q := q
end
def datB (bs : List Bool) : PyData := .list (bs.map .bool)
theorem Ext.put {H H' : Hp} {p : Addr} {o : HO} (a : Ext H H') (n : H p = none) : Ext H (upd H' p o) := fun c u h => by
  rw [upd_ne (ne_of_none h n)]
  exact a c u h
section
variable {K : PySem.W.Frag} {H : Hp} {Q : VK} {x y : V} {d : PyData} {l : Addr}
theorem dp_bools : ∀ bs : List Bool, DpAll K H (bs.map V.bl) (bs.map .bool)
  | [] => .nil
  | b :: bs => .cons (.bl b) (dp_bools bs)
theorem dp_row {bs : List Bool} (h : H l = some (.lst (bs.map V.bl))) : Dp K H (.ref l) (datB bs) := .lst (SqL.of h) (dp_bools bs)
theorem ne_same (hd : SeqAt.shaped d = true) (h1 : Dp K H x d) (h2 : Dp K H y d) (q : Q (.bl false) H) : rNeD K x y H Q := ⟨d, d, h1, h2, hd, hd, by
  rw [PySem.SeqAt.eqv_refl d (SeqAt.canLay_of_shaped hd)]
  exact q⟩
theorem eq_same (hd : SeqAt.shaped d = true) (h1 : Dp K H x d) (h2 : Dp K H y d) (q : Q (.bl true) H) : rEqD K x y H Q := ⟨d, d, h1, h2, hd, hd, by
  rw [PySem.SeqAt.eqv_refl d (SeqAt.canLay_of_shaped hd)]
  exact q⟩
end
theorem g_enum {K : PySem.W.Frag} {ta : TA} {σ : L2.St} {H : Hp} {R : It → Hp → Prop} (q : ta σ H fun vs H1 => ∃ a xs, vs = [.ref a] ∧ SqL K H1 a xs ∧ R (Ite K a) H1) : iEnum K ta σ H R := q
theorem g_yes {σ : L2.St} {H : Hp} {Q : Bool → Hp → Prop} (q : Q true H) : tYes σ H Q := q
theorem dec_int (a b : Int) : decide (V.int a = V.int b) = decide (a = b) := by simp
theorem bl_is {b c : Bool} {P : Bool → Prop} (h : b = c) (q : P c) : ∃ k, V.bl b = .bl k ∧ P k := ⟨c, by rw [h], q⟩
theorem g_none {Q : Option Int → Hp → Prop} {σ : L2.St} {H : Hp} (q : Q none H) : tNoPart σ H Q := q
theorem sl_both {K : PySem.W.Frag} {T : Addr} {xs : List V} {lo hi : Option Int} {H : Hp} {Q : VK} (R : Addr → Hp → Prop) (h : SqT K H T xs) (rT : R T H) (rN : ∀ p, H p = none → R p (upd H p (.tup (cutV xs lo hi)))) (q : ∀ tr H', R tr H' → Q (.ref tr) H') : rSlA K (.ref T) lo hi H Q :=
  ⟨T, xs, rfl, h, fun _ => q _ _ rT, fun _ p hp => q _ _ (rN p hp)⟩
theorem ini_mkK {K : PySem.W.Frag} {C : Addr} {names : List Str} {Q : VK} {ys : List V} {E : XK} {H : Hp} {g : Addr → List V} (hg : ∀ a, g a = .ref a :: ys) (O : Own K C) (hf : ∀ f ∈ names, PySem.W.findIn K (.ref C) f = some none) (hl : ys.length = names.length) (q : ∀ a H', H a = none → Exc H' a C (names.zip ys).reverse → Ext H H' → Q (.ref a) H') :
    ∀ a, H a = none → spIni K C names (g a) (upd H a (exo a C none)) (fun v H2 => v = .non ∧ Q (.ref a) H2) E := fun a ha => by
  rw [hg]
  exact ini_mk O hf hl q a ha
section
variable {K : PySem.W.Frag} {C : Addr} {names : List Str} {Q : VK} {dvs : List V} {H : Hp} {σ : L2.St} {m m' : Nat} {v v' : V}
theorem mkP0 (q : ∀ a H', H a = none → Exc H' a C [] → Ext H H' → Q (.ref a) H') : tMkP C tNil σ H Q := ⟨by simp, mkP_go q⟩
theorem mkP1 (h : σ[m]? = some (some v)) (q : ∀ a H', H a = none → Exc H' a C [] → Ext H H' → Q (.ref a) H') : tMkP C (tCons (tVar m) tNil) σ H Q := g_mkP (g_cons (g_var h (g_nil ⟨by simp, mkP_go q⟩)))
theorem mkI0 (O : Own K C) (hf : ∀ f ∈ names, PySem.W.findIn K (.ref C) f = some none) (hl : ([] ++ dvs).length = names.length) (q : ∀ a H', H a = none → Exc H' a C (names.zip ([] ++ dvs)).reverse → Ext H H' → Q (.ref a) H') : tMkI C (spIni K C names) dvs tNil σ H Q :=
  ⟨by simp, ini_mk (ys := [] ++ dvs) O hf hl q⟩
theorem mkI1 (h : σ[m]? = some (some v)) (O : Own K C) (hf : ∀ f ∈ names, PySem.W.findIn K (.ref C) f = some none) (hl : ([v] ++ dvs).length = names.length) (q : ∀ a H', H a = none → Exc H' a C (names.zip ([v] ++ dvs)).reverse → Ext H H' → Q (.ref a) H') :
    tMkI C (spIni K C names) dvs (tCons (tVar m) tNil) σ H Q := g_mkI (g_cons (g_var h (g_nil ⟨by simp, ini_mk (ys := [v] ++ dvs) O hf hl q⟩)))
theorem mkI2 (h : σ[m]? = some (some v)) (h' : σ[m']? = some (some v')) (O : Own K C) (hf : ∀ f ∈ names, PySem.W.findIn K (.ref C) f = some none) (hl : ([v, v'] ++ dvs).length = names.length) (q : ∀ a H', H a = none → Exc H' a C (names.zip ([v, v'] ++ dvs)).reverse → Ext H H' → Q (.ref a) H') :
    tMkI C (spIni K C names) dvs (tCons (tVar m) (tCons (tVar m') tNil)) σ H Q := g_mkI (g_cons (g_var h (g_cons (g_var h' (g_nil ⟨by simp, ini_mk (ys := [v, v'] ++ dvs) O hf hl q⟩)))))
variable {gV : List V → List V → List V} {ys : List V}
theorem mkK1 (h : σ[m]? = some (some v)) (hg : ∀ a : Addr, gV [.ref a] [v] = .ref a :: ys) (O : Own K C) (hf : ∀ f ∈ names, PySem.W.findIn K (.ref C) f = some none) (hl : ys.length = names.length) (q : ∀ a H', H a = none → Exc H' a C (names.zip ys).reverse → Ext H H' → Q (.ref a) H') :
    tMkK C (spIni K C names) gV (tCons (tVar m) tNil) σ H Q := g_mkK (g_cons (g_var h (g_nil (ini_mkK hg O hf hl q))))
theorem mkK2 (h : σ[m]? = some (some v)) (h' : σ[m']? = some (some v')) (hg : ∀ a : Addr, gV [.ref a] [v, v'] = .ref a :: ys) (O : Own K C) (hf : ∀ f ∈ names, PySem.W.findIn K (.ref C) f = some none) (hl : ys.length = names.length) (q : ∀ a H', H a = none → Exc H' a C (names.zip ys).reverse → Ext H H' → Q (.ref a) H') :
    tMkK C (spIni K C names) gV (tCons (tVar m) (tCons (tVar m') tNil)) σ H Q := g_mkK (g_cons (g_var h (g_cons (g_var h' (g_nil (ini_mkK hg O hf hl q))))))
end
theorem cut_ints (ns : List Int) (lo hi : Option Int) : ∃ ms : List Int, cutV (ns.map V.int) lo hi = ms.map V.int ∧ ms.length ≤ ns.length := by
  refine ⟨((ns.drop (HT.sIx ns.length 0 lo)).take (HT.sIx ns.length ns.length hi - HT.sIx ns.length 0 lo)), ?_, ?_⟩
  · unfold cutV
    rw [List.length_map, List.map_take, List.map_drop]
  · rw [List.length_take, List.length_drop]
    omega
theorem can_ints : ∀ ms : List Int, PyData.canLayAll0 (ms.map .int) = true
  | [] => rfl
  | m :: ms => by
    rw [List.map_cons, PyData.canLayAll0, can_ints ms]
    rfl
theorem dep_ints : ∀ ms : List Int, PyData.depthAll (ms.map .int) = 0
  | [] => rfl
  | m :: ms => by
    rw [List.map_cons, PyData.depthAll, dep_ints ms]
    rfl
theorem dp_ints {K : PySem.W.Frag} {H : Hp} : ∀ ms : List Int, DpAll K H (ms.map V.int) (ms.map .int)
  | [] => .nil
  | m :: ms => .cons (.int m) (dp_ints ms)
theorem sqT_ext {K : PySem.W.Frag} {H H' : Hp} {a : Addr} {xs : List V} (k : Ext H H') (h : SqT K H a xs) : SqT K H' a xs := by
  rcases h with (h | h) | h
  · exact .inl (.inl (k _ _ h))
  · obtain ⟨o, h⟩ := h
    exact .inl (.inr ⟨o, k _ _ h⟩)
  · exact .inr h
def nilB (K : PySem.W.Frag) (a : Addr) : Bool := match K.lookup a with
  | some ⟨.type "tuple", _, .seq its _, _⟩ => its.isEmpty
  | _ => false
theorem nil_ok {K : PySem.W.Frag} {a : Addr} (h : nilB K a = true) (H : Hp) : SqT K H a [] := by
  unfold nilB at h
  split at h
  · rename_i dd its n sl hl
    obtain ⟨l⟩ := its
    cases l with
    | nil => exact .inr ⟨_, #[], n, hl, rfl, rfl, Nat.zero_le _, .nil⟩
    | cons x xs => cases h
  · cases h
theorem vals_take {n : Nat} : ∀ {vs : List V} {us : List Value}, Vals vs us → Vals (vs.take n) (us.take n) := by
  induction n with
  | zero => intro _ _ _; exact .nil
  | succ n ih =>
    intro vs us r
    cases r with
    | nil => exact .nil
    | cons a b => exact .cons a (ih b)
end Ec

/-! Errors of own classes raised: what such a call makes when it stands behind a raise. -/
namespace Ec
open PySem PySem.Spec PyProof.Rows L2 Lw
theorem refs_of : ∀ bm : List Value, PySem.W.excTail PySem.EcP.tailV bm = true → PySem.HandSPX.refsVE bm = true := by
  intro bm
  induction bm with
  | nil => intro e; exact absurd e (by decide)
  | cons x r ih =>
    intro e
    rcases PySem.W.excTail_cases (x :: r) e with ⟨c, r', q, z⟩ | q
    · obtain ⟨rfl, rfl⟩ := List.cons.inj q
      exact ih z
    · rw [q]
      decide
/-- over ValueError: what HandS.ExcInit wants of the class -/
theorem Own.oex {K : PySem.W.Frag} {C : Addr} (O : Own K C) (h : Shape K C PySem.EcP.tailV "ValueError.__new__") : OexC K C := by
  obtain ⟨nm, q, N, bs, bm, sn, sub, ab, col, dd, k0, k1, k2, k3, k5, hC, ht⟩ := h
  exact ⟨⟨nm, q, N, bs, bm, sn, sub, ab, col, dd, k0, k1, k2, k3, k5, hC, refs_of bm ht⟩, O.sa, O.exC, O.tyC, O.kC⟩
theorem Own.raises {X : Cx} {C : Addr} (O : Own X.K C) : Raises X (.ref C) := raises_own O.exC O.tyC
section
variable {X : Cx} {C : Addr} {x : Str} {p pos : Pos} {e : Expr} {es : List Expr} {t : TA}
/-- raise C(), no __init__ of its own -/
theorem pmk_P0 (N : Plain X.K C) (hm : X.mg x = some (.ref C)) (hg : Gl X x := by rfl) (hdb : (x == ("__debug__" : Str)) = false := by decide) : PMk X (.Call (.Name x p) [] [] pos) (fun _ H Q => Q (.ref C) none H) := by
  intro pins s σ H Q I h
  refine wpAny_Call_Name_kw (ld_glob I hg hm ?_ hdb)
  refine PySem.W.callWith_K0 I.kIn N.own.kC ?_
  show wpAny _ _ (call (.ref C) []) _ _ _
  obtain ⟨bm, N', nm, qn, bs, hdct, sn, sub, ab, col, dd, k0, k1, k2, k3, k5, mN, hC, hN, hni, T⟩ := exc_obj I.kIn N.e
  obtain ⟨hp, g, dr, tk, os⟩ := s
  exact wpAny_call_exc_subT F.excBase_ValueError T hC hN hni (fun h' a hm => mk_of I hm N.own.raises h (I.hok.gone hm.new)) (Nat.zero_le _)
end
/-- the reading behind a raise of a class that stores what it is given -/
theorem ini_raise {K : PySem.W.Frag} {C : Addr} {names : List Str} {Q : XK} {ys : List V} {E : XK} {H : Hp} (O : Own K C) (hf : ∀ f ∈ names, PySem.W.findIn K (.ref C) f = some none) (hl : ys.length = names.length)
    (q : ∀ d H', H d = none → H' d = some (.xd (names.zip ys).reverse) → Ext H H' → Q (.ref C) (some d) H') :
    ∀ a, H a = none → spIni K C names (.ref a :: ys) (upd H a (exo a C none)) (fun v H2 => v = .non ∧ ∃ (d : Addr) (fs : List (Str × V)), H2 a = some (exo a C (some d)) ∧ H2 d = some (exd d fs) ∧ H d = none ∧ Q (.ref C) (some d) (upd (del H2 a) d (.xd fs))) E := fun a ha => by
  refine ⟨a, ys, rfl, hl, O, hf, upd_same, fun H' d ne hd e1 e2 k => ⟨rfl, d, _, e1, e2, ?_, q d _ ?_ upd_same fun b u hb => ?_⟩⟩
  · rw [upd_ne ne.symm] at hd
    exact hd
  · rw [upd_ne ne.symm] at hd
    exact hd
  · rw [upd_ne ne.symm] at hd
    have nb : b ≠ a := ne_of_none hb ha
    rw [upd_ne (ne_of_none hb hd), del_ne nb]
    exact k b u nb (by rw [upd_ne nb]; exact hb)
/-- a def of the top that may raise, by its name -/
structure DfX (P : Program) (w : World) (K : PySem.W.Frag) (mg : Str → Option Value) (base : Heap) (x : Str) (ps : List Str) (k : Nat) (sp : Sp) : Prop where
  ex : ∃ (f : Addr) (fd : FuncData), mg x = some (.ref f) ∧ PySem.W.keepIn K (.ref f) = true ∧ Binds K fd ps [] ∧ FnOk P w K mg base (L2.CX P w) k f fd ps sp
section
variable {X : Cx} {W : WX} {k : Nat} {ps : List Str} {sp : Sp} {x : Str} {p pos : Pos} {e : Expr} {es : List Expr} {t : TA}
theorem pe_dfX (D : DfX X.prog X.w X.K X.mg X.base x ps k sp) (hr : Room k X.A) (tk : Takes X W) (ha : PA X (e :: es) t) (hg : Gl X x := by rfl) (hdb : (x == ("__debug__" : Str)) = false := by decide)
    (he : starEach (e :: es) X.env = (false, eval e X.env) :: starEach es X.env := by rfl) (hpl : (backTo pos (starEach es X.env)).any (·.1) = false := by rfl) : PE X (.Call (.Name x p) (e :: es) [] pos) (tCallS sp (WE W) t) := by
  obtain ⟨f, fd, hm, hk, hb, F⟩ := D.ex
  exact pe_callS F hr hg hm hk hb (fun σ => passAt tk σ) ha hdb he hpl
theorem g_callS {sp : Sp} {E : L2.St → XK} {t : TA} {σ : L2.St} {H : Hp} {Q : VK} (q : t σ H fun vs H1 => sp vs H1 Q (E σ)) : tCallS sp E t σ H Q := q
end
end Ec

/-! Fields as data: what repr shows of them. -/
namespace Fr
open PySem L2 Lw Fm
def dataF : Fd → PyData
  | .whole n => .tuple [.str "whole", .int n]
  | .px => .tuple [.str "x"]
  | .pz => .tuple [.str "z"]
  | .noise s l => .tuple [.str "noise", .int s, .int l]
  | .two w a b => .tuple [.str w.word, dataF a, dataF b]
  | .over a n => .tuple [.str "over", dataF a, .int n]
  | .bel a b c d => .tuple [.str "below", dataF a, dataF b, dataF c, dataF d]
  | .shift dx dz a => .tuple [.str "shift", .int dx, .int dz, dataF a]
  | .lt x a b => .tuple [.str "let", .str x, dataF a, dataF b]
  | .nm x => .tuple [.str "name", .str x]
theorem dp_field {K : PySem.W.Frag} {H : Hp} : ∀ (F : Fd) (u : V), FRep F H u → Dp K H u (dataF F)
  | .whole _, _, ⟨p, e, h⟩ => e ▸ .tup (SqT.of h) (.cons (.str _) (.cons (.int _) .nil))
  | .px, _, ⟨p, e, h⟩ => e ▸ .tup (SqT.of h) (.cons (.str _) .nil)
  | .pz, _, ⟨p, e, h⟩ => e ▸ .tup (SqT.of h) (.cons (.str _) .nil)
  | .noise _ _, _, ⟨p, e, h⟩ => e ▸ .tup (SqT.of h) (.cons (.str _) (.cons (.int _) (.cons (.int _) .nil)))
  | .two _ a b, _, ⟨p, u1, u2, e, h, h1, h2⟩ => e ▸ .tup (SqT.of h) (.cons (.str _) (.cons (dp_field a u1 h1) (.cons (dp_field b u2 h2) .nil)))
  | .over a _, _, ⟨p, u1, e, h, h1⟩ => e ▸ .tup (SqT.of h) (.cons (.str _) (.cons (dp_field a u1 h1) (.cons (.int _) .nil)))
  | .bel a b c d, _, ⟨p, u1, u2, u3, u4, e, h, h1, h2, h3, h4⟩ => e ▸ .tup (SqT.of h) (.cons (.str _) (.cons (dp_field a u1 h1) (.cons (dp_field b u2 h2) (.cons (dp_field c u3 h3) (.cons (dp_field d u4 h4) .nil)))))
  | .shift _ _ a, _, ⟨p, u1, e, h, h1⟩ => e ▸ .tup (SqT.of h) (.cons (.str _) (.cons (.int _) (.cons (.int _) (.cons (dp_field a u1 h1) .nil))))
  | .lt _ a b, _, ⟨p, u1, u2, e, h, h1, h2⟩ => e ▸ .tup (SqT.of h) (.cons (.str _) (.cons (.str _) (.cons (dp_field a u1 h1) (.cons (dp_field b u2 h2) .nil))))
  | .nm _, _, ⟨p, e, h⟩ => e ▸ .tup (SqT.of h) (.cons (.str _) (.cons (.str _) .nil))
theorem log_small {i : Int} (h0 : -1000000000 ≤ i) (h1 : i ≤ 1000000000) : i.natAbs.log2 < 1920 := by
  by_cases e : i.natAbs = 0
  · rw [e]; decide
  · have hb : i.natAbs < 2 ^ 1920 := by
      have z : (2 : Nat) ^ 30 ≤ 2 ^ 1920 := Nat.pow_le_pow_right (by decide) (by decide)
      have z2 : (2 : Nat) ^ 30 = 1073741824 := by decide
      omega
    exact (Nat.log2_lt e).mpr hb
theorem show_field : ∀ F : Fd, OkF F → (dataF F).showable = true
  | .whole n, h => by simp only [dataF, PyData.showable, PyData.showableAll, decide_eq_true (log_small (i := n) (by have := h.1; omega) (by have := h.2; omega)), Bool.and_self]
  | .px, _ => by simp only [dataF, PyData.showable, PyData.showableAll, Bool.and_self]
  | .pz, _ => by simp only [dataF, PyData.showable, PyData.showableAll, Bool.and_self]
  | .noise s l, h => by simp only [dataF, PyData.showable, PyData.showableAll, decide_eq_true (log_small (i := s) (by have := h.1.1; omega) (by have := h.1.2; omega)), decide_eq_true (log_small (i := l) (by have := h.2.1; omega) (by have := h.2.2; omega)), Bool.and_self]
  | .two _ a b, h => by simp only [dataF, PyData.showable, PyData.showableAll, show_field a h.1, show_field b h.2, Bool.and_self]
  | .over a n, h => by simp only [dataF, PyData.showable, PyData.showableAll, show_field a h.1, decide_eq_true (log_small (i := n) (by have := h.2.1; omega) (by have := h.2.2; omega)), Bool.and_self]
  | .bel a b c d, h => by simp only [dataF, PyData.showable, PyData.showableAll, show_field a h.1, show_field b h.2.1, show_field c h.2.2.1, show_field d h.2.2.2, Bool.and_self]
  | .shift dx dz a, h => by simp only [dataF, PyData.showable, PyData.showableAll, show_field a h.2.2, decide_eq_true (log_small (i := dx) (by have := h.1.1; omega) (by have := h.1.2; omega)), decide_eq_true (log_small (i := dz) (by have := h.2.1.1; omega) (by have := h.2.1.2; omega)), Bool.and_self]
  | .lt _ a b, h => by simp only [dataF, PyData.showable, PyData.showableAll, show_field a h.2.1, show_field b h.2.2, Bool.and_self]
  | .nm _, _ => by simp only [dataF, PyData.showable, PyData.showableAll, Bool.and_self]
theorem nod_field : ∀ F : Fd, (dataF F).hasDict = false
  | .whole n => by simp only [dataF, PyData.hasDict, PyData.hasDictAll, Bool.or_self]
  | .px => by simp only [dataF, PyData.hasDict, PyData.hasDictAll, Bool.or_self]
  | .pz => by simp only [dataF, PyData.hasDict, PyData.hasDictAll, Bool.or_self]
  | .noise s l => by simp only [dataF, PyData.hasDict, PyData.hasDictAll, Bool.or_self]
  | .two _ a b => by simp only [dataF, PyData.hasDict, PyData.hasDictAll, nod_field a, nod_field b, Bool.or_self]
  | .over a n => by simp only [dataF, PyData.hasDict, PyData.hasDictAll, nod_field a, Bool.or_self]
  | .bel a b c d => by simp only [dataF, PyData.hasDict, PyData.hasDictAll, nod_field a, nod_field b, nod_field c, nod_field d, Bool.or_self]
  | .shift dx dz a => by simp only [dataF, PyData.hasDict, PyData.hasDictAll, nod_field a, Bool.or_self]
  | .lt _ a b => by simp only [dataF, PyData.hasDict, PyData.hasDictAll, nod_field a, nod_field b, Bool.or_self]
  | .nm _ => by simp only [dataF, PyData.hasDict, PyData.hasDictAll, Bool.or_self]
theorem depth_field : ∀ F : Fd, (dataF F).depth ≤ dep F + 3
  | .whole n => by simp only [dataF, PyData.depth, PyData.depthAll, dep]; omega
  | .px => by simp only [dataF, PyData.depth, PyData.depthAll, dep]; omega
  | .pz => by simp only [dataF, PyData.depth, PyData.depthAll, dep]; omega
  | .noise s l => by simp only [dataF, PyData.depth, PyData.depthAll, dep]; omega
  | .two _ a b => by have := depth_field a; have := depth_field b; simp only [dataF, PyData.depth, PyData.depthAll, dep]; omega
  | .over a n => by have := depth_field a; simp only [dataF, PyData.depth, PyData.depthAll, dep]; omega
  | .bel a b c d => by have := depth_field a; have := depth_field b; have := depth_field c; have := depth_field d; simp only [dataF, PyData.depth, PyData.depthAll, dep]; omega
  | .shift dx dz a => by have := depth_field a; simp only [dataF, PyData.depth, PyData.depthAll, dep]; omega
  | .lt _ a b => by have := depth_field a; have := depth_field b; simp only [dataF, PyData.depth, PyData.depthAll, dep]; omega
  | .nm _ => by simp only [dataF, PyData.depth, PyData.depthAll, dep]; omega
/-- how many fields a field is written with -/
def nodes : Fd → Nat
  | .two _ a b => 1 + (nodes a + nodes b)
  | .over a _ => 1 + nodes a
  | .bel a b c d => 1 + (nodes a + (nodes b + (nodes c + nodes d)))
  | .shift _ _ a => 1 + nodes a
  | .lt _ a b => 1 + (nodes a + nodes b)
  | _ => 1
theorem nodes_dep : ∀ (F : Fd) (d : Nat), dep F ≤ d → nodes F ≤ 5 ^ d := by
  intro F
  induction F with
  | two w a b iha ihb =>
    intro d h
    have h' : 1 + max (dep a) (dep b) ≤ d := h
    obtain ⟨d, rfl⟩ : ∃ d', d = d' + 1 := ⟨d - 1, by omega⟩
    have := iha d (by omega); have := ihb d (by omega)
    simp only [nodes, Nat.pow_succ]
    have := Nat.pow_pos (n := d) (show 0 < 5 by decide)
    omega
  | over a n iha =>
    intro d h
    have h' : 1 + dep a ≤ d := h
    obtain ⟨d, rfl⟩ : ∃ d', d = d' + 1 := ⟨d - 1, by omega⟩
    have := iha d (by omega)
    simp only [nodes, Nat.pow_succ]
    have := Nat.pow_pos (n := d) (show 0 < 5 by decide)
    omega
  | bel a b c e iha ihb ihc ihe =>
    intro d h
    have h' : 1 + max (max (dep a) (dep b)) (max (dep c) (dep e)) ≤ d := h
    obtain ⟨d, rfl⟩ : ∃ d', d = d' + 1 := ⟨d - 1, by omega⟩
    have := iha d (by omega); have := ihb d (by omega); have := ihc d (by omega); have := ihe d (by omega)
    simp only [nodes, Nat.pow_succ]
    have := Nat.pow_pos (n := d) (show 0 < 5 by decide)
    omega
  | shift dx dz a iha =>
    intro d h
    have h' : 1 + dep a ≤ d := h
    obtain ⟨d, rfl⟩ : ∃ d', d = d' + 1 := ⟨d - 1, by omega⟩
    have := iha d (by omega)
    simp only [nodes, Nat.pow_succ]
    have := Nat.pow_pos (n := d) (show 0 < 5 by decide)
    omega
  | lt x a b iha ihb =>
    intro d h
    have h' : 1 + max (dep a) (dep b) ≤ d := h
    obtain ⟨d, rfl⟩ : ∃ d', d = d' + 1 := ⟨d - 1, by omega⟩
    have := iha d (by omega); have := ihb d (by omega)
    simp only [nodes, Nat.pow_succ]
    have := Nat.pow_pos (n := d) (show 0 < 5 by decide)
    omega
  | _ => intro d _; exact Nat.one_le_iff_ne_zero.mpr (Nat.pos_iff_ne_zero.mp (Nat.pow_pos (by decide)))
theorem tuple_len (ts : List Str) : (tupleText ts).length ≤ piled ts + 2 := by
  unfold tupleText
  rw [strLen_append, strLen_append]
  have e1 : ((("(" : String) : Str)).length = 1 := rfl
  have e3 : (((if ts.length == 1 then ",)" else ")" : String) : Str)).length ≤ 2 := by split <;> decide
  rw [e1]
  by_cases h : ts = []
  · subst h
    have z : (Str.join ", " ([] : List Str)).length = 0 := rfl
    have z2 : (((if ([] : List Str).length == 1 then ",)" else ")" : String) : Str)).length = 1 := rfl
    rw [z, z2]
    exact Nat.le_add_left _ _
  · have := join_length_add ts h
    omega
theorem int_len {i : Int} (h0 : -1000000000 ≤ i) (h1 : i ≤ 1000000000) : (PyData.shown (.int i)).length ≤ 12 := by
  have e := int_text_length_le10 (a := i) (k := 10) (by decide) (by omega)
  show (Str.ofString (toString i)).length ≤ 12
  rw [ofString_length]
  omega
theorem name_len {x : Str} (h : NameOk x) : (PyData.shown (.str x)).length ≤ 82 := by
  have e := StrLaws.reprText_len x (fun c hc => by have := (h.2.2 c hc).2; omega)
  have := h.2.1
  show (reprText x).length ≤ 82
  omega
theorem word_len (w : W2) : (PyData.shown (.str w.word)).length ≤ 10 := by cases w <;> decide +kernel
theorem len_field : ∀ F : Fd, OkF F → (dataF F).shown.length ≤ 150 * nodes F
  | .whole n, h => by
    have e := tuple_len (PyData.shownAll [.str "whole", .int n])
    have h1 := int_len (i := n) (by have := h.1; omega) (by have := h.2; omega)
    have h2 : (PyData.shown (.str "whole")).length ≤ 20 := by decide +kernel
    simp only [PyData.shownAll, piled_cons, piled_nil] at e
    simp only [dataF, PyData.shown, nodes, PyData.shownAll] at e h1 h2 ⊢
    omega
  | .px, _ => by
    have z : (dataF .px).shown.length ≤ 20 := by decide +kernel
    simp only [nodes]; omega
  | .pz, _ => by
    have z : (dataF .pz).shown.length ≤ 20 := by decide +kernel
    simp only [nodes]; omega
  | .noise s l, h => by
    have e := tuple_len (PyData.shownAll [.str "noise", .int s, .int l])
    have h1 := int_len (i := s) (by have := h.1.1; omega) (by have := h.1.2; omega)
    have h3 := int_len (i := l) (by have := h.2.1; omega) (by have := h.2.2; omega)
    have h2 : (PyData.shown (.str "noise")).length ≤ 20 := by decide +kernel
    simp only [PyData.shownAll, piled_cons, piled_nil] at e
    simp only [dataF, PyData.shown, nodes, PyData.shownAll] at e h1 h2 h3 ⊢
    omega
  | .two w a b, h => by
    have e := tuple_len (PyData.shownAll [.str w.word, dataF a, dataF b])
    have ha := len_field a h.1
    have hb := len_field b h.2
    have h2 := word_len w
    simp only [PyData.shownAll, piled_cons, piled_nil] at e
    simp only [dataF, PyData.shown, nodes, PyData.shownAll] at e h2 ⊢
    omega
  | .over a n, h => by
    have e := tuple_len (PyData.shownAll [.str "over", dataF a, .int n])
    have ha := len_field a h.1
    have h1 := int_len (i := n) (by have := h.2.1; omega) (by have := h.2.2; omega)
    have h2 : (PyData.shown (.str "over")).length ≤ 20 := by decide +kernel
    simp only [PyData.shownAll, piled_cons, piled_nil] at e
    simp only [dataF, PyData.shown, nodes, PyData.shownAll] at e h1 h2 ⊢
    omega
  | .bel a b c d, h => by
    have e := tuple_len (PyData.shownAll [.str "below", dataF a, dataF b, dataF c, dataF d])
    have ha := len_field a h.1
    have hb := len_field b h.2.1
    have hc := len_field c h.2.2.1
    have hd := len_field d h.2.2.2
    have h2 : (PyData.shown (.str "below")).length ≤ 20 := by decide +kernel
    simp only [PyData.shownAll, piled_cons, piled_nil] at e
    simp only [dataF, PyData.shown, nodes, PyData.shownAll] at e h2 ⊢
    omega
  | .shift dx dz a, h => by
    have e := tuple_len (PyData.shownAll [.str "shift", .int dx, .int dz, dataF a])
    have ha := len_field a h.2.2
    have h1 := int_len (i := dx) (by have := h.1.1; omega) (by have := h.1.2; omega)
    have h3 := int_len (i := dz) (by have := h.2.1.1; omega) (by have := h.2.1.2; omega)
    have h2 : (PyData.shown (.str "shift")).length ≤ 20 := by decide +kernel
    simp only [PyData.shownAll, piled_cons, piled_nil] at e
    simp only [dataF, PyData.shown, nodes, PyData.shownAll] at e h1 h2 h3 ⊢
    omega
  | .lt x a b, h => by
    have e := tuple_len (PyData.shownAll [.str "let", .str x, dataF a, dataF b])
    have ha := len_field a h.2.1
    have hb := len_field b h.2.2
    have h1 := name_len h.1
    have h2 : (PyData.shown (.str "let")).length ≤ 20 := by decide +kernel
    simp only [PyData.shownAll, piled_cons, piled_nil] at e
    simp only [dataF, PyData.shown, nodes, PyData.shownAll] at e h1 h2 ⊢
    omega
  | .nm x, h => by
    have e := tuple_len (PyData.shownAll [.str "name", .str x])
    have h1 := name_len h
    have h2 : (PyData.shown (.str "name")).length ≤ 20 := by decide +kernel
    simp only [PyData.shownAll, piled_cons, piled_nil] at e
    simp only [dataF, PyData.shown, nodes, PyData.shownAll] at e h1 h2 ⊢
    omega
end Fr

namespace L09
open PySem PySem.Spec PyProof.Rows L2 Lw Fm Fr Sm Pf
open Ec hiding g_yes
local macro_rules | `(tactic| walk_at "lw one") => `(tactic| first
  | with_reducible refine' g_seq ?_
  | with_reducible refine' g_asg ?_
  | ((with_reducible refine' g_nameN ?he ?_); case he => (simp only [List.set_cons_succ, List.set_cons_zero]; exact rfl))
  | with_reducible refine' g_name ?_
  | with_reducible refine' g_ret ?_
  | with_reducible refine' g_retN ?_
  | with_reducible refine' g_next ?_
  | with_reducible refine' g_drop ?_
  | with_reducible refine' g_ifS ?_
  | with_reducible refine' g_op ?_
  | with_reducible refine' g_c ?_
  | ((with_reducible refine' g_var ?hv ?_); case hv => exact rfl)
  | with_reducible refine' g_I0 ?_
  | ((with_reducible refine' g_I ?_ ?_); first | (show CMul _ _; first | exact Pf.cmul_mod (by decide) (by decide) | exact Pf.cmul_nn (by assumption) (by assumption) (by decide) | exact Or.inl ⟨by decide, by decide⟩ | exact Or.inl ⟨by omega, by omega⟩ | exact Or.inr ⟨by omega, by omega⟩ | exact Or.inr (Fm.knot_mul _ _ _ _)) | (show CDiv _ _; exact ⟨by omega, by omega⟩) | (show CDivW _ _; exact div_ok (by omega) (by omega)) | (show CPowW _ _; exact pow_ok (by decide +kernel)) | (show CPow _ _; exact ⟨by decide, by decide, by decide⟩) | (show (0 : Int) < _; first | omega | decide +kernel) | (show (0 : Int) ≤ _; omega) | assumption)
  | with_reducible refine' g_test ?_
  | with_reducible refine' g_B ?_
  | with_reducible refine' g_and ?_
  | with_reducible refine' g_or ?_
  | with_reducible refine' g_not ?_
  | with_reducible refine' g_andV ?_
  | with_reducible refine' g_orV ?_
  | with_reducible refine' g_notV ?_
  | with_reducible refine' g_if ?_
  | with_reducible refine' g_chain ?_
  | with_reducible refine' g_un ?_
  | with_reducible refine' g_U ?_
  | with_reducible refine' g_nil ?_
  | with_reducible refine' g_cons ?_
  | with_reducible refine' g_tup ?_
  | with_reducible refine' g_lst ?_
  | with_reducible refine' g_CB ?_
  | with_reducible refine' g_call ?_
  | with_reducible refine' g_callK ?_
  | with_reducible refine' g_bits ?_
  | with_reducible refine' g_sub ?_
  | with_reducible refine' g_for ?_
  | with_reducible refine' g_rng1 ?_
  | ((with_reducible refine' g_eq ?_ ?_); exact rfl)
  | ((with_reducible refine' g_ne ?_ ?_); exact rfl)
  | with_reducible refine' g_dget ?_
  | with_reducible refine' Pf.g_din ?_
  | with_reducible refine' Pf.g_star ?_
  | with_reducible refine' g_bm ?_
  | with_reducible refine' g_bm0 ?_
  | with_reducible refine' g_lc ?_
  | with_reducible refine' g_itup ?_
  | with_reducible refine' g_ilist ?_
  | with_reducible refine' g_sl ?_
  | with_reducible refine' g_part ?_
  | with_reducible refine' g_nopart ?_
  | with_reducible refine' g_gcons ?_
  | with_reducible refine' g_gnil ?_
  | with_reducible refine' g_dput ?_
  | with_reducible refine' g_bl ?_
  | ((with_reducible refine' iteSE ?_ ?_); exact rfl)
  | ((with_reducible refine' iteSN ?_ ?_); first | decide +kernel | exact Fm.word_ne (by decide +kernel) _)
  | with_reducible refine' g_int ?_
  | (with_reducible refine' iteNT ?_)
  | (with_reducible refine' iteNF ?_)
  | (with_reducible refine' iteT ?_)
  | (with_reducible refine' iteF ?_))
local macro_rules | `(tactic| walk_at "lw go") => `(tactic| repeat walk_at "lw one")
local macro_rules | `(tactic| walk_at "lw so") => `(tactic| first
  | with_reducible refine' g_asg ?_
  | ((with_reducible refine' g_nameN ?he ?_); case he => (simp only [List.set_cons_succ, List.set_cons_zero]; exact rfl))
  | with_reducible refine' g_name ?_
  | with_reducible refine' g_ret ?_
  | with_reducible refine' g_retN ?_
  | with_reducible refine' g_next ?_
  | with_reducible refine' g_drop ?_
  | with_reducible refine' g_ifS ?_
  | with_reducible refine' g_op ?_
  | with_reducible refine' g_c ?_
  | ((with_reducible refine' g_var ?hv ?_); case hv => exact rfl)
  | with_reducible refine' g_I0 ?_
  | ((with_reducible refine' g_I ?_ ?_); first | (show CMul _ _; first | exact Pf.cmul_mod (by decide) (by decide) | exact Pf.cmul_nn (by assumption) (by assumption) (by decide) | exact Or.inl ⟨by decide, by decide⟩ | exact Or.inl ⟨by omega, by omega⟩ | exact Or.inr ⟨by omega, by omega⟩ | exact Or.inr (Fm.knot_mul _ _ _ _)) | (show CDiv _ _; exact ⟨by omega, by omega⟩) | (show CDivW _ _; exact div_ok (by omega) (by omega)) | (show CPowW _ _; exact pow_ok (by decide +kernel)) | (show CPow _ _; exact ⟨by decide, by decide, by decide⟩) | (show (0 : Int) < _; first | omega | decide +kernel) | (show (0 : Int) ≤ _; omega) | assumption)
  | with_reducible refine' g_test ?_
  | with_reducible refine' g_B ?_
  | with_reducible refine' g_and ?_
  | with_reducible refine' g_or ?_
  | with_reducible refine' g_not ?_
  | with_reducible refine' g_andV ?_
  | with_reducible refine' g_orV ?_
  | with_reducible refine' g_notV ?_
  | with_reducible refine' g_if ?_
  | with_reducible refine' g_chain ?_
  | with_reducible refine' g_un ?_
  | with_reducible refine' g_U ?_
  | with_reducible refine' g_nil ?_
  | with_reducible refine' g_cons ?_
  | with_reducible refine' g_tup ?_
  | with_reducible refine' g_lst ?_
  | with_reducible refine' g_CB ?_
  | with_reducible refine' g_call ?_
  | with_reducible refine' g_callK ?_
  | with_reducible refine' g_bits ?_
  | with_reducible refine' g_sub ?_
  | with_reducible refine' g_for ?_
  | with_reducible refine' g_rng1 ?_
  | ((with_reducible refine' g_eq ?_ ?_); exact rfl)
  | ((with_reducible refine' g_ne ?_ ?_); exact rfl)
  | with_reducible refine' g_dget ?_
  | with_reducible refine' Pf.g_din ?_
  | with_reducible refine' Pf.g_star ?_
  | with_reducible refine' g_bm ?_
  | with_reducible refine' g_bm0 ?_
  | with_reducible refine' g_lc ?_
  | with_reducible refine' g_itup ?_
  | with_reducible refine' g_ilist ?_
  | with_reducible refine' g_sl ?_
  | with_reducible refine' g_part ?_
  | with_reducible refine' g_nopart ?_
  | with_reducible refine' g_gcons ?_
  | with_reducible refine' g_gnil ?_
  | with_reducible refine' g_dput ?_
  | with_reducible refine' g_bl ?_
  | ((with_reducible refine' iteSE ?_ ?_); exact rfl)
  | ((with_reducible refine' iteSN ?_ ?_); first | decide +kernel | exact Fm.word_ne (by decide +kernel) _)
  | with_reducible refine' g_int ?_
  | (with_reducible refine' iteNT ?_)
  | (with_reducible refine' iteNF ?_)
  | (with_reducible refine' iteT ?_)
  | (with_reducible refine' iteF ?_))
local macro_rules | `(tactic| walk_at "lw st") => `(tactic| repeat walk_at "lw so")
local macro_rules | `(tactic| walk_at "lw i0") => `(tactic| refine' g_cast (by (simp only [L2.start, List.map_cons, List.map_nil, List.length_cons, List.length_nil, List.replicate_succ, List.replicate_zero, List.cons_append, List.nil_append, Nat.reduceAdd, Nat.reduceSub, Nat.sub_self]; exact rfl)) ?_)
local macro_rules | `(tactic| walk_at "lw ns") => `(tactic| simp only [List.set_cons_succ, List.set_cons_zero])
abbrev FnP (K : PySem.W.Frag) (x : Str) (st : Stmt) (f : Addr) (fd : FuncData) : Prop := FunD K x x (defArgs st) (defBody st) (defScope st) [] [] f fd
structure Bi (mg : Str → Option Value) : Prop where
  isinstance : mg "isinstance" = none
  int : mg "int" = none
  bool : mg "bool" = none
  str : mg "str" = none
  len : mg "len" = none
  tuple : mg "tuple" = none
  reversed : mg "reversed" = none
  enumerate : mg "enumerate" = none
  zip : mg "zip" = none
  min : mg "min" = none
  max : mg "max" = none
  range : mg "range" = none
  list : mg "list" = none
  abs : mg "abs" = none
  sum : mg "sum" = none
  dict : mg "dict" = none
  repr : mg "repr" = none
structure Kn (K : PySem.W.Frag) (mg : Str → Option Value) : Prop where
  c_EDGE : ∃ t, mg "EDGE" = some (.int (1000000) t)
  g_ALL_POINTS : mg "ALL_POINTS" = some (.ref (He.ga K "ALL_POINTS"))
  v_ALL_POINTS : ∀ H : Hp, SqT K H (He.ga K "ALL_POINTS") [V.int (-1000000), V.int (-1000000), V.int (1000000), V.int (1000000)]
  c_LONGEST_NAME : ∃ t, mg "LONGEST_NAME" = some (.int (8) t)
  c_MOST_SQUARES : ∃ t, mg "MOST_SQUARES" = some (.int (64) t)
  c_GREATEST_KNOT : ∃ t, mg "GREATEST_KNOT" = some (.int (65535) t)
  c_MOST_FIELDS : ∃ t, mg "MOST_FIELDS" = some (.int (200) t)
  c_GREATEST_VALUE : ∃ t, mg "GREATEST_VALUE" = some (.int (1000000000000000000000000000000) t)
  c_BEYOND : ∃ t, mg "BEYOND" = some (.int (1000000000000000000000000000001) t)
  g_PAIRS : mg "PAIRS" = some (.ref (He.ga K "PAIRS"))
  v_PAIRS : ∀ H : Hp, SqT K H (He.ga K "PAIRS") [V.str "plus", V.str "less", V.str "times", V.str "least", V.str "most"]
  g_PLACE : mg "PLACE" = some (.ref (He.ga K "PLACE"))
  v_PLACE : ∀ H : Hp, SqT K H (He.ga K "PLACE") [V.int (1), V.int (1200000)]
  g_NOISE : mg "NOISE" = some (.ref (He.ga K "NOISE"))
  v_NOISE : ∀ H : Hp, SqT K H (He.ga K "NOISE") [V.int (1), V.int (65535)]
  g_NoRules : mg "NoRules" = some (.ref (Ec.cA K "NoRules"))
  g_NoBox : mg "NoBox" = some (.ref (Ec.cA K "NoBox"))
  g_NoPoint : mg "NoPoint" = some (.ref (Ec.cA K "NoPoint"))
  g_NoLevel : mg "NoLevel" = some (.ref (Ec.cA K "NoLevel"))
  g_NoCount : mg "NoCount" = some (.ref (Ec.cA K "NoCount"))
  g_NoEdit : mg "NoEdit" = some (.ref (Ec.cA K "NoEdit"))
  g_Full : mg "Full" = some (.ref (Ec.cA K "Full"))
  g_NoDeed : mg "NoDeed" = some (.ref (Ec.cA K "NoDeed"))
  g_NoBrush : mg "NoBrush" = some (.ref (Ec.cA K "NoBrush"))
  g_NoText : mg "NoText" = some (.ref (Ec.cA K "NoText"))
  g_NoLine : mg "NoLine" = some (.ref (Ec.cA K "NoLine"))
  g_NoSuch : mg "NoSuch" = some (.ref (Ec.cA K "NoSuch"))
  g_LandError : mg "LandError" = some (.ref (Ec.cA K "LandError"))
  er : Errs csK kinsK [] K
  mP : PySem.W.exmOne K (.ref (cA K "NoBox")) (.ref (cA K "LandError")) = some true
  kN : ∀ y ∈ nmC ++ (["LandError"] : List Str), PySem.W.kitOne K (.type "NoneType") (.ref (cA K y)) = some false
theorem pe_gI {X : Cx} {x : Str} {i : Int} {pos : Pos} (hg : Gl X x) (h : ∃ t, X.mg x = some (.int i t)) (hd : (x == ("__debug__" : Str)) = false := by decide) : PE X (.Name x pos) (tC (.int i)) := by
  obtain ⟨t, e⟩ := h
  exact pe_glob hg e ⟨t, rfl⟩ hd
theorem pe_gR {X : Cx} {x : Str} {a : Addr} {pos : Pos} (hg : Gl X x) (h : X.mg x = some (.ref a)) (hd : (x == ("__debug__" : Str)) = false := by decide) : PE X (.Name x pos) (tC (.ref a)) := pe_glob (v := .ref a) hg h rfl hd

/-! ### knots, drawn numbers -/
theorem bl_of {b : Bool} {Q : VK} {H : Hp} (h : b = true) (q : Q (.bl true) H) : Q (.bl b) H := by
  rw [h]
  exact q
def spKnot : Sp := fun vs H Q _ => ∃ a b c d : Int, vs = [.int a, .int b, .int c, .int d] ∧ Q (.int (knotL a b c d)) H
def spAt (K : PySem.W.Frag) : Sp := fun vs H Q _ => ∃ (a : Addr) (ns : List Int) (k : Int), vs = [.ref a, .int k] ∧ SqL K H a (ns.map V.int) ∧ 0 ≤ k ∧ ∀ n : Int, Q (.int n) H
def spMixed : Sp := fun vs H Q _ => ∃ (a k : Int), vs = [.int a, .int k] ∧ 0 ≤ k ∧ k < 2 ^ 64 ∧ ∀ n : Int, Q (.int n) H
/-- a purse: two numbers and a count of at most m -/
structure Purse (m : Int) (o : HO) : Prop where
  ex : ∃ a b c : Int, o = .lst [.int a, .int b, .int c] ∧ 0 ≤ c ∧ c ≤ m
theorem Purse.mono {m m' : Int} {o : HO} (h : Purse m o) (l : m ≤ m') : Purse m' o := by
  obtain ⟨a, b, c, e, c0, c1⟩ := h.ex
  exact ⟨a, b, c, e, c0, by omega⟩
def spPurse (K : PySem.W.Frag) : Sp := fun vs H Q _ => ∃ (a : Addr) (ns : List Int) (k : Int), vs = [.ref a, .int k] ∧ SqL K H a (ns.map V.int) ∧ 0 ≤ k ∧ k ≤ 64 ∧ ∀ p o, H p = none → Purse 64000 o → Q (.ref p) (upd H p o)
def spDraw : Sp := fun vs H Q _ => ∃ (p : Addr) (n m : Int) (o : HO), vs = [.ref p, .int n] ∧ H p = some o ∧ Purse m o ∧ m ≤ 1000000000000000 ∧ 0 < n ∧ n ≤ 1000000000000000000000000000000 ∧
  ∀ (d : Int) (o' : HO), 0 ≤ d → d < n → Purse (m + 4) o' → Q (.int d) (upd H p o')
def spWhole : Sp := fun vs H Q _ => ∃ n : Int, vs = [.int n] ∧ Q (.bl true) H
/-- a def that draws a number from lo to hi from the purse -/
def spNum (lo hi : Int) : Sp := fun vs H Q _ => ∃ (p : Addr) (m : Int) (o : HO), vs = [.ref p] ∧ H p = some o ∧ Purse m o ∧ m ≤ 100000000000000 ∧
  ∀ (g : Int) (o' : HO) (H' : Hp), lo ≤ g → g ≤ hi → Keep p H H' → H' p = some o' → Purse (m + 12) o' → Q (.int g) H'
def spNoise : Sp := fun vs H Q _ => ∃ (p : Addr) (w : V) (s l g x z : Int) (r : List V), vs = [.ref p, .int g, .int x, .int z] ∧ H p = some (.tup (w :: .int s :: .int l :: r)) ∧ 0 ≤ l ∧ l ≤ 8 ∧ Q (.int (noiseL g s l x z)) H
def spTwo : Sp := fun vs H Q _ => ∃ (w : W2) (a b : Int), vs = [.str w.word, .int a, .int b] ∧ (w = .times → CMulW a b) ∧ Q (.int (w.op a b)) H
def spValue (n : Nat) : Sp := fun vs H Q _ => ∃ (u : V) (F : Fd) (g x z : Int) (d : Addr) (m k : Nat) (r : Fm.Env) (δ : List (Str × Nat)), vs = [u, .int g, .int x, .int z, .ref d] ∧ FRep F H u ∧ EnvR m H d r δ ∧ Bnd F (r.map (·.1)) ∧ udep F δ ≤ n ∧ OkE (expand F r) ∧
  vb (expand F r) k ≤ 400000 ∧ 34 ≤ k ∧ x.natAbs < 2 ^ k ∧ z.natAbs < 2 ^ k ∧ r.length + n ≤ 1000 ∧ ∀ H', Same H H' → Q (.int (valE (expand F r) g x z)) H'
theorem udep_pos : ∀ (F : Fd) (δ : List (Str × Nat)), 1 ≤ udep F δ
  | .whole _, _ => Nat.le_refl 1
  | .px, _ => Nat.le_refl 1
  | .pz, _ => Nat.le_refl 1
  | .noise _ _, _ => Nat.le_refl 1
  | .two _ _ _, _ => Nat.le_add_right 1 _
  | .over _ _, _ => Nat.le_add_right 1 _
  | .bel _ _ _ _, _ => Nat.le_add_right 1 _
  | .shift _ _ _, _ => Nat.le_add_right 1 _
  | .lt _ _ _, _ => Nat.le_add_right 1 _
  | .nm _, _ => Nat.le_add_right 1 _
theorem spValue_zero {vs : List V} {H : Hp} {Q : VK} {E : XK} (h : spValue 0 vs H Q E) : False := by
  obtain ⟨u, F, g, x, z, d, m, k, r, δ, _, _, _, _, h, _⟩ := h
  have := udep_pos F δ
  omega
/-- a pair of numbers at p -/
abbrev Pair (H : Hp) (p : Addr) (ab : Int × Int) : Prop := H p = some (.tup [.int ab.1, .int ab.2])
/-- hands back a pair, nothing else changed -/
def PairTo (H : Hp) (Q : VK) (ab : Int × Int) : Prop := ∀ p H', Same H H' → Pair H' p ab → Q (.ref p) H'
theorem PairTo.new {H : Hp} {Q : VK} {ab : Int × Int} {a b : Int} (q : PairTo H Q ab) (e1 : a = ab.1) (e2 : b = ab.2) {H1 : Hp} (s : Same H H1) : [V.int a, V.int b].length ≤ sizeLine ∧ ∀ p, H1 p = none → Q (.ref p) (upd H1 p (.tup [.int a, .int b])) := by
  subst e1 e2
  exact ⟨by show 2 ≤ sizeLine; decide, fun p hp => q p _ (s.trans (same_new hp)) upd_same⟩
def spTwoR : Sp := fun vs H Q _ => ∃ (w : W2) (p1 p2 : Addr) (a b : Int × Int), vs = [.str w.word, .ref p1, .ref p2] ∧ Pair H p1 a ∧ Pair H p2 b ∧ (w = .times → CMulW a.1 b.1 ∧ CMulW a.1 b.2 ∧ CMulW a.2 b.1 ∧ CMulW a.2 b.2) ∧ PairTo H Q (w.rng a b)
def spBelR : Sp := fun vs H Q _ => ∃ (p1 p2 p3 p4 : Addr) (a b c d : Int × Int), vs = [.ref p1, .ref p2, .ref p3, .ref p4] ∧ Pair H p1 a ∧ Pair H p2 b ∧ Pair H p3 c ∧ Pair H p4 d ∧ PairTo H Q (belR a b c d)
def spNR : Sp := fun vs H Q _ => ∃ (p ar : Addr) (w : V) (s l g x0 z0 x1 z1 : Int) (r : List V), vs = [.ref p, .int g, .ref ar] ∧ H p = some (.tup (w :: .int s :: .int l :: r)) ∧ H ar = some (.tup [.int x0, .int z0, .int x1, .int z1]) ∧ 0 ≤ l ∧ l ≤ 8 ∧
  x0 ≤ x1 ∧ z0 ≤ z1 ∧ x0.natAbs ≤ 1000000000 ∧ x1.natAbs ≤ 1000000000 ∧ z0.natAbs ≤ 1000000000 ∧ z1.natAbs ≤ 1000000000 ∧ PairTo H Q (exactN g s l x0 z0 x1 z1)
theorem min_if (a b : Int) : (if b < a then b else a) = min a b := by
  split <;> omega
theorem max_if (a b : Int) : (if b > a then b else a) = max a b := by
  split <;> omega
theorem g_rng2 {σ : L2.St} {H : Hp} {ts : TA} {R : It → Hp → Prop} (q : ts σ H fun vs H1 => ∃ i j : Int, vs = [.int i, .int j] ∧ (-(2 ^ 62) ≤ i ∧ i < 2 ^ 62 ∧ -(2 ^ 62) ≤ j ∧ j < 2 ^ 62) ∧ R (Itr i (j - i).toNat) H1) : iRng2 ts σ H R := q
/-- the noise that the law looks at in a square, at first and last point either way -/
def sqV (g s l x0 z0 x1 z1 S i j : Int) : List Int := [noiseL g s l (max x0 (i * S)) (max z0 (j * S)), noiseL g s l (max x0 (i * S)) (min z1 (j * S + S - 1)), noiseL g s l (min x1 (i * S + S - 1)) (max z0 (j * S)), noiseL g s l (min x1 (i * S + S - 1)) (min z1 (j * S + S - 1))]
def lineV (g s l x0 z0 x1 z1 S i : Int) (m : Nat) : List Int := (List.range m).flatMap fun (b : Nat) => sqV g s l x0 z0 x1 z1 S i (z0 / S + b)
def gridV (g s l x0 z0 x1 z1 S : Int) (n m : Nat) : List Int := (List.range n).flatMap fun (a : Nat) => lineV g s l x0 z0 x1 z1 S (x0 / S + a) m
theorem lineV_succ (g s l x0 z0 x1 z1 S i : Int) (m : Nat) : lineV g s l x0 z0 x1 z1 S i (m + 1) = lineV g s l x0 z0 x1 z1 S i m ++ sqV g s l x0 z0 x1 z1 S i (z0 / S + m) := by
  unfold lineV
  rw [List.range_succ, List.flatMap_append]
  simp
theorem gridV_succ (g s l x0 z0 x1 z1 S : Int) (n m : Nat) : gridV g s l x0 z0 x1 z1 S (n + 1) m = gridV g s l x0 z0 x1 z1 S n m ++ lineV g s l x0 z0 x1 z1 S (x0 / S + n) m := by
  unfold gridV
  rw [List.range_succ, List.flatMap_append]
  simp
theorem lineV_len (g s l x0 z0 x1 z1 S i : Int) (m : Nat) : (lineV g s l x0 z0 x1 z1 S i m).length = 4 * m := by
  induction m with
  | zero => rfl
  | succ m ih =>
    rw [lineV_succ, List.length_append, ih]
    show 4 * m + 4 = 4 * (m + 1)
    omega
theorem gridV_len (g s l x0 z0 x1 z1 S : Int) (n m : Nat) : (gridV g s l x0 z0 x1 z1 S n m).length = 4 * (n * m) := by
  induction n with
  | zero => simp [gridV]
  | succ n ih =>
    have e : (n + 1) * m = n * m + m := Nat.succ_mul n m
    rw [gridV_succ, List.length_append, ih, lineV_len]
    omega
theorem gridV_exact {g s l x0 z0 x1 z1 S : Int} {n m : Nat} (S0 : 0 < S) (hS : (2 : Int) ^ l.toNat = S) (hx : x0 ≤ x1) (hz : z0 ≤ z1) (few : sqs (2 ^ l.toNat) x0 z0 x1 z1 ≤ 64) (hn : (n : Int) = x1 / S - x0 / S + 1) (hm : (m : Int) = z1 / S - z0 / S + 1) :
    exactN g s l x0 z0 x1 z1 = (lMin (gridV g s l x0 z0 x1 z1 S n m), lMax (gridV g s l x0 z0 x1 z1 S n m)) := by
  refine exact_of hx hz few (fun v hv => ?_) (fun x hx2 z hz2 => ?_)
  · obtain ⟨a, ha, hv⟩ := List.mem_flatMap.mp hv
    obtain ⟨b, hb, hv⟩ := List.mem_flatMap.mp hv
    have ha := List.mem_range.mp ha
    have hb := List.mem_range.mp hb
    have ix := sq_in (i := x0 / S + (a : Int)) S0 hx (by omega) (by omega)
    have iz := sq_in (i := z0 / S + (b : Int)) S0 hz (by omega) (by omega)
    simp only [sqV, List.mem_cons, List.not_mem_nil, or_false] at hv
    rcases hv with rfl | rfl | rfl | rfl <;> exact ⟨_, _, by omega, by omega, by omega, by omega, rfl⟩
  · rw [hS] at hx2 hz2
    obtain ⟨i, i0, i1, hi⟩ := turn_sq S0 hx hx2
    obtain ⟨j, j0, j1, hj⟩ := turn_sq S0 hz hz2
    refine List.mem_flatMap.mpr ⟨(i - x0 / S).toNat, List.mem_range.mpr (by omega), List.mem_flatMap.mpr ⟨(j - z0 / S).toNat, List.mem_range.mpr (by omega), ?_⟩⟩
    rw [show x0 / S + ((i - x0 / S).toNat : Int) = i by omega, show z0 / S + ((j - z0 / S).toNat : Int) = j by omega]
    rcases hi with rfl | rfl <;> rcases hj with rfl | rfl <;> simp [sqV]
structure Wide (x0 z0 x1 z1 : Int) (n : Nat) : Prop where
  wx : x0 ≤ x1
  wz : z0 ≤ z1
  bx0 : x0.natAbs + 1000 * n ≤ 1000000000
  bx1 : x1.natAbs + 1000 * n ≤ 1000000000
  bz0 : z0.natAbs + 1000 * n ≤ 1000000000
  bz1 : z1.natAbs + 1000 * n ≤ 1000000000
theorem Wide.le {x0 z0 x1 z1 : Int} {n n' : Nat} (h : Wide x0 z0 x1 z1 n) (l : n' ≤ n) : Wide x0 z0 x1 z1 n' := by
  obtain ⟨h1, h2, h3, h4, h5, h6⟩ := h
  exact ⟨h1, h2, by omega, by omega, by omega, by omega⟩
theorem Wide.shift {x0 z0 x1 z1 dx dz : Int} {n : Nat} (h : Wide x0 z0 x1 z1 (n + 1)) (hx : -1000 ≤ dx ∧ dx ≤ 1000) (hz : -1000 ≤ dz ∧ dz ≤ 1000) : Wide (x0 + dx) (z0 + dz) (x1 + dx) (z1 + dz) n := by
  obtain ⟨h1, h2, h3, h4, h5, h6⟩ := h
  exact ⟨by omega, by omega, by omega, by omega, by omega, by omega⟩
def spRange (n : Nat) : Sp := fun vs H Q _ => ∃ (u : V) (F : Fd) (g x0 z0 x1 z1 : Int) (ar d : Addr) (m k : Nat) (r : Fm.Env) (δ : List (Str × Nat)), vs = [u, .int g, .ref ar, .ref d] ∧ FRep F H u ∧ H ar = some (.tup [.int x0, .int z0, .int x1, .int z1]) ∧
  EnvR m H d r δ ∧ Bnd F (r.map (·.1)) ∧ udep F δ ≤ n ∧ OkE (expand F r) ∧ vb (expand F r) k ≤ 400000 ∧ 34 ≤ k ∧ B2 (x0, x1) k ∧ B2 (z0, z1) k ∧ Wide x0 z0 x1 z1 n ∧ r.length + n ≤ 1000 ∧ PairTo H Q (rangeG (exactN g) (expand F r) x0 z0 x1 z1)
theorem spRange_zero {vs : List V} {H : Hp} {Q : VK} {E : XK} (h : spRange 0 vs H Q E) : False := by
  obtain ⟨u, F, g, x0, z0, x1, z1, ar, d, m, k, r, δ, _, _, _, _, _, h, _⟩ := h
  have := udep_pos F δ
  omega
theorem PairTo.later {H H1 : Hp} {Q : VK} {ab : Int × Int} (q : PairTo H Q ab) (s : Same H H1) : PairTo H1 Q ab := fun p H' s' h => q p H' (s.trans s') h
theorem name_strOk {x : Str} (h : NameOk x) : PyData.strOk x = true := by
  unfold PyData.strOk
  rw [Array.all_eq_true']
  intro c hc
  have := h.2.2 c (by simpa using hc)
  exact decide_eq_true (by omega)
theorem lay_strs : ∀ ks : List Str, (∀ x ∈ ks, NameOk x) → PyData.canLayAll0 (ks.map PyData.str) = true
  | [], _ => rfl
  | x :: r, h => by
    show (PyData.canLay0 (.str x) && PyData.canLayAll0 (r.map PyData.str)) = true
    rw [lay_strs r fun y hy => h y (List.mem_cons_of_mem _ hy)]
    show (PyData.strOk x && true) = true
    rw [name_strOk (h x List.mem_cons_self)]
    rfl
theorem depth_strs : ∀ ks : List Str, PyData.depthAll (ks.map PyData.str) ≤ 1
  | [] => by decide
  | x :: r => by
    have h := depth_strs r
    have e : PyData.depthAll ((x :: r).map PyData.str) = max (PyData.depth (.str x)) (PyData.depthAll (r.map PyData.str)) := rfl
    have e2 : PyData.depth (.str x) ≤ 1 := by simp [PyData.depth]
    omega
theorem shaped_strs (ks : List Str) (hk : ∀ x ∈ ks, NameOk x) : SeqAt.shaped (.list (ks.map PyData.str)) = true := by
  have h1 : PyData.canLay0 (.list (ks.map PyData.str)) = true := lay_strs ks hk
  have h2 : PyData.depth (.list (ks.map PyData.str)) ≤ 64 := by
    have h := depth_strs ks
    have e : PyData.depth (.list (ks.map PyData.str)) = PyData.depthAll (ks.map PyData.str) + 1 := rfl
    omega
  unfold SeqAt.shaped
  rw [h1, decide_eq_true h2]
  rfl
theorem dpAll_strs {K : PySem.W.Frag} {H : Hp} : ∀ ks : List Str, DpAll K H (ks.map V.str) (ks.map PyData.str)
  | [] => .nil
  | x :: r => .cons (.str x) (dpAll_strs r)
theorem eqv_strs_nil : ∀ ks : List Str, PyData.eqv (.list (ks.map PyData.str)) (.list []) = decide (ks = [])
  | [] => by decide
  | x :: r => by simp [PyData.eqv, PyData.eqvAll]
def spNumber : Sp := fun vs H Q _ => ∃ (p : Addr) (n m : Int) (o : HO), vs = [.ref p, .int n] ∧ H p = some o ∧ Purse m o ∧ m ≤ 100000000000000 ∧ 1 ≤ n ∧ n ≤ 1000000000 ∧
  ∀ (g : Int) (o' : HO) (H' : Hp), -(max n 1000) < g → g < max n 1000 → Keep p H H' → H' p = some o' → Purse (m + 12) o' → Q (.int g) H'
theorem four_at {a b c d : V} {e : Int} (h0 : 0 ≤ e) (h1 : e < 4) : ∃ v, atI [a, b, c, d] e = some v ∧ (v = a ∨ v = b ∨ v = c ∨ v = d) := by
  rcases (show e = 0 ∨ e = 1 ∨ e = 2 ∨ e = 3 by omega) with rfl | rfl | rfl | rfl
  · exact ⟨a, rfl, .inl rfl⟩
  · exact ⟨b, rfl, .inr (.inl rfl)⟩
  · exact ⟨c, rfl, .inr (.inr (.inl rfl))⟩
  · exact ⟨d, rfl, .inr (.inr (.inr rfl))⟩
/-- hands back a drawn field -/
def FTo (p : Addr) (H : Hp) (Q : VK) (ks : List Str) (d : Nat) (m : Int) : Prop := ∀ u F H' o', FRep F H' u → dep F ≤ d → OkF F → Bnd F ks → Keep p H H' → H' p = some o' → Purse m o' → Q u H'
def spLeaf : Sp := fun vs H Q _ => ∃ (p kl : Addr) (ks : List Str) (m : Int) (o : HO), vs = [.ref p, .ref kl] ∧ H p = some o ∧ Purse m o ∧ m ≤ 10000000000000 ∧ H kl = some (.lst (ks.map V.str)) ∧ ks.length ≤ 1000 ∧ (∀ x ∈ ks, NameOk x) ∧ FTo p H Q ks 0 (m + 40)
theorem purse_ne {H : Hp} {p kl : Addr} {o : HO} {m : Int} {ks : List Str} (hp : H p = some o) (hP : Purse m o) (hk : H kl = some (.lst (ks.map V.str))) : kl ≠ p := by
  rintro rfl
  obtain ⟨a, b, c, e, _⟩ := hP.ex
  rw [hk, e] at hp
  have z : ks.map V.str = [V.int a, V.int b, V.int c] := by
    have := Option.some.inj hp
    injection this
  cases ks with
  | nil => cases z
  | cons x r => cases z
def costF : Nat → Int
  | 0 => 100
  | d + 1 => 5 * costF d
theorem costF_pos : ∀ d, 100 ≤ costF d
  | 0 => Int.le_refl 100
  | d + 1 => by have := costF_pos d; simp only [costF]; omega
def spField (n : Nat) : Sp := fun vs H Q _ => ∃ (p kl : Addr) (ks : List Str) (dn : Nat) (m : Int) (o : HO), vs = [.ref p, .int dn, .ref kl] ∧ dn + 1 ≤ n ∧ H p = some o ∧ Purse m o ∧ m + costF dn ≤ 9000000000000 ∧ H kl = some (.lst (ks.map V.str)) ∧ ks.length + dn ≤ 900 ∧
  (∀ x ∈ ks, NameOk x) ∧ FTo p H Q ks dn (m + costF dn)
theorem spField_zero {vs : List V} {H : Hp} {Q : VK} {E : XK} (h : spField 0 vs H Q E) : False := by
  obtain ⟨p, kl, ks, dn, m, o, _, h, _⟩ := h
  omega
theorem names4 : NameOk "a" ∧ NameOk "b" ∧ NameOk "ab" ∧ NameOk "abcdefgh" := by
  refine ⟨⟨by decide, by decide, ?_⟩, ⟨by decide, by decide, ?_⟩, ⟨by decide, by decide, ?_⟩, ⟨by decide, by decide, ?_⟩⟩ <;> decide +kernel
theorem six_word {e : Int} (h0 : 0 ≤ e) (h1 : e < 6) : ∃ w : W2, atI [V.str "plus", .str "less", .str "times", .str "least", .str "most", .str "plus"] e = some (.str w.word) := by
  rcases (show e = 0 ∨ e = 1 ∨ e = 2 ∨ e = 3 ∨ e = 4 ∨ e = 5 by omega) with rfl | rfl | rfl | rfl | rfl | rfl
  · exact ⟨.plus, rfl⟩
  · exact ⟨.less, rfl⟩
  · exact ⟨.times, rfl⟩
  · exact ⟨.least, rfl⟩
  · exact ⟨.most, rfl⟩
  · exact ⟨.plus, rfl⟩
theorem three_at {a b c : V} {e : Int} (h0 : 0 ≤ e) (h1 : e < 3) : ∃ v, atI [a, b, c] e = some v ∧ (v = a ∨ v = b ∨ v = c) := by
  rcases (show e = 0 ∨ e = 1 ∨ e = 2 by omega) with rfl | rfl | rfl
  · exact ⟨a, rfl, .inl rfl⟩
  · exact ⟨b, rfl, .inr (.inl rfl)⟩
  · exact ⟨c, rfl, .inr (.inr rfl)⟩
theorem keep_l {p kl : Addr} {H H' : Hp} {u : HO} (k : Keep p H H') (n : kl ≠ p) (h : H kl = some u) : H' kl = some u := k _ _ n h
theorem keep_rep {p : Addr} {H H' : Hp} {o : HO} {m : Int} {F : Fd} {u : V} (k : Keep p H H') (hp : H p = some o) (hP : Purse m o) (h : FRep F H u) : FRep F H' u := by
  obtain ⟨a, b, c, e, _⟩ := hP.ex
  subst e
  exact h.mono (keep_tup k hp)
def PairsTo (H : Hp) (Q : VK) (ps : List (Int × Int)) : Prop := ∀ l vs H', Same H H' → H' l = some (.lst vs) → PairsR H' vs ps → Q (.ref l) H'
theorem PairsTo.later {H H1 : Hp} {Q : VK} {ps : List (Int × Int)} (q : PairsTo H Q ps) (s : Same H H1) : PairsTo H1 Q ps := fun l vs H' s' h => q l vs H' (s.trans s') h
def spAllR (n : Nat) : Sp := fun vs H Q _ => ∃ (u : V) (F : Fd) (x0 z0 x1 z1 : Int) (ar d : Addr) (m k : Nat) (r : Fm.Env) (δ : List (Str × Nat)), vs = [u, .ref ar, .ref d] ∧ FRep F H u ∧ H ar = some (.tup [.int x0, .int z0, .int x1, .int z1]) ∧
  EnvR m H d r δ ∧ Bnd F (r.map (·.1)) ∧ udep F δ ≤ n ∧ OkE (expand F r) ∧ vb (expand F r) k ≤ 400000 ∧ cn (expand F r) ≤ 1000000 ∧ 34 ≤ k ∧ B2 (x0, x1) k ∧ B2 (z0, z1) k ∧ Wide x0 z0 x1 z1 (n + 60) ∧ r.length + n ≤ 900 ∧ n ≤ 50 ∧ PairsTo H Q (allE (exactN 0) (expand F r) x0 z0 x1 z1)
theorem spAllR_zero {vs : List V} {H : Hp} {Q : VK} {E : XK} (h : spAllR 0 vs H Q E) : False := by
  obtain ⟨u, F, x0, z0, x1, z1, ar, d, m, k, r, δ, _, _, _, _, _, h, _⟩ := h
  have := udep_pos F δ
  omega
theorem small_size {n : Nat} (h : n ≤ 3000000) : n ≤ sizeLine := by
  rw [sizeLine_eq]
  omega
theorem flat_take {α β : Type} (g : α → List β) (ps : List α) (i : Nat) : ((ps.take i).flatMap g).length ≤ (ps.flatMap g).length := by
  have e : ps.flatMap g = (ps.take i).flatMap g ++ (ps.drop i).flatMap g := by
    rw [← List.flatMap_append, List.take_append_drop]
  rw [e, List.length_append]
  omega
structure SmallE (e : Ex) : Prop where
  cn : cn e ≤ 60
  all : ∀ p ∈ allE wideN e (-1000010) (-1000010) 1000010 1000010, -1000000000000000000000000 ≤ p.1 ∧ p.2 ≤ 1000000000000000000000000
  lo : -1000000000000 ≤ (rangeG wideN e (-1000010) (-1000010) 1000010 1000010).1
  hi : (rangeG wideN e (-1000010) (-1000010) 1000010 1000010).2 ≤ 1000000000000
def spSmall : Sp := fun vs H Q _ => ∃ (u : V) (F : Fd), vs = [u] ∧ FRep F H u ∧ Bnd F [] ∧ OkF F ∧ dep F ≤ 3 ∧ ∀ b H', Same H H' → (b = true → SmallE (expand F [])) → Q (.bl b) H'
abbrev pairD (ab : Int × Int) : PyData := .tuple [.int ab.1, .int ab.2]
theorem lay_pairs : ∀ ps : List (Int × Int), PyData.canLayAll0 (ps.map pairD) = true
  | [] => rfl
  | x :: r => by
    show (PyData.canLay0 (pairD x) && PyData.canLayAll0 (r.map pairD)) = true
    rw [lay_pairs r]
    rfl
theorem depth_pairs : ∀ ps : List (Int × Int), PyData.depthAll (ps.map pairD) ≤ 3
  | [] => by decide
  | x :: r => by
    have h := depth_pairs r
    have e : PyData.depthAll ((x :: r).map pairD) = max (PyData.depth (pairD x)) (PyData.depthAll (r.map pairD)) := rfl
    have e2 : PyData.depth (pairD x) ≤ 3 := by simp [PyData.depth, PyData.depthAll]
    omega
theorem shaped_pairs (ps : List (Int × Int)) : SeqAt.shaped (.list (ps.map pairD)) = true := by
  have h1 : PyData.canLay0 (.list (ps.map pairD)) = true := lay_pairs ps
  have h2 : PyData.depth (.list (ps.map pairD)) ≤ 64 := by
    have h := depth_pairs ps
    have e : PyData.depth (.list (ps.map pairD)) = PyData.depthAll (ps.map pairD) + 1 := rfl
    omega
  unfold SeqAt.shaped
  rw [h1, decide_eq_true h2]
  rfl
theorem dp_pairs {K : PySem.W.Frag} {H : Hp} : ∀ {vs : List V} {ps : List (Int × Int)}, PairsR H vs ps → DpAll K H vs (ps.map pairD)
  | _, _, .nil => .nil
  | _, _, .cons ⟨p, e, h⟩ t => by
    subst e
    exact .cons (.tup (SqT.of h) (.cons (.int _) (.cons (.int _) .nil))) (dp_pairs t)
theorem eqv_nil : ∀ ps : List (Int × Int), PyData.eqv (.list (ps.map pairD)) (.list []) = decide (ps = [])
  | [] => by decide
  | x :: r => by simp [PyData.eqv, PyData.eqvAll]
abbrev badP (ab : Int × Int) : Bool := decide (ab.1 < -10 ^ Int.toNat 24) || decide (10 ^ Int.toNat 24 < ab.2)
/-- rules as they are drawn: a closed field whose expansion is small -/
structure Drawn (F : Fd) (d : Nat) : Prop where
  bnd : Bnd F []
  ok : OkF F
  dep : dep F ≤ d
  small : SmallE (expand F [])
/-- hands back drawn rules -/
def RTo (p : Addr) (H : Hp) (Q : VK) (m : Int) : Prop := ∀ u F H' o', FRep F H' u → Drawn F 3 → Keep p H H' → H' p = some o' → Purse m o' → Q u H'
def spRules : Sp := fun vs H Q _ => ∃ (p : Addr) (m : Int) (o : HO), vs = [.ref p] ∧ H p = some o ∧ Purse m o ∧ m ≤ 1000000000000 ∧ RTo p H Q (m + 100000)
/-- a new object is changed -/
theorem keep_put2 {p l : Addr} {H H' : Hp} {o : HO} (k : Keep p H H') (h : H l = none) : Keep p H (upd H' l o) := fun c u n e => by
  rw [upd_ne (ne_of_none e h)]
  exact k c u n e
/-- hands back a point's pair -/
def spPlace : Sp := fun vs H Q _ => ∃ (p : Addr) (m : Int) (o : HO), vs = [.ref p] ∧ H p = some o ∧ Purse m o ∧ m ≤ 100000000000000 ∧
  ∀ (x z : Int) (t : Addr) (o' : HO) (H' : Hp), -1000000 ≤ x → x ≤ 1000000 → -1000000 ≤ z → z ≤ 1000000 → Keep p H H' → H' p = some o' → Purse (m + 40) o' → H' t = some (.tup [.int x, .int z]) → Q (.ref t) H'
/-- the rules that stand in for great ones -/
def dfltF (l n : Int) : Fd := .two .plus (.over (.noise 3 l) n) .px
theorem dflt_drawn {l n : Int} (l0 : 0 ≤ l) (l1 : l ≤ 8) (n0 : 1 ≤ n) (n1 : n ≤ 1000000000) : Drawn (dfltF l n) 3 := by
  have d0 : (0 : Int) / n = 0 := Int.zero_ediv n
  have d1 : 0 ≤ 65535 / n := Int.ediv_nonneg (by decide) (by omega)
  have d2 : 65535 / n ≤ 65535 := Int.ediv_le_self _ (by decide)
  refine ⟨⟨True.intro, True.intro⟩, ⟨⟨⟨⟨by decide, by decide⟩, l0, l1⟩, n0, n1⟩, True.intro⟩, by simp [dfltF, dep], ⟨by simp [dfltF, expand, cn], ?_, ?_, ?_⟩⟩
  · intro p hp
    simp only [dfltF, expand, allE, rangeG, W2.rng, wideN, List.cons_append, List.nil_append, List.mem_cons, List.not_mem_nil, or_false] at hp
    rcases hp with rfl | rfl | rfl | rfl <;> simp only [d0] <;> omega
  · simp only [dfltF, expand, rangeG, W2.rng, wideN, d0]; omega
  · simp only [dfltF, expand, rangeG, W2.rng, wideN]; omega
/-! ### the program: knots, noise -/
def spFour : Sp := fun vs H Q _ => ∃ g s i j : Int, vs = [.int g, .int s, .int i, .int j] ∧ ∀ p, H p = none → Q (.ref p) (upd H p (.tup (fourV g s i j)))
def spNV : Sp := fun vs H Q _ => ∃ g s l x z : Int, vs = [.int g, .int s, .int l, .int x, .int z, .non] ∧ 0 ≤ l ∧ l ≤ 8 ∧ ∀ H', Same H H' → Q (.int (noiseL g s l x z)) H'
/-! ### the program: values of steps -/
def spRun (K : PySem.W.Frag) : Sp := fun vs H Q _ => ∃ (a : Addr) (ws : List V) (st : List Stp) (g x z : Int), vs = [.ref a, .int g, .int x, .int z, .non] ∧ SqL K H a ws ∧ StepsR H ws st ∧ Ok st ∧ OkSs st ∧ Szd g x z 200000 st ∧ st ≠ [] ∧ st.length ≤ 1000 ∧
  ∀ H', Same H H' → Q (.int (((valA g x z).run st).getD (st.length - 1) 0)) H'
theorem at_ints {xs : List Int} {j : Nat} (h : j < xs.length) : atI (xs.map V.int) (j : Int) = some (.int (xs.getD j 0)) := by
  refine atI_nat ?_
  rw [List.getElem?_map, List.getElem?_eq_getElem h]
  simp [List.getD, List.getElem?_eq_getElem h]
theorem at_last {xs : List Int} {n : Nat} (h : xs.length = n + 1) : atI (xs.map V.int) (-1) = some (.int (xs.getD n 0)) := by
  have e : atI (xs.map V.int) (-1) = (xs.map V.int)[n]? := by
    unfold atI ixN
    rw [List.length_map, h]
    have e2 : ((-1 : Int) + ((n + 1 : Nat) : Int)).toNat = n := by omega
    simp
    rw [if_pos (by omega)]
    have e3 : (-1 + ((n : Int) + 1)).toNat = n := by omega
    simp [e3]
  rw [e, List.getElem?_map, List.getElem?_eq_getElem (by omega)]
  simp [List.getD, List.getElem?_eq_getElem (show n < xs.length by omega)]
/-! ### the program: weights -/
def spFrom : Sp := fun vs H Q _ => ∃ a lo hi : Int, vs = [.int a, .int lo, .int hi] ∧ lo ≤ a ∧ a ≤ hi ∧ Q (.bl true) H
def spName : Sp := fun vs H Q _ => ∃ x : Str, vs = [.str x] ∧ NameOk x ∧ Q (.bl true) H
theorem small_sign : ∀ c : Nat, 97 ≤ c → c ≤ 122 → (Unicode.isAlpha c && (Unicode.isLower c && (!Unicode.isUpper c && (!Unicode.isTitle c && decide (c < 128))))) = true := by
  intro c h0 h1
  rcases (show c = 97 ∨ c = 98 ∨ c = 99 ∨ c = 100 ∨ c = 101 ∨ c = 102 ∨ c = 103 ∨ c = 104 ∨ c = 105 ∨ c = 106 ∨ c = 107 ∨ c = 108 ∨ c = 109 ∨ c = 110 ∨ c = 111 ∨ c = 112 ∨ c = 113 ∨ c = 114 ∨ c = 115 ∨ c = 116 ∨ c = 117 ∨ c = 118 ∨ c = 119 ∨ c = 120 ∨ c = 121 ∨ c = 122 by omega) with rfl | rfl | rfl | rfl | rfl | rfl | rfl | rfl | rfl | rfl | rfl | rfl | rfl | rfl | rfl | rfl | rfl | rfl | rfl | rfl | rfl | rfl | rfl | rfl | rfl | rfl <;> decide +kernel
theorem name_signs {x : Str} (h : NameOk x) : Txt.isascii x = true ∧ Txt.isalpha x = true ∧ Txt.islower x = true := by
  have hs : ∀ c ∈ x.cps, Unicode.isAlpha c = true ∧ Unicode.isLower c = true ∧ Unicode.isUpper c = false ∧ Unicode.isTitle c = false ∧ c < 128 := fun c hc => by
    have b := h.2.2 c (by simpa using hc)
    have e := small_sign c b.1 b.2
    simp only [Bool.and_eq_true, Bool.not_eq_true', decide_eq_true_eq] at e
    exact ⟨e.1, e.2.1, e.2.2.1, e.2.2.2.1, e.2.2.2.2⟩
  have hl : 0 < x.length := h.1
  have hz : 0 < x.cps.size := hl
  refine ⟨?_, ?_, ?_⟩
  · unfold Txt.isascii
    rw [Array.all_eq_true']
    intro c hc
    exact decide_eq_true (hs c hc).2.2.2.2
  · unfold Txt.isalpha
    rw [Bool.and_eq_true]
    refine ⟨decide_eq_true hl, ?_⟩
    rw [Array.all_eq_true']
    intro c hc
    exact (hs c hc).1
  · unfold Txt.islower
    rw [Bool.and_eq_true]
    refine ⟨?_, ?_⟩
    · rw [Array.any_eq_true']
      exact ⟨x.cps[0], Array.getElem_mem hz, (hs _ (Array.getElem_mem hz)).2.1⟩
    · rw [Bool.not_eq_true', Bool.eq_false_iff]
      intro e
      rw [Array.any_eq_true'] at e
      obtain ⟨c, hc, e⟩ := e
      have b := hs c hc
      rw [b.2.2.1, b.2.2.2.1] at e
      cases e
/-- hands back a weight -/
def WTo (K : PySem.W.Frag) (H : Hp) (Q : VK) (e : Ex) : Prop := ∀ p H', Same H H' → SqT K H' p [.int (cn e : Nat), .int (grE e)] → Q (.ref p) H'
def spW (K : PySem.W.Frag) (n : Nat) : Sp := fun vs H Q _ => ∃ (u : V) (F : Fd) (d : Addr) (r : Fm.Env), vs = [u, .ref d] ∧ FRep F H u ∧ dep F + 1 ≤ n ∧ OkF F ∧ Bnd F (r.map (·.1)) ∧ OkR r ∧ WEnv K H d r ∧ Cok F r ∧ cn (expand F r) ≤ 1000000000000000000000000000000 ∧ r.length + n ≤ 1000 ∧ WTo K H Q (expand F r)
def longF : Fd → Prop
  | .bel _ _ _ _ => True
  | .shift _ _ _ => True
  | .lt _ _ _ => True
  | _ => False
def spWL (K : PySem.W.Frag) (n : Nat) : Sp := fun vs H Q _ => ∃ (u : V) (F : Fd) (d : Addr) (r : Fm.Env), vs = [u, .ref d] ∧ longF F ∧ FRep F H u ∧ dep F ≤ n ∧ OkF F ∧ Bnd F (r.map (·.1)) ∧ OkR r ∧ WEnv K H d r ∧ Cok F r ∧ cn (expand F r) ≤ 1000000000000000000000000000000 ∧ r.length + n ≤ 999 ∧ WTo K H Q (expand F r)
theorem WTo.new {K : PySem.W.Frag} {H : Hp} {Q : VK} {e : Ex} {a b : Int} (q : WTo K H Q e) (e1 : a = (cn e : Nat)) (e2 : b = grE e) {H1 : Hp} (s : Same H H1) : [V.int a, V.int b].length ≤ sizeLine ∧ ∀ p, H1 p = none → Q (.ref p) (upd H1 p (.tup [.int a, .int b])) := by
  subst e1 e2
  exact ⟨by show 2 ≤ sizeLine; decide, fun p hp => q p _ (s.trans (same_new hp)) (SqT.of upd_same)⟩
theorem WTo.later {K : PySem.W.Frag} {H H1 : Hp} {Q : VK} {e : Ex} (q : WTo K H Q e) (s : Same H H1) : WTo K H1 Q e := fun p H' s' h => q p H' (s.trans s') h
theorem pairs_word (w : W2) : inV (.str w.word) [V.str "plus", V.str "less", V.str "times", V.str "least", V.str "most"] = true := by cases w <;> decide +kernel
theorem none_back {H H' : Hp} {i i2 : Addr} {o : HO} (hi : H i = none) (s : Same H H') (h : H' i2 = none) : H i2 = none := by
  cases e : H i2 with
  | none => rfl
  | some u => rw [s _ _ e] at h; cases h
theorem sqT_put {K : PySem.W.Frag} {H : Hp} {p a : Addr} {xs : List V} {kvs : List (Key × V)} {o : HO} (h : SqT K H p xs) (ha : H a = some (.dK kvs)) : SqT K (upd H a o) p xs := by
  rcases h with (h | ⟨o', h⟩) | h
  · exact .inl (.inl (by rw [upd_ne (ne_of h ha (by intro z; cases z))]; exact h))
  · exact .inl (.inr ⟨o', by rw [upd_ne (ne_of h ha (by intro z; cases z))]; exact h⟩)
  · exact .inr h
/-! ### the program: steps -/
/-- rules that are told as they are: closed, within their bounds, not too great -/
structure Good (F : Fd) : Prop where
  bnd : Bnd F []
  ok : OkF F
  dep : dep F ≤ 18
  ud : udep F [] ≤ 59
  cok : Cok F []
  cn : cn (expand F []) ≤ 200
  vb : vb (expand F []) 40 ≤ 200000
  rng : ∀ p ∈ allE wideN (expand F []) (-1000000) (-1000000) 1000000 1000000, -1000000000000000000000000000000 ≤ p.1 ∧ p.2 ≤ 1000000000000000000000000000000
def spGr : Sp := fun vs H Q _ => ∃ (u : V) (F : Fd), vs = [u] ∧ FRep F H u ∧ Good F ∧ ∀ H', Same H H' → Q (.int (grE (expand F []))) H'
/-- hands back a step's number; the steps made so far stand at mk -/
def NTo (H : Hp) (Q : VK) (mk : Addr) (R : List Stp × Nat) : Prop := ∀ H', Keep mk H H' → H' mk = some (.dT (mkKV R.1)) → Q (.int (R.2 : Int)) H'
def spPlaced (n : Nat) : Sp := fun vs H Q _ => ∃ (u : V) (F : Fd) (dx dz : Int) (d mk : Addr) (m : Nat) (r : Fm.Env) (δ : List (Str × Nat)) (st : List Stp), vs = [u, .int dx, .int dz, .ref d, .ref mk] ∧ FRep F H u ∧ EnvR m H d r δ ∧ Bnd F (r.map (·.1)) ∧ udep F δ ≤ n ∧
  H mk = some (.dT (mkKV st)) ∧ st.length + cn (expand F r) ≤ 900 ∧ r.length + udep F δ ≤ 900 ∧ NTo H Q mk (into (expand F r) dx dz st)
theorem spPlaced_zero {vs : List V} {H : Hp} {Q : VK} {E : XK} (h : spPlaced 0 vs H Q E) : False := by
  obtain ⟨u, F, dx, dz, d, mk, m, r, δ, st, _, _, _, _, h, _⟩ := h
  have : ∀ (F : Fd) (δ : List (Str × Nat)), 1 ≤ udep F δ := fun F δ => by cases F <;> simp only [udep] <;> omega
  have := this F δ
  omega
/-! ### the program: ranges over all points, the steps of rules -/
/-- a box whose corners are not too far off -/
structure BoxB (x0 z0 x1 z1 : Int) : Prop where
  wx : x0 ≤ x1
  wz : z0 ≤ z1
  bx0 : x0.natAbs ≤ 100000000000
  bx1 : x1.natAbs ≤ 100000000000
  bz0 : z0.natAbs ≤ 100000000000
  bz1 : z1.natAbs ≤ 100000000000
abbrev Pr (H : Hp) (p : Addr) (ab : Int × Int) : Prop := H p = some (.tup [.int ab.1, .int ab.2])
def PrTo (H : Hp) (Q : VK) (ab : Int × Int) : Prop := ∀ p H', Same H H' → Pr H' p ab → Q (.ref p) H'
theorem PrTo.new {H : Hp} {Q : VK} {ab : Int × Int} {a b : Int} (q : PrTo H Q ab) (e1 : a = ab.1) (e2 : b = ab.2) {H1 : Hp} (s : Same H H1) : [V.int a, V.int b].length ≤ sizeLine ∧ ∀ p, H1 p = none → Q (.ref p) (upd H1 p (.tup [.int a, .int b])) := by
  subst e1 e2
  exact ⟨by show 2 ≤ sizeLine; decide, fun p hp => q p _ (s.trans (same_new hp)) upd_same⟩
def spJoin : Sp := fun vs H Q _ => ∃ (w : W2) (p1 p2 : Addr) (a b : Int × Int), vs = [.str w.word, .ref p1, .ref p2] ∧ Pr H p1 a ∧ Pr H p2 b ∧ (w = .times → CMulW a.1 b.1 ∧ CMulW a.1 b.2 ∧ CMulW a.2 b.1 ∧ CMulW a.2 b.2) ∧ PrTo H Q (w.rng a b)
def spBelw : Sp := fun vs H Q _ => ∃ (l p1 p2 p3 p4 : Addr) (a b c d : Int × Int), vs = [.ref l] ∧ H l = some (.lst [.ref p1, .ref p2, .ref p3, .ref p4]) ∧ Pr H p1 a ∧ Pr H p2 b ∧ Pr H p3 c ∧ Pr H p4 d ∧ PrTo H Q (belR a b c d)
theorem rng_one (N : NR) (x0 z0 x1 z1 : Int) (s : Stp) (vs : List (Int × Int)) : True := True.intro
/-- all ranges are less than B bits long -/
def SzR (N : NR) (x0 z0 x1 z1 : Int) (B : Nat) (st : List Stp) : Prop := ∀ i, i < st.length → B2 (((rngA N x0 z0 x1 z1).run st).getD i (0, 0)) B
def spRgs (K : PySem.W.Frag) : Sp := fun vs H Q _ => ∃ (a b : Addr) (ws : List V) (st : List Stp) (g x0 z0 x1 z1 : Int), vs = [.ref a, .int g, .ref b] ∧ SqL K H a ws ∧ StepsR H ws st ∧ Ok st ∧ OkSs st ∧ SqT K H b [.int x0, .int z0, .int x1, .int z1] ∧ BoxB x0 z0 x1 z1 ∧ ShS st ∧ SzR (exactN g) x0 z0 x1 z1 200000 st ∧ st.length ≤ 1000 ∧
  ∀ l H' vs', Same H H' → H' l = some (.lst vs') → PairsR H' vs' ((rngA (exactN g) x0 z0 x1 z1).run st) → Q (.ref l) H'
def spMust (K : PySem.W.Frag) : Sp := fun vs H Q _ => ∃ (a : Addr) (ws : List V) (st : List Stp), vs = [.ref a] ∧ SqL K H a ws ∧ StepsR H ws st ∧ Ok st ∧ OkSs st ∧ ShS st ∧ SzR wideN (-1000000) (-1000000) 1000000 1000000 200000 st ∧ st.length ≤ 1000 ∧
  AllP wideN (-1000000) (-1000000) 1000000 1000000 (fun p => -1000000000000000000000000000000 ≤ p.1 ∧ p.2 ≤ 1000000000000000000000000000000) st ∧ ∀ H', Same H H' → Q .non H'
def spSteps : Sp := fun vs H Q _ => ∃ (u : V) (F : Fd), vs = [u] ∧ FRep F H u ∧ Good F ∧ ∀ l H' ws, H l = none → Same H H' → H' l = some (.lst ws) → StepsR H' ws (stepsE (expand F [])) → Q (.ref l) H'
def spRunS (K : PySem.W.Frag) : Sp := fun vs H Q _ => ∃ (a : Addr) (ws : List V) (st : List Stp) (g x z : Int), vs = [.ref a, .int g, .int x, .int z] ∧ SqL K H a ws ∧ StepsR H ws st ∧ Ok st ∧ OkSs st ∧ Szd g x z 200000 st ∧ st ≠ [] ∧ st.length ≤ 1000 ∧
  ∀ H', Same H H' → Q (.int (((valA g x z).run st).getD (st.length - 1) 0)) H'
/-! ### the program: noise over a box -/
theorem g_rng3 {σ : L2.St} {H : Hp} {ts : TA} {R : It → Hp → Prop} (q : ts σ H fun vs H1 => ∃ (i j c : Int) (n : Nat), vs = [.int i, .int j, .int c] ∧ RgC i j c n ∧ R (Itc i c n) H1) : iRng3 ts σ H R := q
theorem rg_up {S lo hi : Int} (S0 : 0 < S) (S1 : S ≤ 256) (h1 : lo.natAbs ≤ 1000000000000) (h2 : hi.natAbs ≤ 1000000000000) (h3 : ((lo / S + 1) * S).natAbs ≤ 3000000000000) : RgC ((lo / S + 1) * S) hi S (turnC S lo hi) := by
  obtain ⟨b, eb⟩ : ∃ b, (lo / S + 1) * S = b := ⟨_, rfl⟩
  unfold turnC
  rw [eb] at h3 ⊢
  have q0 : b < hi → 0 ≤ (hi - 1 - b) / S := fun h => Int.ediv_nonneg (by omega) (by omega)
  have hsz : Builtin.Range.rangeSize b hi S = ((if b < hi then ((hi - 1 - b) / S).toNat + 1 else 0 : Nat) : Int) := by
    unfold Builtin.Range.rangeSize
    rw [if_pos (by omega)]
    by_cases e : b < hi
    · rw [if_pos e, if_pos e, show hi - b - 1 = hi - 1 - b by omega]
      have := q0 e
      omega
    · rw [if_neg e, if_neg e]
      rfl
  refine ⟨by omega, by omega, ?_, hsz⟩
  have hz : Builtin.Range.rangeSize b hi S ≤ 6000000000000 := by
    rw [hsz]
    split
    · have l : (hi - 1 - b) / S ≤ hi - 1 - b := Int.ediv_le_self _ (by omega)
      have := q0 (by assumption)
      omega
    · decide
  have hz0 : 0 ≤ Builtin.Range.rangeSize b hi S := by rw [hsz]; omega
  unfold Builtin.Range.small
  rw [if_pos (by omega)]
  simp only [Builtin.Range.rangeFitsLong, Bool.and_eq_true, Bool.or_eq_true, decide_eq_true_eq, beq_iff_eq]
  omega
/-- hands back a new list of numbers -/
def LTo (H : Hp) (Q : VK) (ns : List Int) : Prop := ∀ l H', H l = none → Same H H' → H' l = some (.lst (ns.map V.int)) → Q (.ref l) H'
def spTurns : Sp := fun vs H Q _ => ∃ (lo hi : Int) (n : Nat), vs = [.int lo, .int hi, .int n] ∧ n ≤ 8 ∧ lo.natAbs ≤ 1000000000000 ∧ hi.natAbs ≤ 1000000000000 ∧ lo ≤ hi ∧ turnC (2 ^ n) lo hi ≤ 64 ∧ LTo H Q (turnsL (2 ^ n) lo hi)
theorem knot_row_eq (g s i j : Int) : knotL g s i j = ((((((g + 48271 * s + 7) % 2147483647 * ((g + 48271 * s + 7) % 2147483647) + 69621 * i + 1) % 2147483629) * (((g + 48271 * s + 7) % 2147483647 * ((g + 48271 * s + 7) % 2147483647) + 69621 * i + 1) % 2147483629) + 1 + 16807 * j) % 2147483587) * (((((g + 48271 * s + 7) % 2147483647 * ((g + 48271 * s + 7) % 2147483647) + 69621 * i + 1) % 2147483629) * (((g + 48271 * s + 7) % 2147483647 * ((g + 48271 * s + 7) % 2147483647) + 69621 * i + 1) % 2147483629) + 1 + 16807 * j) % 2147483587) + ((((g + 48271 * s + 7) % 2147483647 * ((g + 48271 * s + 7) % 2147483647) + 69621 * i + 1) % 2147483629) * (((g + 48271 * s + 7) % 2147483647 * ((g + 48271 * s + 7) % 2147483647) + 69621 * i + 1) % 2147483629) + 1 + 16807 * j) % 2147483587) % 2147483579 % 65536 := by
  unfold knotL Fm.kD Fm.kC Fm.kB Fm.kA
  generalize ((g + 48271 * s + 7) % 2147483647 * ((g + 48271 * s + 7) % 2147483647) + 69621 * i + 1) % 2147483629 = B
  rw [show B * B + 16807 * j + 1 = B * B + 1 + 16807 * j by omega]
def spKrow : Sp := fun vs H Q _ => ∃ (g s i : Int) (pl : Addr) (ps : List Int), vs = [.int g, .int s, .int i, .ref pl] ∧ H pl = some (.lst (ps.map V.int)) ∧ ps.length ≤ 1000 ∧ LTo H Q (ps.map fun j => knotL g s i j)
theorem corner_eq {g s x z S : Int} {n : Nat} (hS : (2 : Int) ^ n = S) (S0 : 0 < S) : (((S - x % S) * knotL g s (x / S) (z / S) + x % S * knotL g s (x / S + 1) (z / S)) * S + z % S * ((S - x % S) * knotL g s (x / S) (z / S + 1) + x % S * knotL g s (x / S + 1) (z / S + 1) - (S - x % S) * knotL g s (x / S) (z / S) - x % S * knotL g s (x / S + 1) (z / S))) / 2 ^ (n + n) = noiseL g s n x z := by
  rw [noise_of hS S0, Int.pow_add, hS]
  congr 1
  grind
theorem ne_of_none2 {H : Hp} {a b : Addr} {o : HO} (h : H a = some o) (k : H b = none) : b ≠ a := fun e => by rw [e, h] at k; cases k
def spCorner : Sp := fun vs H Q _ => ∃ (g s x0 z0 x1 z1 : Int) (n : Nat) (b : Addr), vs = [.int g, .int s, .int n, .ref b] ∧ n ≤ 8 ∧ H b = some (.tup [.int x0, .int z0, .int x1, .int z1]) ∧ x0 / 2 ^ n = x1 / 2 ^ n ∧ z0 / 2 ^ n = z1 / 2 ^ n ∧ LTo H Q [noiseL g s n x0 z0, noiseL g s n x0 z1, noiseL g s n x1 z0, noiseL g s n x1 z1]
/-- for each z the place of its knot in the row of knots, and how far behind it z lies -/
def SpotsK (H : Hp) (S : Int) (zs ps : List Int) (ws : List V) : Prop := ws.length = zs.length ∧ ∀ (k : Nat) (z : Int), zs[k]? = some z → ∃ (a : Addr) (lo : Nat), ws[k]? = some (.ref a) ∧ H a = some (.tup [.int lo, .int (z % S)]) ∧ ps[lo]? = some (z / S) ∧ (z % S ≠ 0 → ps[lo + 1]? = some (z / S + 1))
def spBeside : Sp := fun vs H Q _ => ∃ (n : Nat) (zl : Addr) (zs : List Int), vs = [.int n, .ref zl] ∧ n ≤ 8 ∧ H zl = some (.lst (zs.map V.int)) ∧ zs.Pairwise (· ≤ ·) ∧ zs.length ≤ 200 ∧
  ∀ (pl sl t : Addr) (ps : List Int) (ws : List V) (H' : Hp), Same H H' → H' t = some (.tup [.ref pl, .ref sl]) → H' pl = some (.lst (ps.map V.int)) → H' sl = some (.lst ws) → SpotsK H' (2 ^ n) zs ps ws → ps.length ≤ 2 * zs.length → Q (.ref t) H'
theorem SpotsK.mono {H H' : Hp} {S : Int} {zs ps : List Int} {ws : List V} (h : SpotsK H S zs ps ws) (t : ∀ (p : Addr) (xs : List V), H p = some (.tup xs) → H' p = some (.tup xs)) : SpotsK H' S zs ps ws :=
  ⟨h.1, fun k z hk => by obtain ⟨a, lo, e1, e2, e3⟩ := h.2 k z hk; exact ⟨a, lo, e1, t _ _ e2, e3⟩⟩
/-- how the row of knots ends behind the z ahead of i -/
def TailK (S : Int) (zs : List Int) (i : Nat) (ps : List Int) : Prop := (i = 0 ∧ ps = []) ∨ ∃ (m : Nat) (z : Int) (base : List Int), i = m + 1 ∧ zs[m]? = some z ∧ (ps = base ++ [z / S] ∨ ps = base ++ [z / S, z / S + 1])
theorem SpotsK.more {H : Hp} {S : Int} {zs ps : List Int} {ws : List V} (h : SpotsK H S zs ps ws) (e : List Int) : SpotsK H S zs (ps ++ e) ws := by
  have ap : ∀ {lo : Nat} {v : Int}, ps[lo]? = some v → (ps ++ e)[lo]? = some v := fun {lo v} hv => by
    have hl : lo < ps.length := by
      rcases Nat.lt_or_ge lo ps.length with h | h
      · exact h
      · rw [List.getElem?_eq_none h] at hv; cases hv
    rw [List.getElem?_append_left hl]
    exact hv
  exact ⟨h.1, fun k z hk => by obtain ⟨a, lo, e1, e2, e3, e4⟩ := h.2 k z hk; exact ⟨a, lo, e1, e2, ap e3, fun hq => ap (e4 hq)⟩⟩
theorem SpotsK.push {H : Hp} {S z : Int} {zs ps : List Int} {ws : List V} {i lo : Nat} {t : Addr} (h : SpotsK H S (zs.take i) ps ws) (hz : zs[i]? = some z) (ht : H t = some (.tup [.int lo, .int (z % S)])) (h1 : ps[lo]? = some (z / S)) (h2 : z % S ≠ 0 → ps[lo + 1]? = some (z / S + 1)) : SpotsK H S (zs.take (i + 1)) ps (ws ++ [.ref t]) := by
  have hi : i < zs.length := by
    rcases Nat.lt_or_ge i zs.length with h | h
    · exact h
    · rw [List.getElem?_eq_none h] at hz; cases hz
  have hw : ws.length = i := by rw [h.1, List.length_take]; omega
  have et : zs.take (i + 1) = zs.take i ++ [z] := by rw [List.take_succ, hz]; rfl
  refine ⟨by rw [List.length_append, hw, List.length_take]; simp; omega, fun k y hk => ?_⟩
  rcases Nat.lt_trichotomy k i with c | c | c
  · rw [et, List.getElem?_append_left (by rw [List.length_take]; omega)] at hk
    obtain ⟨a, lo', e1, e2⟩ := h.2 k y hk
    exact ⟨a, lo', by rw [List.getElem?_append_left (by omega)]; exact e1, e2⟩
  · subst c
    rw [et, List.getElem?_append_right (by rw [List.length_take]; omega), List.length_take, show k - min k zs.length = 0 by omega] at hk
    obtain rfl : z = y := by simpa using hk
    exact ⟨t, lo, by rw [List.getElem?_append_right (by omega), hw, Nat.sub_self]; rfl, ht, h1, h2⟩
  · rw [List.getElem?_eq_none (by rw [List.length_take]; omega)] at hk
    cases hk
theorem beside_fin {H H4 : Hp} {S z : Int} {zs ps2 b2 : List Int} {ws : List V} {i : Nat} {l3 l4 t : Addr} (s4 : Same H H4) (hl4 : H l4 = none) (n34 : l4 ≠ l3) (f3 : H4 l3 = some (.lst (ps2.map V.int))) (f4 : H4 l4 = some (.lst ws)) (ht : H4 t = none)
    (hK : SpotsK H4 S (zs.take i) ps2 ws) (hz : zs[i]? = some z) (hf : (ps2 = b2 ++ [z / S] ∧ z % S = 0) ∨ ps2 = b2 ++ [z / S, z / S + 1]) (hn : ps2.length ≤ 2 * (i + 1)) :
    Same H (upd (upd H4 t (.tup [.int b2.length, .int (z % S)])) l4 (.lst (ws ++ [.ref t]))) ∧ (upd (upd H4 t (.tup [.int b2.length, .int (z % S)])) l4 (.lst (ws ++ [.ref t]))) l3 = some (.lst (ps2.map V.int)) ∧ (upd (upd H4 t (.tup [.int b2.length, .int (z % S)])) l4 (.lst (ws ++ [.ref t]))) l4 = some (.lst (ws ++ [.ref t])) ∧
      SpotsK (upd (upd H4 t (.tup [.int b2.length, .int (z % S)])) l4 (.lst (ws ++ [.ref t]))) S (zs.take (i + 1)) ps2 (ws ++ [.ref t]) ∧ ps2.length ≤ 2 * (i + 1) ∧ TailK S zs (i + 1) ps2 := by
  have s5 := same_new (o := .tup [.int b2.length, .int (z % S)]) ht
  have nt : t ≠ l4 := fun e => by rw [e, f4] at ht; cases ht
  have tp := tup_putL (o := .lst (ws ++ [.ref t])) (s5 _ _ f4)
  refine ⟨same_put (s4.trans s5) hl4, by rw [upd_ne n34.symm]; exact s5 _ _ f3, upd_same, ?_, hn, .inr ⟨i, z, b2, rfl, hz, ?_⟩⟩
  · refine ((hK.mono (same_tup s5)).mono tp).push hz (tp _ _ upd_same) ?_ fun hq => ?_
    · rcases hf with ⟨rfl, _⟩ | rfl <;> simp
    · rcases hf with ⟨rfl, e⟩ | rfl
      · exact absurd e hq
      · simp
  · rcases hf with ⟨e, _⟩ | e
    · exact .inl e
    · exact .inr e
/-- turns over a list, whatever is done at each -/
theorem it_list {K : PySem.W.Frag} {a : Addr} {xs : List V} {Body : V → Hp → (Hp → Prop) → Prop} {End : Hp → Prop} {H0 : Hp} (I : Nat → Hp → Prop) (start : I 0 H0) (at_ : ∀ k G, k ≤ xs.length → I k G → SqL K G a xs)
    (turn : ∀ k v G, xs[k]? = some v → I k G → Body v G (I (k + 1))) (fin : ∀ G, I xs.length G → End G) :
    ∃ W : Nat → Nat → Hp → Prop, (∃ m, W 0 m H0) ∧ ∀ i m H, W i m H → ((Itl K a).stop i H ∧ End H) ∨ ((Itl K a).go i H ∧ ∃ Nx : Hp → Prop, (∀ H', Nx H' → ∃ m', m' < m ∧ W (i + 1) m' H') ∧ ∀ x H', (Itl K a).yld i H x H' → Body x H' Nx) := by
  refine ⟨fun k c G => c + k = xs.length ∧ I k G, ⟨xs.length, rfl, start⟩, fun k c G hw => ?_⟩
  obtain ⟨hc, hI⟩ := hw
  have hq := at_ k G (by omega) hI
  cases c with
  | zero =>
    obtain rfl : k = xs.length := by omega
    exact .inl ⟨⟨xs, hq, Nat.le_refl _⟩, fin G hI⟩
  | succ c =>
    have hk : k < xs.length := by omega
    refine .inr ⟨⟨xs, xs[k], hq, List.getElem?_eq_getElem hk⟩, I (k + 1), fun G' h' => ⟨c, Nat.lt_succ_self c, by omega, h'⟩, fun v G' hy => ?_⟩
    obtain ⟨rfl, hy⟩ := hy
    exact turn k v G' (hy xs hq) hI
theorem noise_zero (g s x z : Int) : noiseL g s 0 x z = knotL g s x z := by
  have h := noise_knot (g := g) (s := s) (x := x) (z := z) (S := 1) (k := 0) rfl (by decide) (Int.emod_one x) (Int.emod_one z)
  rw [Int.ediv_one, Int.ediv_one] at h
  exact h
theorem int_at {xs : List Int} {k : Nat} {y : V} (h : (xs.map V.int)[k]? = some y) : ∃ x, xs[k]? = some x ∧ y = .int x ∧ k < xs.length := by
  rw [List.getElem?_map] at h
  cases e : xs[k]? with
  | none => rw [e] at h; cases h
  | some x =>
    rw [e] at h
    refine ⟨x, rfl, by cases h; rfl, ?_⟩
    rcases Nat.lt_or_ge k xs.length with c | c
    · exact c
    · rw [List.getElem?_eq_none c] at e; cases e
theorem take_at {α : Type} {xs : List α} {k : Nat} {x : α} (h : xs[k]? = some x) : xs.take (k + 1) = xs.take k ++ [x] := by rw [List.take_succ, h]; rfl
theorem gridL_take {g s l : Int} {xs zs : List Int} {k : Nat} {x : Int} (h : xs[k]? = some x) : gridL g s l (xs.take (k + 1)) zs = gridL g s l (xs.take k) zs ++ zs.map fun z => noiseL g s l x z := by
  rw [take_at h]
  unfold gridL
  rw [List.flatMap_append]
  simp
theorem gridL_len {g s l : Int} (xs zs : List Int) : (gridL g s l xs zs).length = xs.length * zs.length := by
  unfold gridL
  induction xs with
  | nil => simp
  | cons x r ih => rw [List.flatMap_cons, List.length_append, ih, List.length_map, List.length_cons, Nat.succ_mul]; omega
/-- a row of knots, carried on to the place p behind it -/
def nearV (g s I p S j : Int) : Int := knotL g s I j * S + p * (knotL g s (I + 1) j - knotL g s I j)
/-- the rows of knots made so far -/
def RowsOk (g s : Int) (ps : List Int) (v : Addr) (G : Hp) (kvs : List (Key × V)) : Prop := ∀ (i : Int) (w : V), valV kvs (Sum.inl i) = some w → ∃ a, w = .ref a ∧ a ≠ v ∧ G a = some (.lst ((ps.map fun j => knotL g s i j).map V.int))
theorem RowsOk.later {g s : Int} {ps : List Int} {v : Addr} {G G' : Hp} {kvs : List (Key × V)} (h : RowsOk g s ps v G kvs) (k : Same G G') : RowsOk g s ps v G' kvs := fun i w e => by
  obtain ⟨a, e1, e2, e3⟩ := h i w e
  exact ⟨a, e1, e2, k _ _ e3⟩
theorem RowsOk.put {g s I : Int} {ps : List Int} {v r l : Addr} {G : Hp} {kvs : List (Key × V)} (h : RowsOk g s ps v G kvs) (hl : G l = some (.lst ((ps.map fun j => knotL g s I j).map V.int))) (hlv : l ≠ v) (hr : G r = some (.dK kvs)) : RowsOk g s ps v (upd G r (.dK (putK kvs (Sum.inl I) (.ref l)))) (putK kvs (Sum.inl I) (.ref l)) := fun i w e => by
  rw [valV_put] at e
  split at e
  · rename_i c
    cases c
    cases e
    exact ⟨l, rfl, hlv, by rw [upd_ne (fun c => by rw [c, hr] at hl; cases hl)]; exact hl⟩
  · obtain ⟨a, e1, e2, e3⟩ := h i w e
    exact ⟨a, e1, e2, by rw [upd_ne (fun c => by rw [c, hr] at e3; cases e3)]; exact e3⟩
/-- turns over two lists at once -/
theorem it_zip {K : PySem.W.Frag} {a b : Addr} {xs ys : List V} {n : Nat} {Body : V → Hp → (Hp → Prop) → Prop} {End : Hp → Prop} {H0 : Hp} (hn : n = min xs.length ys.length) (I : Nat → Hp → Prop) (start : I 0 H0) (at_ : ∀ k G, I k G → SqL K G a xs ∧ SqL K G b ys)
    (turn : ∀ k x y T G, xs[k]? = some x → ys[k]? = some y → I k G → G T = none → Body (.ref T) (upd G T (.tup [x, y])) (I (k + 1))) (fin : ∀ G, I n G → End G) :
    ∃ W : Nat → Nat → Hp → Prop, (∃ m, W 0 m H0) ∧ ∀ i m H, W i m H → ((Itz K a b).stop i H ∧ End H) ∨ ((Itz K a b).go i H ∧ ∃ Nx : Hp → Prop, (∀ H', Nx H' → ∃ m', m' < m ∧ W (i + 1) m' H') ∧ ∀ x H', (Itz K a b).yld i H x H' → Body x H' Nx) := by
  refine ⟨fun k c G => c + k = n ∧ I k G, ⟨n, rfl, start⟩, fun k c G hw => ?_⟩
  obtain ⟨hc, hI⟩ := hw
  obtain ⟨ha, hb⟩ := at_ k G hI
  cases c with
  | zero =>
    obtain rfl : k = n := by omega
    exact .inl ⟨⟨xs, ys, ha, hb, by omega⟩, fin G hI⟩
  | succ c =>
    have hx : k < xs.length := by omega
    have hy : k < ys.length := by omega
    refine .inr ⟨⟨xs, ys, xs[k], ys[k], ha, hb, List.getElem?_eq_getElem hx, List.getElem?_eq_getElem hy⟩, I (k + 1), fun G' h' => ⟨c, Nat.lt_succ_self c, by omega, h'⟩, fun v G' hv => ?_⟩
    obtain ⟨T, x', y', rfl, hT, rfl, f1, f2⟩ := hv
    exact turn k x' y' T G (f1 xs ha) (f2 ys hb) hI hT
theorem grid_val {g s x z S : Int} {n : Nat} (hS : (2 : Int) ^ n = S) (S0 : 0 < S) : (nearV g s (x / S) (x % S) S (z / S) * S + z % S * (nearV g s (x / S) (x % S) S (z / S + 1) - nearV g s (x / S) (x % S) S (z / S))) / 2 ^ (n + n) = noiseL g s n x z := by
  rw [noise_of hS S0, Int.pow_add, hS]
  congr 1
  unfold nearV
  grind
theorem cut_one (xs : List V) : cutV xs (some 1) none = xs.drop 1 := by
  unfold cutV
  cases xs with
  | nil => rfl
  | cons a r =>
    have e1 : HT.sIx (a :: r).length 0 (some 1) = 1 := by
      unfold HT.sIx
      simp
    have e2 : HT.sIx (a :: r).length (a :: r).length none = (a :: r).length := rfl
    rw [e1, e2]
    simp
theorem nearV_small {g s I p S j : Int} (S0 : 0 < S) (S1 : S ≤ 256) (h0 : 0 ≤ p) (h1 : p < S) : (nearV g s I p S j).natAbs < 2 ^ 64 := by
  have a := knot_in g s I j
  have b := knot_in g s (I + 1) j
  have m1 := Int.mul_le_mul (show knotL g s I j ≤ 65536 by omega) S1 (by omega) (by decide)
  have m0 := Int.mul_nonneg a.1 (show 0 ≤ S by omega)
  have m2 := Int.mul_le_mul (show p ≤ 256 by omega) (show knotL g s I j ≤ 65536 by omega) a.1 (by decide)
  have m3 := Int.mul_le_mul (show p ≤ 256 by omega) (show knotL g s (I + 1) j ≤ 65536 by omega) b.1 (by decide)
  have m4 := Int.mul_nonneg h0 a.1
  have m5 := Int.mul_nonneg h0 b.1
  unfold nearV
  rw [Int.mul_sub]
  omega
theorem RowsOk.vset {g s : Int} {ps : List Int} {v : Addr} {G : Hp} {kvs : List (Key × V)} {o : HO} (h : RowsOk g s ps v G kvs) : RowsOk g s ps v (upd G v o) kvs := fun i w e => by
  obtain ⟨a, e1, e2, e3⟩ := h i w e
  exact ⟨a, e1, e2, by rw [upd_ne e2]; exact e3⟩
theorem g_izip {K : PySem.W.Frag} {σ : L2.St} {H : Hp} {ts : TA} {R : It → Hp → Prop} (q : ts σ H fun vs H1 => ∃ a b xs ys, vs = [.ref a, .ref b] ∧ SqL K H1 a xs ∧ SqL K H1 b ys ∧ R (Itz K a b) H1) : iZip K ts σ H R := q
theorem g_dnotin {σ : L2.St} {H : Hp} {Q : VK} {ty td : TE} (q : ty σ H fun y H1 => td σ H1 fun x H2 => ∃ a o, x = .ref a ∧ DGet H2 a y o ∧ Q (.bl (!o.isSome)) H2) : tDNotIn ty td σ H Q := q
theorem ite_keyH {b : Bool} {A : Prop} {R : Hp → Prop} {G : Hp} (C : Hp → Prop) (key : ∀ G, C G → R G) (h2 : b = false → C G) (h1 : b = true → (∀ G, C G → R G) → A) : if b = true then A else R G := by
  cases b
  · exact iteF (key G (h2 rfl))
  · exact iteT (h1 rfl key)
def spGrid : Sp := fun vs H Q _ => ∃ (g s : Int) (n : Nat) (xl zl : Addr) (xs zs : List Int), vs = [.int g, .int s, .int n, .ref xl, .ref zl] ∧ n ≤ 8 ∧ H xl = some (.lst (xs.map V.int)) ∧ H zl = some (.lst (zs.map V.int)) ∧ zs.Pairwise (· ≤ ·) ∧ xs.length ≤ 200 ∧ zs.length ≤ 200 ∧ LTo H Q (gridL g s n xs zs)
/-- a range of noise over any box within the bounds -/
theorem one_one {a b : Int} (ha : 1 ≤ a) (hb : 1 ≤ b) (h : a * b = 1) : a = 1 ∧ b = 1 := by
  have m1 := Int.mul_le_mul_of_nonneg_left hb (show 0 ≤ a by omega)
  have m2 := Int.mul_le_mul_of_nonneg_right ha (show 0 ≤ b by omega)
  omega
theorem turn_one {S lo hi t : Int} (S0 : 0 < S) (h : lo ≤ hi) (e : hi / S = lo / S) (m : t ∈ turnsL S lo hi) : t = lo ∨ t = hi := by
  have d := lo_div (lo := hi) S0
  have e1 : (lo / S + 1) * S = lo / S * S + S := by rw [Int.add_mul, Int.one_mul]
  rw [e] at d
  unfold turnsL at m
  rcases List.mem_append.mp m with m | m
  · rcases List.mem_cons.mp m with rfl | m
    · exact .inl rfl
    · unfold turnC at m
      rw [if_neg (by omega)] at m
      simp at m
  · split at m
    · exact .inr (List.mem_singleton.mp m)
    · cases m
theorem turnC_le {S lo hi : Int} (S0 : 0 < S) (h : lo ≤ hi) : (turnC S lo hi : Int) ≤ hi / S - lo / S := by
  have l : lo / S ≤ hi / S := Int.ediv_le_ediv S0 h
  unfold turnC
  split
  · rename_i c
    have e : hi - 1 - (lo / S + 1) * S = (hi - 1) + (-(lo / S + 1)) * S := by rw [Int.neg_mul]; omega
    have q0 : 0 ≤ (hi - 1 - (lo / S + 1) * S) / S := Int.ediv_nonneg (by omega) (by omega)
    have q1 : (hi - 1 - (lo / S + 1) * S) / S = (hi - 1) / S + -(lo / S + 1) := by rw [e, Int.add_mul_ediv_right _ _ (by omega)]
    have q2 : (hi - 1) / S ≤ hi / S := Int.ediv_le_ediv S0 (by omega)
    omega
  · omega
theorem turnsL_len (S lo hi : Int) : (turnsL S lo hi).length ≤ turnC S lo hi + 2 := by
  unfold turnsL
  split <;> simp
theorem turnsL_sorted {S lo hi : Int} (S0 : 0 < S) (h : lo ≤ hi) : (turnsL S lo hi).Pairwise (· ≤ ·) := by
  have ti := fun t => turn_in (t := t) S0 h
  unfold turnsL at ti ⊢
  refine List.pairwise_append.mpr ⟨List.pairwise_cons.mpr ⟨fun t ht => (ti t (List.mem_append_left _ (List.mem_cons_of_mem _ ht))).1, ?_⟩, ?_, fun a ha b hb => ?_⟩
  · refine List.pairwise_map.mpr (List.pairwise_lt_range.imp fun {a b} hab => ?_)
    have := Int.mul_le_mul_of_nonneg_right (show (a : Int) ≤ (b : Int) by omega) (show 0 ≤ S by omega)
    omega
  · split
    · exact List.pairwise_singleton _ _
    · exact List.Pairwise.nil
  · have h2 := (ti a (List.mem_append_left _ ha)).2
    split at hb
    · rw [List.mem_singleton.mp hb]; exact h2
    · cases hb
def spNRx : Sp := fun vs H Q _ => ∃ (g s x0 z0 x1 z1 : Int) (n : Nat) (b : Addr), vs = [.int g, .int s, .int n, .ref b] ∧ n ≤ 8 ∧ H b = some (.tup [.int x0, .int z0, .int x1, .int z1]) ∧ x0 ≤ x1 ∧ z0 ≤ z1 ∧ x0.natAbs ≤ 1000000000000 ∧ x1.natAbs ≤ 1000000000000 ∧ z0.natAbs ≤ 1000000000000 ∧ z1.natAbs ≤ 1000000000000 ∧ PrTo H Q (exactN g s n x0 z0 x1 z1)
/-! ### the program: points, values of rules -/
def spPt : Sp := fun vs H Q _ => ∃ x z : Int, vs = [.int x, .int z] ∧ -1000000 ≤ x ∧ x ≤ 1000000 ∧ -1000000 ≤ z ∧ z ≤ 1000000 ∧ Q (.bl true) H
def spMustPt : Sp := fun vs H Q _ => ∃ x z : Int, vs = [.int x, .int z] ∧ -1000000 ≤ x ∧ x ≤ 1000000 ∧ -1000000 ≤ z ∧ z ≤ 1000000 ∧ Q .non H
/-- the value of rules that are told as they are -/
def spVal : Sp := fun vs H Q _ => ∃ (u : V) (F : Fd) (g x z : Int), vs = [u, .int g, .int x, .int z] ∧ FRep F H u ∧ Good F ∧ -1000000 ≤ x ∧ x ≤ 1000000 ∧ -1000000 ≤ z ∧ z ≤ 1000000 ∧ ∀ H', Same H H' → Q (.int (valE (expand F []) g x z)) H'
theorem small_pt {x : Int} (h : -1000000 ≤ x) (h2 : x ≤ 1000000) : x.natAbs < 2 ^ 40 := by
  have e : (2 : Nat) ^ 40 = 1099511627776 := by decide
  rw [e]
  omega
structure StV (F : Fd) (g x z : Int) (st : List Stp) : Prop where
  ok : Ok st
  oks : OkSs st
  szd : Szd g x z 200000 st
  ne : st ≠ []
  len : st.length ≤ 1000
  val : ((valA g x z).run st).getD (st.length - 1) 0 = valE (expand F []) g x z
theorem stV {F : Fd} (hG : Good F) {g x z : Int} (bx : x.natAbs < 2 ^ 40) (bz : z.natAbs < 2 ^ 40) : StV F g x z (stepsE (expand F [])) := by
  have hcn := hG.cn
  have ok0 : OkE (expand F []) := ok_expand F [] hG.ok okR_nil
  have io := into_ok (expand F []) 0 0 []
  obtain ⟨st, est⟩ : ∃ st, stepsE (expand F []) = st := ⟨_, rfl⟩
  have htop : (into (expand F []) 0 0 []).2 + 1 = st.length := by
    rw [← est]
    rcases into_top (expand F []) 0 0 [] ok_nil with h | h
    · have := io.lt
      rw [h] at this
      exact absurd this (Nat.not_lt_zero _)
    · exact h
  rw [est]
  refine ⟨by rw [← est]; exact io.ok ok_nil, by rw [← est]; exact okS_into _ 0 0 [] ok0 (fun s hs => (nomatch hs)), ?_, ?_, ?_, ?_⟩
  · rw [← est]
    exact szd_into (expand F []) g x z 0 0 40 200000 [] ok0 ok_nil (by decide) (by rw [Int.add_zero]; exact bx) (by rw [Int.add_zero]; exact bz) hG.vb (szd_nil _ _ _ _)
  · intro e
    rw [e] at htop
    simp at htop
  · have := io.len
    simp only [List.length_nil] at this
    rw [← est]
    show (into (expand F []) 0 0 []).1.length ≤ 1000
    omega
  · have := io.val ok_nil (valA g x z)
    rw [fold_val, Int.add_zero, Int.add_zero] at this
    rw [← this, show st.length - 1 = (into (expand F []) 0 0 []).2 by omega, ← est]
    rfl
open Rm
/-! ### rules that are drawn, and rules twice -/
theorem all_near {e : Ex} (ok : OkE e) (s : SmallE e) {x0 z0 x1 z1 : Int} (hx : x0 ≤ x1) (hz : z0 ≤ z1) (a : -1000010 ≤ x0) (b : x1 ≤ 1000010) (c : -1000010 ≤ z0) (d : z1 ≤ 1000010) : ∀ p ∈ allE wideN e x0 z0 x1 z1, -1000000000000000000000000000000 ≤ p.1 ∧ p.2 ≤ 1000000000000000000000000000000 := fun p hp => by
  have h := all_in wide_mono (-1000000000000000000000000, 1000000000000000000000000) e x0 z0 x1 z1 _ _ _ _ ok hx hz a b c d (fun p hp => s.all p hp) p hp
  have h1 : -1000000000000000000000000 ≤ p.1 := h.1
  have h2 : p.2 ≤ 1000000000000000000000000 := h.2
  omega
structure Inn (F : Fd) : Prop where
  bnd : Bnd F []
  okf : OkF F
  ok : OkE (expand F [])
  small : SmallE (expand F [])
  dep : dep F ≤ 3
  ud : udep F [] ≤ 40
  cok : Cok F []
  vb : ∀ k, 34 ≤ k → k ≤ 50 → vb (expand F []) k ≤ 100000
theorem inn_of {F : Fd} (h : Drawn F 3) : Inn F := by
  have n := nums F 3 [] [] 0 0 0 h.dep num_nil
  have w3 : Wd 3 0 = 128 := by decide
  have s3 : Sd 3 0 = 7 := by decide
  have u3 : Ud 3 0 ≤ 40 := by decide
  refine ⟨h.bnd, h.ok, ok_expand F [] h.ok okR_nil, h.small, h.dep, by have := n.2.2; omega, cok_of F 3 [] 0 h.dep (fun _ => Nat.le_refl 1) (by decide), fun k k0 k1 => ?_⟩
  have hv := vb_le (expand F []) k k0
  have h1 : wt (expand F []) ≤ 128 := by have := n.1; omega
  have h2 : k + sh (expand F []) + 1 ≤ 60 := by have := n.2.1; omega
  have h3 := Nat.mul_le_mul h1 h2
  omega
theorem good_of {F : Fd} (h : Inn F) : Good F :=
  ⟨h.bnd, h.okf, by have := h.dep; omega, by have := h.ud; omega, h.cok, by have := h.small.cn; omega, by have := h.vb 40 (by decide) (by decide); omega, all_near h.ok h.small (by decide) (by decide) (by decide) (by decide) (by decide) (by decide)⟩

/-! ### classes of errors told apart -/
def IsR (K : PySem.W.Frag) (H : Hp) (v : V) (b : Str → Bool) : Prop := ∀ y, y ∈ nmC ∨ y = "LandError" → ∀ (H' : Hp) (Q : VK), Ext H H' → Q (.bl (b y)) H' → (rIsX K [v, .ref (cA K y)] H' Q ∨ rIsi K [v, .ref (cA K y)] H' Q)
theorem none_of {H H' : Hp} {p : Addr} (k : Ext H H') (h : H' p = none) : H p = none := by
  cases q : H p with
  | none => rfl
  | some u => rw [k p u q] at h; cases h
def okI : Option Nat → Prop
  | none => True
  | some i => i < 12
def resL : Option Nat → List V
  | none => []
  | some i => [.int (i : Nat)]
def spClass (K : PySem.W.Frag) : Sp := fun vs H Q _ => ∃ (v : V) (i : Option Nat), vs = [v] ∧ okI i ∧ IsR K H v (bO i) ∧ (v = .non ↔ i = none) ∧ ∀ l H', Ext H H' → H' l = some (.lst (resL i)) → Q (.ref l) H'
def fnd (i : Option Nat) : List V := nmC.map fun y => V.bl (bO i y)
def kUp (i : Option Nat) (j : Nat) : List V := ((List.range j).filter fun k => bO i (nm k)).map fun k => V.int ((0 : Int) + (k : Nat))
theorem kUp_all {i : Option Nat} (h : okI i) : kUp i 12 = resL i := by
  cases i with
  | none => rfl
  | some i =>
    have h : i < 12 := h
    rcases (show i = 0 ∨ i = 1 ∨ i = 2 ∨ i = 3 ∨ i = 4 ∨ i = 5 ∨ i = 6 ∨ i = 7 ∨ i = 8 ∨ i = 9 ∨ i = 10 ∨ i = 11 by omega) with rfl | rfl | rfl | rfl | rfl | rfl | rfl | rfl | rfl | rfl | rfl | rfl <;> rfl
theorem kUp_no {i : Option Nat} {j : Nat} (h : bO i (nm j) = false) : kUp i (j + 1) = kUp i j := by
  unfold kUp
  rw [List.range_succ, List.filter_append, List.map_append, List.filter_cons, h]
  simp
theorem kUp_yes {i : Option Nat} {j : Nat} (h : bO i (nm j) = true) : kUp i (j + 1) = kUp i j ++ [.int ((0 : Int) + (j : Nat))] := by
  unfold kUp
  rw [List.range_succ, List.filter_append, List.map_append, List.filter_cons, h]
  rfl
theorem kUp_len (i : Option Nat) (j : Nat) : (kUp i j).length ≤ j := by
  unfold kUp
  rw [List.length_map]
  exact Nat.le_trans (List.length_filter_le _ _) (by rw [List.length_range]; exact Nat.le_refl _)
theorem fnd_at {i : Option Nat} {j : Nat} (h : j < 12) : atI (fnd i) ((0 : Int) + (j : Nat)) = some (.bl (bO i (nm j))) := by
  rcases (show j = 0 ∨ j = 1 ∨ j = 2 ∨ j = 3 ∨ j = 4 ∨ j = 5 ∨ j = 6 ∨ j = 7 ∨ j = 8 ∨ j = 9 ∨ j = 10 ∨ j = 11 by omega) with rfl | rfl | rfl | rfl | rfl | rfl | rfl | rfl | rfl | rfl | rfl | rfl <;> rfl
section
variable {K : PySem.W.Frag} {H : Hp}
theorem isR_none (hn : ∀ y, y ∈ nmC ∨ y = "LandError" → PySem.W.kitOne K (.type "NoneType") (.ref (cA K y)) = some false) : IsR K H .non (bO none) := fun y hy H' Q k q => .inr ⟨.non, _, _, _, false, rfl, .own _, .base .non, hn y hy, q⟩
theorem isR_exc {a : Addr} {i : Nat} {fs : List (Str × V)} (O : Own K (cA K (nm i))) (e : Exc H a (cA K (nm i)) fs) (kn : ∀ y, y ∈ nmC ∨ y = "LandError" → PySem.W.kitOne K (.ref (cA K (nm i))) (.ref (cA K y)) = some (bO (some i) y)) : IsR K H (.ref a) (bO (some i)) :=
  fun y hy H' Q k q => .inl ⟨a, _, fs, _, _, _, rfl, O, e.keep k, .own _, kn y hy, q⟩
end
/-! ### bounds of rules over any box -/
def rngOf (g x0 z0 x1 z1 : Int) (st : List Stp) : Int × Int :=
  if x0 = x1 ∧ z0 = z1 then (((valA g x0 z0).run st).getD (st.length - 1) 0, ((valA g x0 z0).run st).getD (st.length - 1) 0) else ((rngA (exactN g) x0 z0 x1 z1).run st).getD (st.length - 1) (0, 0)
def spStR (K : PySem.W.Frag) : Sp := fun vs H Q _ => ∃ (a b : Addr) (ws : List V) (st : List Stp) (g x0 z0 x1 z1 : Int), vs = [.ref a, .int g, .ref b] ∧ H b = some (.tup [.int x0, .int z0, .int x1, .int z1]) ∧ SqL K H a ws ∧ StepsR H ws st ∧ Ok st ∧ OkSs st ∧ ShS st ∧ BoxB x0 z0 x1 z1 ∧ Szd g x0 z0 200000 st ∧ SzR (exactN g) x0 z0 x1 z1 200000 st ∧ st ≠ [] ∧ st.length ≤ 1000 ∧ PrTo H Q (rngOf g x0 z0 x1 z1 st)
def onBox (x0 z0 x1 z1 : Int) : Prop := (-1000000 ≤ x0 ∧ x0 ≤ x1 ∧ x1 ≤ 1000000) ∧ (-1000000 ≤ z0 ∧ z0 ≤ z1 ∧ z1 ≤ 1000000)
instance (x0 z0 x1 z1 : Int) : Decidable (onBox x0 z0 x1 z1) := inferInstanceAs (Decidable (_ ∧ _))
def spBnds : Sp := fun vs H Q _ => ∃ (u : V) (F : Fd) (g x0 z0 x1 z1 : Int) (b : Addr), vs = [u, .int g, .ref b] ∧ FRep F H u ∧ Good F ∧ H b = some (.tup [.int x0, .int z0, .int x1, .int z1]) ∧ onBox x0 z0 x1 z1 ∧ PrTo H Q (rangeG (exactN g) (expand F []) x0 z0 x1 z1)
theorem at_lastV {xs : List V} {n : Nat} {v : V} (h : xs.length = n + 1) (hv : xs[n]? = some v) : atI xs (-1) = some v := by
  rw [← hv]
  unfold atI ixN
  rw [h]
  have e2 : ((-1 : Int) + ((n + 1 : Nat) : Int)).toNat = n := by omega
  simp
  rw [if_pos (by omega)]
  have e3 : (-1 + ((n : Int) + 1)).toNat = n := by omega
  simp [e3]
structure StB (F : Fd) (g x0 z0 x1 z1 : Int) (st : List Stp) : Prop where
  sh : ShS st
  box : BoxB x0 z0 x1 z1
  szr : SzR (exactN g) x0 z0 x1 z1 200000 st
  rng : rngOf g x0 z0 x1 z1 st = rangeG (exactN g) (expand F []) x0 z0 x1 z1
theorem stB {F : Fd} (hG : Good F) {g x0 z0 x1 z1 : Int} (hb : onBox x0 z0 x1 z1) : StB F g x0 z0 x1 z1 (stepsE (expand F [])) := by
  obtain ⟨⟨a1, a2, a3⟩, b1, b2, b3⟩ := hb
  have e40 : (2 : Nat) ^ 40 = 1099511627776 := by decide
  have hcn := hG.cn
  have ok0 : OkE (expand F []) := ok_expand F [] hG.ok okR_nil
  have hV := stV hG (g := g) (x := x0) (z := z0) (small_pt (by omega) (by omega)) (small_pt (by omega) (by omega))
  have io := into_ok (expand F []) 0 0 []
  have htop : (into (expand F []) 0 0 []).2 + 1 = (stepsE (expand F [])).length := by
    rcases into_top (expand F []) 0 0 [] ok_nil with h | h
    · have := io.lt
      rw [h] at this
      exact absurd this (Nat.not_lt_zero _)
    · exact h
  refine ⟨shS_steps ok0 (by omega), ⟨a2, b2, by omega, by omega, by omega, by omega⟩, ?_, ?_⟩
  · exact all_into (expand F []) x0 z0 x1 z1 0 0 [] ok_nil (fun p hp => by
      rw [Int.add_zero, Int.add_zero, Int.add_zero, Int.add_zero] at hp
      exact (all_bits (exact_ok g) (expand F []) x0 z0 x1 z1 40 ok0 (by decide) ⟨by show Int.natAbs x0 < _; omega, by show Int.natAbs x1 < _; omega⟩ ⟨by show Int.natAbs z0 < _; omega, by show Int.natAbs z1 < _; omega⟩ p hp).mono hG.vb) (fun i hi => absurd hi (Nat.not_lt_zero i))
  · unfold rngOf
    split
    · rename_i h
      obtain ⟨rfl, rfl⟩ := h
      rw [hV.val, range_point]
    · have := io.val ok_nil (rngA (exactN g) x0 z0 x1 z1)
      rw [fold_rng, Int.add_zero, Int.add_zero, Int.add_zero, Int.add_zero] at this
      rw [← this, show (stepsE (expand F [])).length - 1 = (into (expand F []) 0 0 []).2 by omega]
      rfl
theorem pr_last {H : Hp} {vs : List V} {ps : List (Int × Int)} {n : Nat} (h : PairsR H vs ps) (hn : ps.length = n) (n0 : 0 < n) : ∃ p, atI vs (-1) = some (.ref p) ∧ Pr H p (ps.getD (n - 1) (0, 0)) := by
  obtain ⟨r, h1, h2⟩ := pr_at (j := n - 1) h (by omega)
  exact ⟨r, at_lastV (n := n - 1) (by rw [Paired.length h]; omega) h1, h2⟩
/-! ### points, told or refused -/
def onLand (x z : Int) : Prop := (-1000000 ≤ x ∧ x ≤ 1000000) ∧ (-1000000 ≤ z ∧ z ≤ 1000000)
instance (x z : Int) : Decidable (onLand x z) := inferInstanceAs (Decidable (_ ∧ _))
def spPointG : Sp := fun vs H Q _ => ∃ x z : Int, vs = [.int x, .int z] ∧ Q (.bl (decide (onLand x z))) H
/-! ### boxes, told or refused -/
def spIsBox : Sp := fun vs H Q _ => ∃ (p : Addr) (x0 z0 x1 z1 : Int), vs = [.ref p] ∧ H p = some (.tup [.int x0, .int z0, .int x1, .int z1]) ∧ Q (.bl (decide (onBox x0 z0 x1 z1))) H
def spMustBox : Sp := fun vs H Q _ => ∃ (p : Addr) (x0 z0 x1 z1 : Int), vs = [.ref p] ∧ H p = some (.tup [.int x0, .int z0, .int x1, .int z1]) ∧ onBox x0 z0 x1 z1 ∧ Q .non H
def spMustBoxX (K : PySem.W.Frag) : Sp := fun vs H Q E => ∃ (p : Addr) (x0 z0 x1 z1 : Int), vs = [.ref p] ∧ H p = some (.tup [.int x0, .int z0, .int x1, .int z1]) ∧ ¬ onBox x0 z0 x1 z1 ∧ E (.ref (cA K "NoBox")) none H
def spBndsX (K : PySem.W.Frag) : Sp := fun vs H Q E => ∃ (u : V) (F : Fd) (g x0 z0 x1 z1 : Int) (b : Addr), vs = [u, .int g, .ref b] ∧ FRep F H u ∧ Good F ∧ H b = some (.tup [.int x0, .int z0, .int x1, .int z1]) ∧ ¬ onBox x0 z0 x1 z1 ∧ ∀ H', Same H H' → E (.ref (cA K "NoBox")) none H'
theorem purse_tup {p : Addr} {H H' : Hp} {o : HO} {m : Int} (k : Keep p H H') (hp : H p = some o) (hP : Purse m o) : Tup H H' := by
  obtain ⟨a, b, c, rfl, _⟩ := hP.ex
  exact keep_tup k hp
theorem Keep.of_same {p : Addr} {H H' : Hp} (s : Same H H') : Keep p H H' := fun c v _ h => s c v h
theorem none_keep {p l : Addr} {H H' : Hp} {o : HO} (k : Keep p H H') (hp : H' p = some o) (h : H' l = none) : H l = none := by
  cases e : H l with
  | none => rfl
  | some v =>
    rw [k _ _ (ne_of_none hp h).symm e] at h
    cases h
/-- a box's tuple at t -/
abbrev Bx (H : Hp) (t : Addr) (x0 z0 x1 z1 : Int) : Prop := H t = some (.tup [.int x0, .int z0, .int x1, .int z1])
def spCaught (K : PySem.W.Frag) : Sp := fun vs H Q _ => ∃ (u : V) (F : Fd) (g x0 z0 x1 z1 : Int) (b : Addr), vs = [u, .int g, .ref b] ∧ FRep F H u ∧ Good F ∧ Bx H b x0 z0 x1 z1 ∧ ¬ onBox x0 z0 x1 z1 ∧ ∀ l H', Same H H' → H' l = some (.lst [.int 1]) → Q (.ref l) H'
/-! ### k09: boxes, points in boxes -/
def spArea : Sp := fun vs H Q _ => ∃ (p : Addr) (wd dp m : Int) (o : HO), vs = [.ref p, .int wd, .int dp] ∧ H p = some o ∧ Purse m o ∧ m ≤ 10000000000000 ∧ 1 ≤ wd ∧ wd ≤ 3000 ∧ 1 ≤ dp ∧ dp ≤ 3000 ∧
  ∀ (x0 z0 x1 z1 : Int) (t : Addr) (o' : HO) (H' : Hp), onBox x0 z0 x1 z1 → Keep p H H' → H' p = some o' → Purse (m + 64) o' → Bx H' t x0 z0 x1 z1 → Q (.ref t) H'
def AreasOk (H : Hp) (ws : List V) : Prop := ∀ y ∈ ws, ∃ (t : Addr) (x0 z0 x1 z1 : Int), y = .ref t ∧ Bx H t x0 z0 x1 z1 ∧ onBox x0 z0 x1 z1
theorem AreasOk.mono {H H' : Hp} {ws : List V} (t : Tup H H') (h : AreasOk H ws) : AreasOk H' ws := fun v hv => by
  obtain ⟨a, x0, z0, x1, z1, e, f, r⟩ := h v hv
  exact ⟨a, x0, z0, x1, z1, e, t _ _ f, r⟩
theorem AreasOk.cat {H : Hp} {ws zs : List V} (h : AreasOk H ws) (k : AreasOk H zs) : AreasOk H (ws ++ zs) := fun v hv => by
  rcases List.mem_append.mp hv with hv | hv
  · exact h v hv
  · exact k v hv
def spAreas : Sp := fun vs H Q _ => ∃ (p : Addr) (m : Int) (o : HO), vs = [.ref p] ∧ H p = some o ∧ Purse m o ∧ m ≤ 1000000000000 ∧
  ∀ l ws H' o', Keep p H H' → H' p = some o' → Purse (m + 300) o' → H' l = some (.lst ws) → AreasOk H' ws → ws.length ≤ 9 → Q (.ref l) H'
def PtsIn (x0 z0 x1 z1 : Int) (H : Hp) (ws : List V) : Prop := ∀ y ∈ ws, ∃ (t : Addr) (x z : Int), y = .ref t ∧ H t = some (.tup [.int x, .int z]) ∧ (x0 ≤ x ∧ x ≤ x1) ∧ z0 ≤ z ∧ z ≤ z1
theorem PtsIn.mono {x0 z0 x1 z1 : Int} {H H' : Hp} {ws : List V} (t : Tup H H') (h : PtsIn x0 z0 x1 z1 H ws) : PtsIn x0 z0 x1 z1 H' ws := fun v hv => by
  obtain ⟨a, x, z, e, f, r⟩ := h v hv
  exact ⟨a, x, z, e, t _ _ f, r⟩
theorem PtsIn.cat {x0 z0 x1 z1 : Int} {H : Hp} {ws zs : List V} (h : PtsIn x0 z0 x1 z1 H ws) (k : PtsIn x0 z0 x1 z1 H zs) : PtsIn x0 z0 x1 z1 H (ws ++ zs) := fun v hv => by
  rcases List.mem_append.mp hv with hv | hv
  · exact h v hv
  · exact k v hv
def spSpots : Sp := fun vs H Q _ => ∃ (p b : Addr) (x0 z0 x1 z1 m : Int) (o : HO), vs = [.ref p, .ref b] ∧ H p = some o ∧ Purse m o ∧ m ≤ 1000000000000 ∧ Bx H b x0 z0 x1 z1 ∧ onBox x0 z0 x1 z1 ∧
  ∀ l ws H' o', Keep p H H' → H' p = some o' → Purse (m + 40) o' → H' l = some (.lst ws) → PtsIn x0 z0 x1 z1 H' ws → Q (.ref l) H'
/-- numbers from a to b -/
def fromTo (a b : Int) : List Int := (List.range (b + 1 - a).toNat).map fun (k : Nat) => a + k
theorem mem_fromTo {a b x : Int} : x ∈ fromTo a b ↔ a ≤ x ∧ x ≤ b := by
  unfold fromTo
  constructor
  · intro h
    obtain ⟨k, hk, rfl⟩ := List.mem_map.mp h
    have := List.mem_range.mp hk
    omega
  · intro h
    exact List.mem_map.mpr ⟨(x - a).toNat, List.mem_range.mpr (by omega), by omega⟩
def allV (e : Ex) (g x0 z0 x1 z1 : Int) : List Int := (fromTo x0 x1).flatMap fun x => (fromTo z0 z1).map fun z => valE e g x z
theorem sqs_pts {S x0 z0 x1 z1 : Int} (S0 : 0 < S) (hx : x0 ≤ x1) (hz : z0 ≤ z1) : sqs S x0 z0 x1 z1 ≤ (x1 - x0 + 1) * (z1 - z0 + 1) := by
  have key : ∀ {a b : Int}, a ≤ b → b / S - a / S + 1 ≤ b - a + 1 ∧ 0 ≤ b / S - a / S := fun {a b} h => by
    have m := Int.ediv_le_ediv S0 h
    have e : b = a + (b - a) := by omega
    have h2 : b / S ≤ a / S + (b - a) := by
      have h3 : b ≤ a + (b - a) * S := by
        have := Int.mul_le_mul_of_nonneg_left (show 1 ≤ S by omega) (show 0 ≤ b - a by omega)
        omega
      have h4 := Int.ediv_le_ediv S0 h3
      rw [Int.add_mul_ediv_right _ _ (by omega)] at h4
      exact h4
    omega
  have k1 := key hx
  have k2 := key hz
  unfold sqs
  exact Int.mul_le_mul (by omega) (by omega) (by omega) (by omega)
theorem allV_exact {g s l x0 z0 x1 z1 : Int} (hx : x0 ≤ x1) (hz : z0 ≤ z1) (few : (x1 - x0 + 1) * (z1 - z0 + 1) ≤ 64) : exactN g s l x0 z0 x1 z1 = (lMin (allV (.noise s l) g x0 z0 x1 z1), lMax (allV (.noise s l) g x0 z0 x1 z1)) := by
  have S0 := pow_pos2 l.toNat
  refine exact_of hx hz (Int.le_trans (sqs_pts S0 hx hz) few) (fun v hv => ?_) (fun x hx2 z hz2 => ?_)
  · obtain ⟨x, h1, h⟩ := List.mem_flatMap.mp hv
    obtain ⟨z, h2, rfl⟩ := List.mem_map.mp h
    have h1 := mem_fromTo.mp h1
    have h2 := mem_fromTo.mp h2
    exact ⟨x, z, h1.1, h1.2, h2.1, h2.2, rfl⟩
  · exact List.mem_flatMap.mpr ⟨x, mem_fromTo.mpr (turn_in S0 hx hx2), List.mem_map.mpr ⟨z, mem_fromTo.mpr (turn_in S0 hz hz2), rfl⟩⟩
def spAllP : Sp := fun vs H Q _ => ∃ (u : V) (F : Fd) (g x0 z0 x1 z1 : Int) (b : Addr), vs = [u, .int g, .ref b] ∧ FRep F H u ∧ Good F ∧ Bx H b x0 z0 x1 z1 ∧ onBox x0 z0 x1 z1 ∧ (x1 - x0 + 1) * (z1 - z0 + 1) ≤ 64 ∧
  PrTo H Q (lMin (allV (expand F []) g x0 z0 x1 z1), lMax (allV (expand F []) g x0 z0 x1 z1))
def rowsV (e : Ex) (g x0 z0 z1 : Int) (n : Nat) : List Int := ((List.range n).map fun (k : Nat) => x0 + k).flatMap fun x => (fromTo z0 z1).map fun z => valE e g x z
theorem rowsV_succ (e : Ex) (g x0 z0 z1 : Int) (n : Nat) : rowsV e g x0 z0 z1 (n + 1) = rowsV e g x0 z0 z1 n ++ (fromTo z0 z1).map fun z => valE e g (x0 + n) z := by
  unfold rowsV
  rw [List.range_succ, List.map_append, List.flatMap_append]
  simp
theorem rowsV_len (e : Ex) (g x0 z0 z1 : Int) (n : Nat) : (rowsV e g x0 z0 z1 n).length = n * (z1 + 1 - z0).toNat := by
  induction n with
  | zero => simp [rowsV]
  | succ n ih =>
    rw [rowsV_succ, List.length_append, ih, List.length_map]
    simp only [fromTo, List.length_map, List.length_range]
    rw [Nat.succ_mul]
theorem shaped_pair (ab : Int × Int) : SeqAt.shaped (pairD ab) = true := by simp [pairD, SeqAt.shaped, PyData.canLay0, PyData.canLayAll0, PyData.depth, PyData.depthAll]
theorem dp_pair {K : PySem.W.Frag} {H : Hp} {t : Addr} {ab : Int × Int} (h : H t = some (.tup [.int ab.1, .int ab.2])) : Dp K H (.ref t) (pairD ab) := .tup (SqT.of h) (.cons (.int _) (.cons (.int _) .nil))
def spRight : Sp := fun vs H Q _ => ∃ (p : Addr) (u : V) (F : Fd) (g x0 z0 x1 z1 m : Int) (b : Addr) (o : HO), vs = [.ref p, u, .int g, .ref b] ∧ H p = some o ∧ Purse m o ∧ m ≤ 100000000000 ∧ FRep F H u ∧ Good F ∧ Bx H b x0 z0 x1 z1 ∧ onBox x0 z0 x1 z1 ∧
  ∀ H' o', Keep p H H' → H' p = some o' → Purse (m + 40) o' → Q (.bl true) H'
theorem r100 {k : Nat} {A : Around} (r : Room k A) : A.units + 100 < cLine := by have := r.un; omega
structure Tst (F : Fd) : Prop where
  good : Good F
  nodes : nodes F ≤ 125
theorem tst_drawn {F : Fd} (h : Drawn F 3) : Tst F := ⟨good_of (inn_of h), nodes_dep F 3 h.dep⟩
theorem tst_noise {s l : Int} (s0 : 0 ≤ s) (s1 : s ≤ 1000000000) (l0 : 0 ≤ l) (l1 : l ≤ 8) : Tst (.noise s l) := by
  refine ⟨⟨True.intro, ⟨⟨s0, s1⟩, l0, l1⟩, by simp [dep], by simp [udep], True.intro, by simp [expand, cn], by simp [expand, vb], fun p hp => ?_⟩, by simp [nodes]⟩
  rw [List.mem_singleton.mp hp]
  show -1000000000000000000000000000000 ≤ (0 : Int) ∧ (65535 : Int) ≤ 1000000000000000000000000000000
  decide
def OffBox (H : Hp) (ws : List V) : Prop := ∀ y ∈ ws, ∃ (t : Addr) (x0 z0 x1 z1 : Int), y = .ref t ∧ Bx H t x0 z0 x1 z1 ∧ ¬ onBox x0 z0 x1 z1
def spLaw (K : PySem.W.Frag) : Sp := fun vs H Q _ => ∃ (a : Addr) (ns : List Int), vs = [.ref a] ∧ SqL K H a (ns.map V.int) ∧ ∀ H', Q (.bl true) H'
section
variable {P : Program} {w : World} {K : PySem.W.Frag} {mg : Str → Option Value} {base : Heap} {f : Addr} {fd : FuncData}
abbrev N_is_from : List Str := ["thing", "low", "high"]
theorem sc_is_from : FnScope N_is_from ["thing", "low", "high"] (defScope s_is_from) := ⟨rfl, rfl, rfl, by decide +kernel, rfl, by decide +kernel, by decide +kernel⟩
theorem ok_is_from (F : FnP K "is_from" s_is_from f fd) (T : Bi mg) (G : Kn K mg)  : FnOk P w K mg base CX0 1 f fd ["thing", "low", "high"] spFrom := by
  refine F.ok sc_is_from (fun vs H Q E h => ?_) (fun cdv A outer s H vs Q E hr h => ⟨_, PSs.nox
(pss_one (ps_ret (pe_and (pe_callB call_isi (by rfl) T.isinstance (by decide +kernel) (pa_cons (pv 0) (pa_cons (pe_bltn (v := .ty "int") (by rfl) T.int boot_int rfl) pa_nil))) (pe_and (pe_chain op_le op_le (pv 1) (pv 0) (pv 2)) (pe_one (pe_not (pe_callB call_isi (by rfl) T.isinstance (by decide +kernel) (pa_cons (pv 0) (pa_cons (pe_bltn (v := .ty "bool") (by rfl) T.bool boot_bool rfl) pa_nil))))))))), ?_⟩)
  · obtain ⟨a, lo, hi, rfl, _⟩ := h
    rfl
  · obtain ⟨a, lo, hi, rfl, h0, h1, q⟩ := h
    walk_at "lw i0"
    walk_at "lw go"
    refine ⟨_, _, _, _, true, rfl, .ty "int", .base (.int _), kit_ty (by decide +kernel), ?_⟩
    walk_at "lw go"
    refine iteS h0 ?_
    walk_at "lw go"
    rw [decide_eq_true h1]
    walk_at "lw go"
    refine ⟨_, _, _, _, false, rfl, .ty "bool", .base (.int _), kit_ty (by decide +kernel), ?_⟩
    walk_at "lw go"
    exact q
abbrev N_is_name : List Str := ["thing"]
theorem sc_is_name : FnScope N_is_name ["thing"] (defScope s_is_name) := ⟨rfl, rfl, rfl, by decide +kernel, rfl, by decide +kernel, by decide +kernel⟩
theorem ok_is_name (F : FnP K "is_name" s_is_name f fd) (T : Bi mg) (G : Kn K mg)  : FnOk P w K mg base CX0 1 f fd ["thing"] spName := by
  refine F.ok sc_is_name (fun vs H Q E h => ?_) (fun cdv A outer s H vs Q E hr h => ⟨_, PSs.nox
(pss_one (ps_ret (pe_and (pe_callB call_isi (by rfl) T.isinstance (by decide +kernel) (pa_cons (pv 0) (pa_cons (pe_bltn (v := .ty "str") (by rfl) T.str boot_str rfl) pa_nil))) (pe_and (pe_bm0 PySem.F.plainAttrs_str PySem.F.slot_str_isascii PySem.F.type_str_isascii mt_isascii (pv 0)) (pe_and (pe_bm0 PySem.F.plainAttrs_str PySem.F.slot_str_isalpha PySem.F.type_str_isalpha mt_isalpha (pv 0)) (pe_and (pe_bm0 PySem.F.plainAttrs_str PySem.F.slot_str_islower PySem.F.type_str_islower mt_islower (pv 0)) (pe_one (pe_cmpR op_le (pe_callB call_len_str (by rfl) T.len (by decide +kernel) (pa_cons (pv 0) pa_nil)) (pe_gI (by rfl) G.c_LONGEST_NAME) (nomark _))))))))), ?_⟩)
  · obtain ⟨x, rfl, _⟩ := h
    rfl
  · obtain ⟨x, rfl, hx, q⟩ := h
    walk_at "lw i0"
    obtain ⟨n1, n2, n3⟩ := name_signs hx
    walk_at "lw go"
    refine ⟨_, _, _, _, true, rfl, .ty "str", .base (.str _), kit_ty (by decide +kernel), ?_⟩
    walk_at "lw go"
    refine ⟨rfl, x, rfl, rfl, True.intro, true, by rw [n1], ?_⟩
    walk_at "lw go"
    refine ⟨rfl, x, rfl, rfl, True.intro, true, by rw [n2], ?_⟩
    walk_at "lw go"
    refine ⟨rfl, x, rfl, rfl, True.intro, true, by rw [n3], ?_⟩
    walk_at "lw go"
    refine ⟨x, rfl, by have := hx.2.1; rw [sizeLine_eq]; omega, ?_⟩
    walk_at "lw go"
    rw [decide_eq_true (show ((x.length : Nat) : Int) ≤ 8 by have := hx.2.1; omega)]
    exact q
abbrev N_is_point : List Str := ["x", "z"]
theorem sc_is_point : FnScope N_is_point ["x", "z"] (defScope s_is_point) := ⟨rfl, rfl, rfl, by decide +kernel, rfl, by decide +kernel, by decide +kernel⟩
theorem ok_is_point (F : FnP K "is_point" s_is_point f fd) (T : Bi mg) (G : Kn K mg)  : FnOk P w K mg base CX0 1 f fd ["x", "z"] spPointG := by
  refine F.ok sc_is_point (fun vs H Q E h => ?_) (fun cdv A outer s H vs Q E hr h => ⟨_, PSs.nox
(pss_one (ps_ret (pe_and (pe_callB call_isi (by rfl) T.isinstance (by decide +kernel) (pa_cons (pv 0) (pa_cons (pe_bltn (v := .ty "int") (by rfl) T.int boot_int rfl) pa_nil))) (pe_and (pe_callB call_isi (by rfl) T.isinstance (by decide +kernel) (pa_cons (pv 1) (pa_cons (pe_bltn (v := .ty "int") (by rfl) T.int boot_int rfl) pa_nil))) (pe_and (pe_chain op_le op_le (pe_un un_neg (pe_gI (by rfl) G.c_EDGE)) (pv 0) (pe_gI (by rfl) G.c_EDGE)) (pe_and (pe_chain op_le op_le (pe_un un_neg (pe_gI (by rfl) G.c_EDGE)) (pv 1) (pe_gI (by rfl) G.c_EDGE)) (pe_and (pe_not (pe_callB call_isi (by rfl) T.isinstance (by decide +kernel) (pa_cons (pv 0) (pa_cons (pe_bltn (v := .ty "bool") (by rfl) T.bool boot_bool rfl) pa_nil)))) (pe_one (pe_not (pe_callB call_isi (by rfl) T.isinstance (by decide +kernel) (pa_cons (pv 1) (pa_cons (pe_bltn (v := .ty "bool") (by rfl) T.bool boot_bool rfl) pa_nil)))))))))))), ?_⟩)
  · obtain ⟨x, z, rfl, _⟩ := h
    rfl
  · obtain ⟨x, z, rfl, q⟩ := h
    walk_at "lw i0"
    walk_at "lw go"
    refine ⟨_, _, _, _, true, rfl, .ty "int", .base (.int _), kit_ty (by decide +kernel), ?_⟩
    walk_at "lw go"
    refine ⟨_, _, _, _, true, rfl, .ty "int", .base (.int _), kit_ty (by decide +kernel), ?_⟩
    walk_at "lw go"
    by_cases h1 : -1000000 ≤ x
    · refine iteS h1 ?_
      walk_at "lw go"
      by_cases h2 : x ≤ 1000000
      · rw [decide_eq_true h2]
        walk_at "lw go"
        by_cases h3 : -1000000 ≤ z
        · refine iteS h3 ?_
          walk_at "lw go"
          by_cases h4 : z ≤ 1000000
          · rw [decide_eq_true h4]
            rw [decide_eq_true (show onLand x z from ⟨⟨h1, h2⟩, h3, h4⟩)] at q
            walk_at "lw go"
            refine ⟨_, _, _, _, false, rfl, .ty "bool", .base (.int _), kit_ty (by decide +kernel), ?_⟩
            walk_at "lw go"
            refine ⟨_, _, _, _, false, rfl, .ty "bool", .base (.int _), kit_ty (by decide +kernel), ?_⟩
            walk_at "lw go"
            exact q
          · rw [decide_eq_false h4]
            rw [decide_eq_false (show ¬ onLand x z from fun e => h4 e.2.2)] at q
            walk_at "lw go"
            exact q
        · refine iteNo h3 ?_
          rw [decide_eq_false (show ¬ onLand x z from fun e => h3 e.2.1)] at q
          walk_at "lw go"
          exact q
      · rw [decide_eq_false h2]
        rw [decide_eq_false (show ¬ onLand x z from fun e => h2 e.1.2)] at q
        walk_at "lw go"
        exact q
    · refine iteNo h1 ?_
      rw [decide_eq_false (show ¬ onLand x z from fun e => h1 e.1.1)] at q
      walk_at "lw go"
      exact q
abbrev N_must_point : List Str := ["x", "z"]
theorem sc_must_point : FnScope N_must_point ["x", "z"] (defScope s_must_point) := ⟨rfl, rfl, rfl, by decide +kernel, rfl, by decide +kernel, by decide +kernel⟩
theorem ok_must_point (F : FnP K "must_point" s_must_point f fd) (T : Bi mg) (G : Kn K mg) (D_is_point : Df P w K mg base "is_point" ["x", "z"] 1 spPointG) : FnOk P w K mg base CX0 2 f fd ["x", "z"] spMustPt := by
  refine F.ok sc_must_point (fun vs H Q E h => ?_) (fun cdv A outer s H vs Q E hr h => ⟨_, PSs.nox
(pss_one (ps_if (pt_not (pt_val (pe_df D_is_point (hr.mono (by first | decide | omega)) (pa_cons (pv 0) (pa_cons (pv 1) pa_nil)))))
  pss_never
  pss_nil)), ?_⟩)
  · obtain ⟨x, z, rfl, _⟩ := h
    rfl
  · obtain ⟨x, z, rfl, x0, x1, z0, z1, q⟩ := h
    walk_at "lw i0"
    walk_at "lw go"
    refine ⟨x, z, rfl, ?_⟩
    rw [decide_eq_true (show onLand x z from ⟨⟨x0, x1⟩, z0, z1⟩)]
    walk_at "lw go"
    exact q
abbrev N_is_box : List Str := ["thing"]
theorem sc_is_box : FnScope N_is_box ["thing"] (defScope s_is_box) := ⟨rfl, rfl, rfl, by decide +kernel, rfl, by decide +kernel, by decide +kernel⟩
theorem ok_is_box (F : FnP K "is_box" s_is_box f fd) (T : Bi mg) (G : Kn K mg) (D_is_point : Df P w K mg base "is_point" ["x", "z"] 1 spPointG) : FnOk P w K mg base CX0 2 f fd ["thing"] spIsBox := by
  refine F.ok sc_is_box (fun vs H Q E h => ?_) (fun cdv A outer s H vs Q E hr h => ⟨_, PSs.nox
(pss_cons (ps_if (PW.pt (pw_or (pt_not (pt_val (pe_callB call_isi (by rfl) T.isinstance (by decide +kernel) (pa_cons (pv 0) (pa_cons (pe_bltn (v := .ty "tuple") (by rfl) T.tuple boot_tuple rfl) pa_nil))))) (pw_or1 (pt_cmpR op_ne (pe_callB call_len_seq (by rfl) T.len (by decide +kernel) (pa_cons (pv 0) pa_nil)) pe_int (nomark _)))))
  (pss_one (ps_ret pe_bl))
  pss_nil)
  (pss_cons (ps_if (PW.pt (pw_or (pt_not (pt_val (pe_df D_is_point (hr.mono (by first | decide | omega)) (pa_cons (pe_ix ix_tup (pv 0) pe_int (fun _ _ => rfl)) (pa_cons (pe_ix ix_tup (pv 0) pe_int (fun _ _ => rfl)) pa_nil))))) (pw_or1 (pt_not (pt_val (pe_df D_is_point (hr.mono (by first | decide | omega)) (pa_cons (pe_ix ix_tup (pv 0) pe_int (fun _ _ => rfl)) (pa_cons (pe_ix ix_tup (pv 0) pe_int (fun _ _ => rfl)) pa_nil))))))))
  (pss_one (ps_ret pe_bl))
  pss_nil)
  (pss_one (ps_ret (pe_and (pe_cmpR op_le (pe_ix ix_tup (pv 0) pe_int (fun _ _ => rfl)) (pe_ix ix_tup (pv 0) pe_int (fun _ _ => rfl)) (nomark _)) (pe_one (pe_cmpR op_le (pe_ix ix_tup (pv 0) pe_int (fun _ _ => rfl)) (pe_ix ix_tup (pv 0) pe_int (fun _ _ => rfl)) (nomark _)))))))), ?_⟩)
  · obtain ⟨p, x0, z0, x1, z1, rfl, _⟩ := h
    rfl
  · obtain ⟨p, x0, z0, x1, z1, rfl, hp, q⟩ := h
    walk_at "lw i0"
    walk_at "lw go"
    refine ⟨_, _, _, _, true, rfl, .ty "tuple", .base (.tup hp), kit_ty (by decide +kernel), ?_⟩
    walk_at "lw go"
    refine ⟨p, _, rfl, .inr (SqT.of hp), ?_⟩
    walk_at "lw go"
    refine iteNS rfl ?_
    walk_at "lw go"
    refine g_ixT (SqT.of hp) (v := .int x0) (atI_nat (j := 0) (by rfl)) ?_
    walk_at "lw go"
    refine g_ixT (SqT.of hp) (v := .int z0) (atI_nat (j := 1) (by rfl)) ?_
    walk_at "lw go"
    refine ⟨x0, z0, rfl, ?_⟩
    walk_at "lw go"
    have no : ¬ onBox x0 z0 x1 z1 → Q (.bl false) H := fun h => by
      rw [decide_eq_false h] at q
      exact q
    by_cases o1 : onLand x0 z0
    · rw [decide_eq_true o1]
      walk_at "lw go"
      refine g_ixT (SqT.of hp) (v := .int x1) (atI_nat (j := 2) (by rfl)) ?_
      walk_at "lw go"
      refine g_ixT (SqT.of hp) (v := .int z1) (atI_nat (j := 3) (by rfl)) ?_
      walk_at "lw go"
      refine ⟨x1, z1, rfl, ?_⟩
      by_cases o2 : onLand x1 z1
      · rw [decide_eq_true o2]
        walk_at "lw go"
        refine g_ixT (SqT.of hp) (v := .int x0) (atI_nat (j := 0) (by rfl)) ?_
        walk_at "lw go"
        refine g_ixT (SqT.of hp) (v := .int x1) (atI_nat (j := 2) (by rfl)) ?_
        walk_at "lw go"
        refine g_ite (fun h1 => ?_) (fun h1 => ?_)
        · walk_at "lw go"
          refine g_ixT (SqT.of hp) (v := .int z0) (atI_nat (j := 1) (by rfl)) ?_
          walk_at "lw go"
          refine g_ixT (SqT.of hp) (v := .int z1) (atI_nat (j := 3) (by rfl)) ?_
          walk_at "lw go"
          have e : decide (z0 ≤ z1) = decide (onBox x0 z0 x1 z1) := decide_eq_decide.mpr ⟨fun h => ⟨⟨o1.1.1, h1, o2.1.2⟩, o1.2.1, h, o2.2.2⟩, fun h => h.2.2.1⟩
          rw [e]
          exact q
        · exact no (fun h => h1 h.1.2.1)
      · rw [decide_eq_false o2]
        walk_at "lw go"
        exact no (fun h => o2 (by obtain ⟨⟨_, _, _⟩, _, _, _⟩ := h; exact ⟨⟨by omega, by omega⟩, by omega, by omega⟩))
    · rw [decide_eq_false o1]
      walk_at "lw go"
      exact no (fun h => o1 (by obtain ⟨⟨_, _, _⟩, _, _, _⟩ := h; exact ⟨⟨by omega, by omega⟩, by omega, by omega⟩))
abbrev N_must_box : List Str := ["box"]
theorem sc_must_box : FnScope N_must_box ["box"] (defScope s_must_box) := ⟨rfl, rfl, rfl, by decide +kernel, rfl, by decide +kernel, by decide +kernel⟩
theorem ok_must_box (F : FnP K "must_box" s_must_box f fd) (T : Bi mg) (G : Kn K mg) (D_is_box : Df P w K mg base "is_box" ["thing"] 2 spIsBox) : FnOk P w K mg base CX0 3 f fd ["box"] spMustBox := by
  refine F.ok (k := 2) sc_must_box (fun vs H Q E h => ?_) (fun cdv A outer s H vs Q E hr h => ⟨_, PSs.nox
(pss_one (ps_if (pt_not (pt_val (pe_df D_is_box (hr.mono (by first | decide | omega)) (pa_cons (pv 0) pa_nil))))
  pss_never
  pss_nil)), ?_⟩)
  · obtain ⟨_, _, _, _, _, rfl, _⟩ := h
    rfl
  · obtain ⟨p, x0, z0, x1, z1, rfl, hp, ho, q⟩ := h
    walk_at "lw i0"
    walk_at "lw go"
    refine ⟨p, x0, z0, x1, z1, rfl, hp, ?_⟩
    rw [decide_eq_true ho]
    walk_at "lw go"
    exact q
theorem ok_must_boxX (F : FnP K "must_box" s_must_box f fd) (T : Bi mg) (G : Kn K mg) (D_is_box : Df P w K mg base "is_box" ["thing"] 2 spIsBox) : FnOk P w K mg base (L2.CX P w) 3 f fd ["box"] (spMustBoxX K) := by
  refine F.ok (k := 2) sc_must_box (fun vs H Q E h => ?_) (fun cdv A outer s H vs Q E hr h => ⟨_, (pss_one (ps_if (pt_not (pt_val (pe_df D_is_box (hr.mono (by first | decide | omega)) (pa_cons (pv 0) pa_nil))))
    (pss_one (ps_raise rfl (takes_of rfl rfl rfl rfl) (pmk_P0 (C := cA K "NoBox") (G.er.plain (x := "NoBox") (fs := []) (by simp [csK])) G.g_NoBox)))
    pss_nil)), ?_⟩)
  · obtain ⟨_, _, _, _, _, rfl, _⟩ := h
    rfl
  · obtain ⟨p, x0, z0, x1, z1, rfl, hp, ho, e⟩ := h
    walk_at "lw i0"
    walk_at "lw go"
    refine ⟨p, x0, z0, x1, z1, rfl, hp, ?_⟩
    rw [decide_eq_false ho]
    walk_at "lw go"
    exact e
abbrev N_knot : List Str := ["seed", "salt", "i", "j", "first", "second", "third"]
theorem sc_knot : FnScope N_knot ["seed", "salt", "i", "j"] (defScope s_knot) := ⟨rfl, rfl, rfl, by decide +kernel, rfl, by decide +kernel, by decide +kernel⟩
theorem ok_knot (F : FnP K "knot" s_knot f fd) (T : Bi mg) (G : Kn K mg)  : FnOk P w K mg base CX0 1 f fd ["seed", "salt", "i", "j"] spKnot := by
  refine F.ok sc_knot (fun vs H Q E h => ?_) (fun cdv A outer s H vs Q E hr h => ⟨_, PSs.nox
(pss_cons (ps_set (i := 4) sc_knot.nd rfl (Or.inl rfl) (pe_op op_mod (pe_op op_add (pe_op op_add (pv 0) (pe_op op_mul pe_int (pv 1))) pe_int) pe_int))
  (pss_cons (ps_set (i := 5) sc_knot.nd rfl (Or.inl rfl) (pe_op op_mod (pe_op op_add (pe_op op_add (pe_op op_mul (pv 4) (pv 4)) (pe_op op_mul pe_int (pv 2))) pe_int) pe_int))
  (pss_cons (ps_set (i := 6) sc_knot.nd rfl (Or.inl rfl) (pe_op op_mod (pe_op op_add (pe_op op_add (pe_op op_mul (pv 5) (pv 5)) (pe_op op_mul pe_int (pv 3))) pe_int) pe_int))
  (pss_one (ps_ret (pe_op op_mod (pe_op op_mod (pe_op op_add (pe_op op_mul (pv 6) (pv 6)) (pv 6)) pe_int) pe_int)))))), ?_⟩)
  · obtain ⟨a, b, c, d, rfl, _⟩ := h
    rfl
  · obtain ⟨a, b, c, d, rfl, q⟩ := h
    walk_at "lw i0"
    walk_at "lw go"
    exact q
abbrev N_four_knots : List Str := ["seed", "salt", "i", "j", "first", "start", "second", "beside", "turn", "one", "three", "two", "four"]
theorem sc_four_knots : FnScope N_four_knots ["seed", "salt", "i", "j"] (defScope s_four_knots) := ⟨rfl, rfl, rfl, by decide +kernel, rfl, by decide +kernel, by decide +kernel⟩
theorem ok_four_knots (F : FnP K "four_knots" s_four_knots f fd) (T : Bi mg) (G : Kn K mg)  : FnOk P w K mg base CX0 1 f fd ["seed", "salt", "i", "j"] spFour := by
  refine F.ok sc_four_knots (fun vs H Q E h => ?_) (fun cdv A outer s H vs Q E hr h => ⟨_, PSs.nox
(pss_cons (ps_set (i := 4) sc_four_knots.nd rfl (Or.inl rfl) (pe_op op_mod (pe_op op_add (pe_op op_add (pv 0) (pe_op op_mul pe_int (pv 1))) pe_int) pe_int))
  (pss_cons (ps_set (i := 5) sc_four_knots.nd rfl (Or.inl rfl) (pe_op op_add (pe_op op_add (pe_op op_mul (pv 4) (pv 4)) (pe_op op_mul pe_int (pv 2))) pe_int))
  (pss_cons (ps_set (i := 6) sc_four_knots.nd rfl (Or.inl rfl) (pe_op op_mod (pv 5) pe_int))
  (pss_cons (ps_set (i := 7) sc_four_knots.nd rfl (Or.inl rfl) (pe_op op_mod (pe_op op_add (pv 5) pe_int) pe_int))
  (pss_cons (ps_set (i := 8) sc_four_knots.nd rfl (Or.inl rfl) (pe_op op_add (pe_op op_mul pe_int (pv 3)) pe_int))
  (pss_cons (ps_set (i := 5) sc_four_knots.nd rfl (Or.inl rfl) (pe_op op_add (pe_op op_mul (pv 6) (pv 6)) (pv 8)))
  (pss_cons (ps_set (i := 9) sc_four_knots.nd rfl (Or.inl rfl) (pe_op op_mod (pv 5) pe_int))
  (pss_cons (ps_set (i := 10) sc_four_knots.nd rfl (Or.inl rfl) (pe_op op_mod (pe_op op_add (pv 5) pe_int) pe_int))
  (pss_cons (ps_set (i := 5) sc_four_knots.nd rfl (Or.inl rfl) (pe_op op_add (pe_op op_mul (pv 7) (pv 7)) (pv 8)))
  (pss_cons (ps_set (i := 11) sc_four_knots.nd rfl (Or.inl rfl) (pe_op op_mod (pv 5) pe_int))
  (pss_cons (ps_set (i := 12) sc_four_knots.nd rfl (Or.inl rfl) (pe_op op_mod (pe_op op_add (pv 5) pe_int) pe_int))
  (pss_one (ps_ret (pe_tup (pa_cons (pe_op op_mod (pe_op op_mod (pe_op op_add (pe_op op_mul (pv 9) (pv 9)) (pv 9)) pe_int) pe_int) (pa_cons (pe_op op_mod (pe_op op_mod (pe_op op_add (pe_op op_mul (pv 11) (pv 11)) (pv 11)) pe_int) pe_int) (pa_cons (pe_op op_mod (pe_op op_mod (pe_op op_add (pe_op op_mul (pv 10) (pv 10)) (pv 10)) pe_int) pe_int) (pa_cons (pe_op op_mod (pe_op op_mod (pe_op op_add (pe_op op_mul (pv 12) (pv 12)) (pv 12)) pe_int) pe_int) pa_nil)))))))))))))))))), ?_⟩)
  · obtain ⟨g, s, i, j, rfl, _⟩ := h
    rfl
  · obtain ⟨g, s0, i, j, rfl, q⟩ := h
    walk_at "lw i0"
    obtain ⟨a, hA, a0, a1⟩ : ∃ a, (g + 48271 * s0 + 7) % 2147483647 = a ∧ 0 ≤ a ∧ a < 2147483647 := ⟨_, rfl, by omega, by omega⟩
    obtain ⟨b, hB, b0, b1⟩ : ∃ b, (a * a + 69621 * i + 1) % 2147483629 = b ∧ 0 ≤ b ∧ b < 2147483629 := ⟨_, rfl, by omega, by omega⟩
    obtain ⟨c, hC, c0, c1⟩ : ∃ c, (a * a + 69621 * i + 1 + 69621) % 2147483629 = c ∧ 0 ≤ c ∧ c < 2147483629 := ⟨_, rfl, by omega, by omega⟩
    obtain ⟨k1, h1, k10, k11⟩ : ∃ k, (b * b + (16807 * j + 1)) % 2147483587 = k ∧ 0 ≤ k ∧ k < 2147483587 := ⟨_, rfl, by omega, by omega⟩
    obtain ⟨k2, h2, k20, k21⟩ : ∃ k, (c * c + (16807 * j + 1)) % 2147483587 = k ∧ 0 ≤ k ∧ k < 2147483587 := ⟨_, rfl, by omega, by omega⟩
    obtain ⟨k3, h3, k30, k31⟩ : ∃ k, (b * b + (16807 * j + 1) + 16807) % 2147483587 = k ∧ 0 ≤ k ∧ k < 2147483587 := ⟨_, rfl, by omega, by omega⟩
    obtain ⟨k4, h4, k40, k41⟩ : ∃ k, (c * c + (16807 * j + 1) + 16807) % 2147483587 = k ∧ 0 ≤ k ∧ k < 2147483587 := ⟨_, rfl, by omega, by omega⟩
    have hq : fourV g s0 i j = [.int ((k1 * k1 + k1) % 2147483579 % 65536), .int ((k2 * k2 + k2) % 2147483579 % 65536), .int ((k3 * k3 + k3) % 2147483579 % 65536), .int ((k4 * k4 + k4) % 2147483579 % 65536)] := by
      rw [← four_eq]
      subst hA hB hC h1 h2 h3 h4
      rfl
    rw [hq] at q
    clear hq
    with_reducible refine' g_seq ?_
    walk_at "lw st"
    rw [hA]
    clear hA
    with_reducible refine' g_seq ?_
    walk_at "lw st"
    with_reducible refine' g_seq ?_
    walk_at "lw st"
    rw [hB]
    with_reducible refine' g_seq ?_
    walk_at "lw st"
    rw [hC]
    clear hB hC
    with_reducible refine' g_seq ?_
    walk_at "lw st"
    with_reducible refine' g_seq ?_
    walk_at "lw st"
    with_reducible refine' g_seq ?_
    walk_at "lw st"
    rw [h1]
    with_reducible refine' g_seq ?_
    walk_at "lw st"
    rw [h3]
    clear h1 h3
    with_reducible refine' g_seq ?_
    walk_at "lw st"
    with_reducible refine' g_seq ?_
    walk_at "lw st"
    rw [h2]
    with_reducible refine' g_seq ?_
    walk_at "lw st"
    rw [h4]
    clear h2 h4
    walk_at "lw go"
    exact ⟨by show 4 ≤ sizeLine; decide, fun p hp => q p hp⟩
abbrev N_knot_row : List Str := ["seed", "salt", "i", "places", "first", "second", "start", "thirds", "j", "third"]
theorem sc_knot_row : FnScope N_knot_row ["seed", "salt", "i", "places"] (defScope s_knot_row) := ⟨rfl, rfl, rfl, by decide +kernel, rfl, by decide +kernel, by decide +kernel⟩
theorem ok_knot_row (F : FnP K "knot_row" s_knot_row f fd) (T : Bi mg) (G : Kn K mg)  : FnOk P w K mg base CX0 1 f fd ["seed", "salt", "i", "places"] spKrow := by
  refine F.ok sc_knot_row (fun vs H Q E h => ?_) (fun cdv A outer s H vs Q E hr h => ⟨_, PSs.nox
(pss_cons (ps_set (i := 4) sc_knot_row.nd rfl (Or.inl rfl) (pe_op op_mod (pe_op op_add (pe_op op_add (pv 0) (pe_op op_mul pe_int (pv 1))) pe_int) pe_int))
  (pss_cons (ps_set (i := 5) sc_knot_row.nd rfl (Or.inl rfl) (pe_op op_mod (pe_op op_add (pe_op op_add (pe_op op_mul (pv 4) (pv 4)) (pe_op op_mul pe_int (pv 2))) pe_int) pe_int))
  (pss_cons (ps_set (i := 6) sc_knot_row.nd rfl (Or.inr rfl) (pe_op op_add (pe_op op_mul (pv 5) (pv 5)) pe_int))
  (pss_cons (ps_setLc (i := 7) (own := [("j", 8)]) (g := gName 8) (tt := tYes) rfl sc_knot_row.nd rfl rfl (sw_true rfl rfl rfl (by decide +kernel)) (pi_list (pv 3)) (blkOk_by (N := N_knot_row) (sc := defScope s_knot_row) (by decide +kernel)) (fun _ _ _ _ _ => pg_name (i := 8) sc_knot_row.nd rfl (Or.inl rfl)) (fun _ _ _ _ _ => pts_nil) (fun _ _ _ _ _ => (pe_op op_mod (pe_op op_add (pv 6) (pe_op op_mul pe_int (pv 8))) pe_int)))
  (pss_one (ps_ret (pe_lc (own := [("third", 9)]) (g := gName 9) (tt := tYes) rfl sc_knot_row.nd (pi_list (pv 7)) (blkOk_by (N := N_knot_row) (sc := defScope s_knot_row) (by decide +kernel)) (fun _ _ _ _ _ => pg_name (i := 9) sc_knot_row.nd rfl (Or.inl rfl)) (fun _ _ _ _ _ => pts_nil) (fun _ _ _ _ _ => (pe_op op_mod (pe_op op_mod (pe_op op_add (pe_op op_mul (pv 9) (pv 9)) (pv 9)) pe_int) pe_int))))))))), ?_⟩)
  · obtain ⟨g, s, i, pl, ps, rfl, _⟩ := h
    rfl
  · obtain ⟨g, s, i, pl, ps, rfl, hp, hpn, q⟩ := h
    walk_at "lw i0"
    obtain ⟨A, eA⟩ : ∃ A, (g + 48271 * s + 7) % 2147483647 = A := ⟨_, rfl⟩
    obtain ⟨B, eB⟩ : ∃ B, (A * A + 69621 * i + 1) % 2147483629 = B := ⟨_, rfl⟩
    walk_at "lw go"
    rw [eA, eB]
    refine ⟨pl, rfl, ⟨_, SqL.of hp⟩, fun D hD => lc_list (xs := ps.map V.int) (fun i H' => Same H H' ∧ H' D = some (.lst ((ps.take i).map fun j => V.int ((B * B + 1 + 16807 * j) % 2147483587)))) ⟨same_new hD, upd_same⟩ (fun i H' _ ⟨s, _⟩ => SqL.of (s _ _ hp)) ?_ ?_⟩
    · rintro k y H' hk ⟨s1, hd⟩
      obtain ⟨j, hj, rfl⟩ : ∃ j, ps[k]? = some j ∧ y = .int j := by
        rw [List.getElem?_map] at hk
        cases e : ps[k]? with
        | none => rw [e] at hk; cases hk
        | some j => rw [e] at hk; exact ⟨j, rfl, by cases hk; rfl⟩
      walk_at "lw go"
      refine ⟨rfl, g_yes (iteT ?_)⟩
      walk_at "lw go"
      have hk2 : k < ps.length := by
        rcases Nat.lt_or_ge k ps.length with h | h
        · exact h
        · rw [List.getElem?_eq_none h] at hj; cases hj
      refine ⟨_, hd, small_size (by simp; omega), same_put s1 hD, ?_⟩
      rw [upd_same, List.take_succ, hj, List.map_append]
      rfl
    · rintro H' ⟨s1, hd⟩
      have hd : H' D = some (.lst (ps.map fun j => V.int ((B * B + 1 + 16807 * j) % 2147483587))) := by
        rw [hd, List.length_map, List.take_length]
      walk_at "lw go"
      refine ⟨D, rfl, ⟨_, SqL.of hd⟩, fun D2 hD2 => lc_list (xs := ps.map fun j => V.int ((B * B + 1 + 16807 * j) % 2147483587)) (fun i' H'' => Same H' H'' ∧ H'' D2 = some (.lst ((ps.take i').map fun j => V.int (knotL g s i j)))) ⟨same_new hD2, upd_same⟩ (fun i H'' _ ⟨s2, _⟩ => SqL.of (s2 _ _ hd)) ?_ ?_⟩
      · rintro k y H'' hk ⟨s2, hd2⟩
        obtain ⟨j, hj, rfl⟩ : ∃ j, ps[k]? = some j ∧ y = .int ((B * B + 1 + 16807 * j) % 2147483587) := by
          rw [List.getElem?_map] at hk
          cases e : ps[k]? with
          | none => rw [e] at hk; cases hk
          | some j => rw [e] at hk; exact ⟨j, rfl, by cases hk; rfl⟩
        have hk2 : k < ps.length := by
          rcases Nat.lt_or_ge k ps.length with h | h
          · exact h
          · rw [List.getElem?_eq_none h] at hj; cases hj
        walk_at "lw go"
        refine ⟨rfl, g_yes (iteT ?_)⟩
        walk_at "lw go"
        refine ⟨_, hd2, small_size (by simp; omega), same_put s2 hD2, ?_⟩
        rw [upd_same, List.take_succ, hj, List.map_append]
        have e : knotL g s i j = ((B * B + 1 + 16807 * j) % 2147483587 * ((B * B + 1 + 16807 * j) % 2147483587) + (B * B + 1 + 16807 * j) % 2147483587) % 2147483579 % 65536 := by
          rw [← eB, ← eA, knot_row_eq]
        rw [← e]
        rfl
      · rintro H'' ⟨s2, hd2⟩
        rw [List.length_map, List.take_length] at hd2
        exact q D2 H'' (by cases e : H D2 with | none => rfl | some u => rw [s1 _ _ e] at hD2; cases hD2) (s1.trans s2) (by rw [hd2, List.map_map]; rfl)
abbrev N_noise_value : List Str := ["seed", "salt", "log", "x", "z", "known", "size", "i", "j", "p", "q", "knots", "one", "two", "three", "four", "near", "far"]
theorem sc_noise_value : FnScope N_noise_value ["seed", "salt", "log", "x", "z", "known"] (defScope s_noise_value) := ⟨rfl, rfl, rfl, by decide +kernel, rfl, by decide +kernel, by decide +kernel⟩
theorem ok_noise_value (F : FnP K "noise_value" s_noise_value f fd) (T : Bi mg) (G : Kn K mg) (D_knot : Df P w K mg base "knot" ["seed", "salt", "i", "j"] 1 spKnot) (D_four_knots : Df P w K mg base "four_knots" ["seed", "salt", "i", "j"] 1 spFour) : FnOk P w K mg base CX0 2 f fd ["seed", "salt", "log", "x", "z", "known"] spNV := by
  refine F.ok sc_noise_value (fun vs H Q E h => ?_) (fun cdv A outer s H vs Q E hr h => ⟨_, PSs.nox
(pss_cons (ps_set (i := 6) sc_noise_value.nd rfl (Or.inl rfl) (pe_op op_shl pe_int (pv 2)))
  (pss_cons (ps_par (i := 7) (j := 8) rfl sc_noise_value.nd rfl rfl (by decide) rfl rfl (pa_cons (pe_op op_shrN (pv 3) (pv 2)) (pa_cons (pe_op op_shrN (pv 4) (pv 2)) pa_nil)) rfl)
  (pss_cons (ps_par (i := 9) (j := 10) rfl sc_noise_value.nd rfl rfl (by decide) rfl rfl (pa_cons (pe_op op_andM (pv 3) (pe_op op_sub (pv 6) pe_int)) (pa_cons (pe_op op_andM (pv 4) (pe_op op_sub (pv 6) pe_int)) pa_nil)) rfl)
  (pss_cons (ps_if (PW.pt (pw_and (pt_cmpR op_eq (pv 9) pe_int (nomark _)) (pw_and1 (pt_cmpR op_eq (pv 10) pe_int (nomark _)))))
  (pss_one (ps_ret (pe_df D_knot (hr.mono (by first | decide | omega)) (pa_cons (pv 0) (pa_cons (pv 1) (pa_cons (pv 7) (pa_cons (pv 8) pa_nil)))))))
  pss_nil)
  (pss_cons (ps_if (pt_cmpR op_isN (pv 5) pe_non (nomark _))
  (pss_one (ps_set (i := 11) sc_noise_value.nd rfl (Or.inl rfl) (pe_df D_four_knots (hr.mono (by first | decide | omega)) (pa_cons (pv 0) (pa_cons (pv 1) (pa_cons (pv 7) (pa_cons (pv 8) pa_nil)))))))
  pss_never)
  (pss_cons (ps_asg (pv 11) (pg_tup (by rfl) (pgs_cons (pg_name (i := 12) sc_noise_value.nd rfl (Or.inl rfl)) (pgs_cons (pg_name (i := 13) sc_noise_value.nd rfl (Or.inl rfl)) (pgs_cons (pg_name (i := 14) sc_noise_value.nd rfl (Or.inl rfl)) (pgs_cons (pg_name (i := 15) sc_noise_value.nd rfl (Or.inl rfl)) pgs_nil))))))
  (pss_cons (ps_set (i := 16) sc_noise_value.nd rfl (Or.inl rfl) (pe_op op_add (pe_op op_mul (pe_op op_sub (pv 6) (pv 9)) (pv 12)) (pe_op op_mul (pv 9) (pv 13))))
  (pss_cons (ps_set (i := 17) sc_noise_value.nd rfl (Or.inl rfl) (pe_op op_add (pe_op op_mul (pe_op op_sub (pv 6) (pv 9)) (pv 14)) (pe_op op_mul (pv 9) (pv 15))))
  (pss_one (ps_ret (pe_op op_shrN (pe_op op_add (pe_op op_mul (pe_op op_sub (pv 6) (pv 10)) (pv 16)) (pe_op op_mul (pv 10) (pv 17))) (pe_op op_add (pv 2) (pv 2))))))))))))), ?_⟩)
  · obtain ⟨g, s, l, x, z, rfl, _⟩ := h
    rfl
  · obtain ⟨g, s0, l, x, z, rfl, h0, h8, q⟩ := h
    walk_at "lw i0"
    obtain ⟨k, rfl⟩ : ∃ k : Nat, l = (k : Int) := ⟨l.toNat, by omega⟩
    obtain ⟨S, e1, e2, S0, S1, SS0, SS1⟩ := log_pow h0 h8
    have hS : (2 : Int) ^ k = S := by rw [← e2, Int.toNat_natCast]
    have p0 := Int.emod_nonneg x (show S ≠ 0 by omega)
    have p1 := Int.emod_lt_of_pos x S0
    have q0 := Int.emod_nonneg z (show S ≠ 0 by omega)
    have q1 := Int.emod_lt_of_pos z S0
    walk_at "lw go"
    refine g_I ⟨h0, by omega, by decide⟩ ?_
    rw [e1]
    walk_at "lw go"
    with_reducible refine' g_par ?_
    walk_at "lw st"
    refine ⟨x, k, rfl, rfl, ?_⟩
    walk_at "lw st"
    refine ⟨z, k, rfl, rfl, ?_⟩
    walk_at "lw st"
    refine ⟨_, _, rfl, ?_⟩
    walk_at "lw ns"
    with_reducible refine' g_seq ?_
    with_reducible refine' g_par ?_
    walk_at "lw st"
    refine ⟨x, k, rfl, by rw [hS], ?_⟩
    walk_at "lw st"
    refine ⟨z, k, rfl, by rw [hS], ?_⟩
    walk_at "lw st"
    refine ⟨_, _, rfl, ?_⟩
    walk_at "lw ns"
    rw [hS]
    obtain ⟨i, hi⟩ : ∃ i, x / S = i := ⟨_, rfl⟩
    obtain ⟨j, hj⟩ : ∃ j, z / S = j := ⟨_, rfl⟩
    obtain ⟨p, hp⟩ : ∃ p, x % S = p := ⟨_, rfl⟩
    obtain ⟨r, hr'⟩ : ∃ r, z % S = r := ⟨_, rfl⟩
    rw [hi, hj, hp, hr']
    rw [hp] at p0 p1
    rw [hr'] at q0 q1
    have fin : ∀ H', Same H H' → Q (.int (((S - r) * ((S - p) * knotL g s0 i j + p * knotL g s0 (i + 1) j) + r * ((S - p) * knotL g s0 i (j + 1) + p * knotL g s0 (i + 1) (j + 1))) / 2 ^ (k + k))) H' := fun H' s' => by
      have h := q H' s'
      rw [noise_of hS S0, hi, hj, hp, hr', ← shift_eq hS] at h
      exact h
    have atk : p = 0 → r = 0 → Q (.int (knotL g s0 i j)) H := fun e1 e2 => by
      have h := q H (Same.refl H)
      rw [noise_knot hS S0 (by rw [hp]; exact e1) (by rw [hr']; exact e2), hi, hj] at h
      exact h
    clear hi hj hp hr' q
    clear e1 e2
    walk_at "lw go"
    refine g_ite (fun h1 => ?g1) (fun h1 => ?g2)
    case' g1 => (walk_at "lw go"; refine g_ite (fun h2 => ?g3) (fun h2 => ?g4))
    case g3 => (walk_at "lw go"; exact ⟨g, s0, i, j, rfl, atk (V.int.inj h1) (V.int.inj h2)⟩)
    all_goals
      walk_at "lw go"
      refine ⟨rfl, ?_⟩
      walk_at "lw go"
      refine iteS rfl ?_
      walk_at "lw go"
      refine ⟨g, s0, i, j, rfl, fun t ht => ?_⟩
      walk_at "lw go"
      refine g_tupT (SqT.of upd_same) rfl ?_
      walk_at "lw go"
      refine ⟨_, k + k, rfl, rfl, ?_⟩
      exact fin _ (same_new ht)
abbrev N_knots_beside : List Str := ["log", "zs", "size", "places", "spots", "z", "j", "q", "low"]
theorem sc_knots_beside : FnScope N_knots_beside ["log", "zs"] (defScope s_knots_beside) := ⟨rfl, rfl, rfl, by decide +kernel, rfl, by decide +kernel, by decide +kernel⟩
theorem ok_knots_beside (F : FnP K "knots_beside" s_knots_beside f fd) (T : Bi mg) (G : Kn K mg)  : FnOk P w K mg base CX0 1 f fd ["log", "zs"] spBeside := by
  refine F.ok sc_knots_beside (fun vs H Q E h => ?_) (fun cdv A outer s H vs Q E hr h => ⟨_, PSs.nox
(pss_cons (ps_set (i := 2) sc_knots_beside.nd rfl (Or.inl rfl) (pe_op op_shl pe_int (pv 0)))
  (pss_cons (ps_set (i := 3) sc_knots_beside.nd rfl (Or.inl rfl) (pe_lst pa_nil))
  (pss_cons (ps_set (i := 4) sc_knots_beside.nd rfl (Or.inl rfl) (pe_lst pa_nil))
  (pss_cons (ps_for PassesOwn.never rfl (pi_list (pv 1)) (pg_name (i := 5) sc_knots_beside.nd rfl (Or.inl rfl))
  (pss_cons (ps_par (i := 6) (j := 7) rfl sc_knots_beside.nd rfl rfl (by decide) rfl rfl (pa_cons (pe_op op_shrN (pv 5) (pv 0)) (pa_cons (pe_op op_andM (pv 5) (pe_op op_sub (pv 2) pe_int)) pa_nil)) rfl)
  (pss_cons (ps_if (PW.pt (pw_or (pt_not (pt_truth (pv 3) (by intro _; rfl))) (pw_or1 (pt_cmpR op_lt (pe_ix ix_list (pv 3) (pe_un un_neg pe_int) (fun _ _ => rfl)) (pv 6) (nomark _)))))
  (pss_one (ps_expr (pe_bm PySem.F.plainAttrs_list PySem.F.slot_list_append PySem.F.type_list_append mt_append (pv 3) (pa_cons (pv 6) pa_nil))))
  pss_nil)
  (pss_cons (ps_set (i := 8) sc_knots_beside.nd rfl (Or.inl rfl) (pe_op op_sub (pe_op op_sub (pe_callB call_len_seq (by rfl) T.len (by decide +kernel) (pa_cons (pv 3) pa_nil)) pe_int) (pe_op op_sub (pe_ix ix_list (pv 3) (pe_un un_neg pe_int) (fun _ _ => rfl)) (pv 6))))
  (pss_cons (ps_if (PW.pt (pw_and (pt_truth (pv 7) (by intro _; rfl)) (pw_and1 (pt_cmpR op_eq (pe_ix ix_list (pv 3) (pe_un un_neg pe_int) (fun _ _ => rfl)) (pv 6) (nomark _)))))
  (pss_one (ps_expr (pe_bm PySem.F.plainAttrs_list PySem.F.slot_list_append PySem.F.type_list_append mt_append (pv 3) (pa_cons (pe_op op_add (pv 6) pe_int) pa_nil))))
  pss_nil)
  (pss_one (ps_expr (pe_bm PySem.F.plainAttrs_list PySem.F.slot_list_append PySem.F.type_list_append mt_append (pv 4) (pa_cons (pe_tup (pa_cons (pv 8) (pa_cons (pv 7) pa_nil))) pa_nil)))))))))
  (pss_one (ps_ret (pe_tup (pa_cons (pv 3) (pa_cons (pv 4) pa_nil))))))))), ?_⟩)
  · obtain ⟨n, zl, zs, rfl, _⟩ := h
    rfl
  · obtain ⟨n, zl, zs, rfl, hn, hz, hs, hzn, q⟩ := h
    walk_at "lw i0"
    obtain ⟨S, e1, e2, S0, S1, SS0, SS1⟩ := log_pow (show (0 : Int) ≤ (n : Int) by omega) (show (n : Int) ≤ 8 by omega)
    have hS : (2 : Int) ^ n = S := by rw [← e2, Int.toNat_natCast]
    rw [hS] at q
    walk_at "lw go"
    refine g_I ⟨by omega, by omega, by decide⟩ ?_
    rw [e1]
    walk_at "lw go"
    refine ⟨by show 0 ≤ sizeLine; decide, fun l3 hl3 => ?_⟩
    have s3 := same_new (o := .lst []) hl3
    walk_at "lw go"
    refine ⟨by show 0 ≤ sizeLine; decide, fun l4 hl4 => ?_⟩
    have s4 := same_new (o := .lst []) hl4
    obtain ⟨H2, eH2⟩ : ∃ X, upd (upd H l3 (.lst [])) l4 (.lst []) = X := ⟨_, rfl⟩
    have fp : H2 l3 = some (.lst []) := eH2 ▸ s4 _ _ upd_same
    have fw : H2 l4 = some (.lst []) := eH2 ▸ upd_same
    have sH : Same H H2 := eH2 ▸ s3.trans s4
    have n34 : l4 ≠ l3 := ne_of_none2 upd_same hl4
    have hl3' := hl3
    have hl4' : H l4 = none := by
      cases e : H l4 with
      | none => rfl
      | some u => rw [s3 _ _ e] at hl4; cases hl4
    rw [eH2]
    clear eH2 s3 s4
    walk_at "lw go"
    refine ⟨zl, rfl, ⟨_, SqL.of (sH _ _ hz)⟩, for_list (xs := zs.map V.int) (fun i σ H' => ∃ (ps : List Int) (ws : List V) (o5 o6 o7 o8 : Option V), σ = [some (.int n), some (.ref zl), some (.int S), some (.ref l3), some (.ref l4), o5, o6, o7, o8] ∧ Same H H' ∧ H' l3 = some (.lst (ps.map V.int)) ∧ H' l4 = some (.lst ws) ∧ SpotsK H' S (zs.take i) ps ws ∧ ps.length ≤ 2 * i ∧ TailK S zs i ps)
      ⟨[], [], _, _, _, _, rfl, sH, fp, fw, ⟨rfl, fun k z h => by simp at h⟩, Nat.le_refl _, .inl ⟨rfl, rfl⟩⟩ (fun _ σ H' _ ⟨_, _, _, _, _, _, _, s, _⟩ => SqL.of (s _ _ hz)) ?_ ?_⟩
    · rintro i y σ H3 hi ⟨ps, ws, o5, o6, o7, o8, rfl, s3, f3, f4, hK, hn2, hT⟩
      obtain ⟨z, hz2, rfl⟩ : ∃ z, zs[i]? = some z ∧ y = .int z := by
        rw [List.getElem?_map] at hi
        cases e : zs[i]? with
        | none => rw [e] at hi; cases hi
        | some j => rw [e] at hi; exact ⟨j, rfl, by cases hi; rfl⟩
      walk_at "lw go"
      with_reducible refine' g_par ?_
      walk_at "lw st"
      refine ⟨z, n, rfl, rfl, ?_⟩
      walk_at "lw st"
      refine ⟨z, n, rfl, by rw [hS], ?_⟩
      walk_at "lw st"
      refine ⟨_, _, rfl, ?_⟩
      walk_at "lw ns"
      rw [hS]
      walk_at "lw go"
      have hi2 : i < zs.length := by
        rcases Nat.lt_or_ge i zs.length with h | h
        · exact h
        · rw [List.getElem?_eq_none h] at hz2; cases hz2
      have last1 : ∀ b : List Int, (b ++ [z / S]).getD b.length 0 = z / S := fun b => by simp [List.getD]
      have len1 : ∀ b : List Int, (((b ++ [z / S]).map V.int).length : Int) - 1 - (z / S - z / S) = (b.length : Nat) := fun b => by simp
      have last2 : ∀ b : List Int, (b ++ [z / S, z / S + 1]).getD (b.length + 1) 0 = z / S + 1 := fun b => by simp [List.getD]
      have len2 : ∀ b : List Int, (((b ++ [z / S, z / S + 1]).map V.int).length : Int) - 1 - (z / S + 1 - z / S) = (b.length : Nat) := fun b => by simp; omega
      rcases hT with ⟨rfl, rfl⟩ | ⟨m, z', base, rfl, hz', hps⟩
      · refine ⟨false, .inl ⟨_, SqL.of f3, rfl⟩, ?_⟩
        dsimp only
        walk_at "lw go"
        refine ⟨tyL f3, ?_⟩
        walk_at "lw go"
        refine g_append f3 (small_size (by have := hn2; simp at this ⊢ <;> omega)) ?_
        have e1 : (([] : List Int)).map V.int ++ [V.int (z / S)] = ((([] : List Int)) ++ [z / S]).map V.int := by simp
        rw [e1]
        obtain ⟨H4, e4⟩ : ∃ X, upd H3 l3 (.lst (((([] : List Int)) ++ [z / S]).map V.int)) = X := ⟨_, rfl⟩
        have f3' : H4 l3 = some (.lst (((([] : List Int)) ++ [z / S]).map V.int)) := e4 ▸ upd_same
        have f4' : H4 l4 = some (.lst ws) := by rw [← e4, upd_ne n34]; exact f4
        have s4 : Same H H4 := e4 ▸ same_put s3 hl3
        have hK' : SpotsK H4 S (zs.take 0) ((([] : List Int)) ++ [z / S]) ws := by
          have h := (hK.more [z / S]).mono (tup_putL (o := .lst (((([] : List Int)) ++ [z / S]).map V.int)) f3)
          rw [e4] at h
          exact h
        rw [e4]
        clear e4
        walk_at "lw go"
        refine ⟨l3, _, rfl, .inl (SqL.of f3'), ?_⟩
        walk_at "lw go"
        refine g_ixL (SqL.of f3') (at_last (n := (([] : List Int)).length) (by simp)) ?_
        rw [last1]
        walk_at "lw go"
        rw [len1]
        refine ⟨z % S != 0, rfl, ?_⟩
        by_cases hq0 : z % S = 0
        · rw [show (z % S != 0) = false by simp [hq0]]
          dsimp only
          walk_at "lw go"
          refine ⟨tyL f4', ?_⟩
          walk_at "lw go"
          refine ⟨by show 2 ≤ sizeLine; decide, fun t ht => ?_⟩
          walk_at "lw go"
          refine g_append (same_new ht _ _ f4') (small_size (by have := hK.1; rw [List.length_take] at this; simp <;> omega)) ?_
          walk_at "lw go"
          exact ⟨(([] : List Int) ++ [z / S]), _, _, _, _, _, rfl, beside_fin s4 hl4' n34 f3' f4' ht hK' hz2 (.inl ⟨rfl, hq0⟩) (by have := hn2; simp at this ⊢ <;> omega)⟩
        · rw [show (z % S != 0) = true by simp [hq0]]
          dsimp only
          walk_at "lw go"
          refine g_ixL (SqL.of f3') (at_last (n := (([] : List Int)).length) (by simp)) ?_
          rw [last1]
          walk_at "lw go"
          refine iteS rfl ?_
          walk_at "lw go"
          refine ⟨tyL f3', ?_⟩
          walk_at "lw go"
          refine g_append f3' (small_size (by have := hn2; simp at this ⊢ <;> omega)) ?_
          have e2 : (([] : List Int) ++ [z / S]).map V.int ++ [V.int (z / S + 1)] = (([] : List Int) ++ [z / S, z / S + 1]).map V.int := by simp
          rw [e2]
          have f3'' : (upd H4 l3 (.lst ((([] : List Int) ++ [z / S, z / S + 1]).map V.int))) l3 = some (.lst ((([] : List Int) ++ [z / S, z / S + 1]).map V.int)) := upd_same
          have f4'' : (upd H4 l3 (.lst ((([] : List Int) ++ [z / S, z / S + 1]).map V.int))) l4 = some (.lst ws) := by rw [upd_ne n34]; exact f4'
          have hK2 : SpotsK (upd H4 l3 (.lst ((([] : List Int) ++ [z / S, z / S + 1]).map V.int))) S (zs.take 0) (([] : List Int) ++ [z / S, z / S + 1]) ws := by
            have h := (hK').more [z / S + 1]
            rw [show (([] : List Int) ++ [z / S]) ++ [z / S + 1] = (([] : List Int) ++ [z / S, z / S + 1]) by simp] at h
            exact h.mono (tup_putL f3')
          walk_at "lw go"
          refine ⟨tyL f4'', ?_⟩
          walk_at "lw go"
          refine ⟨by show 2 ≤ sizeLine; decide, fun t ht => ?_⟩
          walk_at "lw go"
          refine g_append (same_new ht _ _ f4'') (small_size (by have := hK.1; rw [List.length_take] at this; simp <;> omega)) ?_
          walk_at "lw go"
          exact ⟨(([] : List Int) ++ [z / S, z / S + 1]), _, _, _, _, _, rfl, beside_fin (same_put s4 hl3) hl4' n34 f3'' f4'' ht hK2 hz2 (.inr rfl) (by have := hn2; simp at this ⊢ <;> omega)⟩
      · have hmn : z' ≤ z := by
          have := List.pairwise_iff_getElem.mp hs m (m + 1) (by omega) hi2 (by omega)
          rw [List.getElem?_eq_getElem (by omega)] at hz' hz2
          injection hz' with e1
          injection hz2 with e2
          omega
        have hj : z' / S ≤ z / S := Int.ediv_le_ediv S0 hmn
        refine ⟨true, .inl ⟨_, SqL.of f3, by rcases hps with rfl | rfl <;> simp⟩, ?_⟩
        rcases hps with rfl | rfl
        · dsimp only
          walk_at "lw go"
          refine g_ixL (SqL.of f3) (at_last (n := base.length) (by simp)) ?_
          rw [show (base ++ [z' / S]).getD base.length 0 = z' / S by simp [List.getD]]
          walk_at "lw go"
          refine g_ite (fun c => ?_) (fun c => ?_)
          · walk_at "lw go"
            refine ⟨tyL f3, ?_⟩
            walk_at "lw go"
            refine g_append f3 (small_size (by have := hn2; simp at this ⊢ <;> omega)) ?_
            have e1 : (base ++ [z' / S]).map V.int ++ [V.int (z / S)] = ((base ++ [z' / S]) ++ [z / S]).map V.int := by simp
            rw [e1]
            obtain ⟨H4, e4⟩ : ∃ X, upd H3 l3 (.lst (((base ++ [z' / S]) ++ [z / S]).map V.int)) = X := ⟨_, rfl⟩
            have f3' : H4 l3 = some (.lst (((base ++ [z' / S]) ++ [z / S]).map V.int)) := e4 ▸ upd_same
            have f4' : H4 l4 = some (.lst ws) := by rw [← e4, upd_ne n34]; exact f4
            have s4 : Same H H4 := e4 ▸ same_put s3 hl3
            have hK' : SpotsK H4 S (zs.take (m + 1)) ((base ++ [z' / S]) ++ [z / S]) ws := by
              have h := (hK.more [z / S]).mono (tup_putL (o := .lst (((base ++ [z' / S]) ++ [z / S]).map V.int)) f3)
              rw [e4] at h
              exact h
            rw [e4]
            clear e4
            walk_at "lw go"
            refine ⟨l3, _, rfl, .inl (SqL.of f3'), ?_⟩
            walk_at "lw go"
            refine g_ixL (SqL.of f3') (at_last (n := ((base ++ [z' / S])).length) (by simp)) ?_
            rw [last1]
            walk_at "lw go"
            rw [len1]
            refine ⟨z % S != 0, rfl, ?_⟩
            by_cases hq0 : z % S = 0
            · rw [show (z % S != 0) = false by simp [hq0]]
              dsimp only
              walk_at "lw go"
              refine ⟨tyL f4', ?_⟩
              walk_at "lw go"
              refine ⟨by show 2 ≤ sizeLine; decide, fun t ht => ?_⟩
              walk_at "lw go"
              refine g_append (same_new ht _ _ f4') (small_size (by have := hK.1; rw [List.length_take] at this; simp <;> omega)) ?_
              walk_at "lw go"
              exact ⟨((base ++ [z' / S]) ++ [z / S]), _, _, _, _, _, rfl, beside_fin s4 hl4' n34 f3' f4' ht hK' hz2 (.inl ⟨rfl, hq0⟩) (by have := hn2; simp at this ⊢ <;> omega)⟩
            · rw [show (z % S != 0) = true by simp [hq0]]
              dsimp only
              walk_at "lw go"
              refine g_ixL (SqL.of f3') (at_last (n := ((base ++ [z' / S])).length) (by simp)) ?_
              rw [last1]
              walk_at "lw go"
              refine iteS rfl ?_
              walk_at "lw go"
              refine ⟨tyL f3', ?_⟩
              walk_at "lw go"
              refine g_append f3' (small_size (by have := hn2; simp at this ⊢ <;> omega)) ?_
              have e2 : ((base ++ [z' / S]) ++ [z / S]).map V.int ++ [V.int (z / S + 1)] = ((base ++ [z' / S]) ++ [z / S, z / S + 1]).map V.int := by simp
              rw [e2]
              have f3'' : (upd H4 l3 (.lst (((base ++ [z' / S]) ++ [z / S, z / S + 1]).map V.int))) l3 = some (.lst (((base ++ [z' / S]) ++ [z / S, z / S + 1]).map V.int)) := upd_same
              have f4'' : (upd H4 l3 (.lst (((base ++ [z' / S]) ++ [z / S, z / S + 1]).map V.int))) l4 = some (.lst ws) := by rw [upd_ne n34]; exact f4'
              have hK2 : SpotsK (upd H4 l3 (.lst (((base ++ [z' / S]) ++ [z / S, z / S + 1]).map V.int))) S (zs.take (m + 1)) ((base ++ [z' / S]) ++ [z / S, z / S + 1]) ws := by
                have h := (hK').more [z / S + 1]
                rw [show ((base ++ [z' / S]) ++ [z / S]) ++ [z / S + 1] = ((base ++ [z' / S]) ++ [z / S, z / S + 1]) by simp] at h
                exact h.mono (tup_putL f3')
              walk_at "lw go"
              refine ⟨tyL f4'', ?_⟩
              walk_at "lw go"
              refine ⟨by show 2 ≤ sizeLine; decide, fun t ht => ?_⟩
              walk_at "lw go"
              refine g_append (same_new ht _ _ f4'') (small_size (by have := hK.1; rw [List.length_take] at this; simp <;> omega)) ?_
              walk_at "lw go"
              exact ⟨((base ++ [z' / S]) ++ [z / S, z / S + 1]), _, _, _, _, _, rfl, beside_fin (same_put s4 hl3) hl4' n34 f3'' f4'' ht hK2 hz2 (.inr rfl) (by have := hn2; simp at this ⊢ <;> omega)⟩
          · obtain e0 : z' / S = z / S := by omega
            rw [e0] at f3 hK hn2
            have f3' := f3
            have f4' := f4
            have hK' := hK
            have s4 := s3
            walk_at "lw go"
            refine ⟨l3, _, rfl, .inl (SqL.of f3'), ?_⟩
            walk_at "lw go"
            refine g_ixL (SqL.of f3') (at_last (n := (base).length) (by simp)) ?_
            rw [last1]
            walk_at "lw go"
            rw [len1]
            refine ⟨z % S != 0, rfl, ?_⟩
            by_cases hq0 : z % S = 0
            · rw [show (z % S != 0) = false by simp [hq0]]
              dsimp only
              walk_at "lw go"
              refine ⟨tyL f4', ?_⟩
              walk_at "lw go"
              refine ⟨by show 2 ≤ sizeLine; decide, fun t ht => ?_⟩
              walk_at "lw go"
              refine g_append (same_new ht _ _ f4') (small_size (by have := hK.1; rw [List.length_take] at this; simp <;> omega)) ?_
              walk_at "lw go"
              exact ⟨(base ++ [z / S]), _, _, _, _, _, rfl, beside_fin s4 hl4' n34 f3' f4' ht hK' hz2 (.inl ⟨rfl, hq0⟩) (by have := hn2; simp at this ⊢ <;> omega)⟩
            · rw [show (z % S != 0) = true by simp [hq0]]
              dsimp only
              walk_at "lw go"
              refine g_ixL (SqL.of f3') (at_last (n := (base).length) (by simp)) ?_
              rw [last1]
              walk_at "lw go"
              refine iteS rfl ?_
              walk_at "lw go"
              refine ⟨tyL f3', ?_⟩
              walk_at "lw go"
              refine g_append f3' (small_size (by have := hn2; simp at this ⊢ <;> omega)) ?_
              have e2 : (base ++ [z / S]).map V.int ++ [V.int (z / S + 1)] = (base ++ [z / S, z / S + 1]).map V.int := by simp
              rw [e2]
              have f3'' : (upd H3 l3 (.lst ((base ++ [z / S, z / S + 1]).map V.int))) l3 = some (.lst ((base ++ [z / S, z / S + 1]).map V.int)) := upd_same
              have f4'' : (upd H3 l3 (.lst ((base ++ [z / S, z / S + 1]).map V.int))) l4 = some (.lst ws) := by rw [upd_ne n34]; exact f4'
              have hK2 : SpotsK (upd H3 l3 (.lst ((base ++ [z / S, z / S + 1]).map V.int))) S (zs.take (m + 1)) (base ++ [z / S, z / S + 1]) ws := by
                have h := (hK').more [z / S + 1]
                rw [show (base ++ [z / S]) ++ [z / S + 1] = (base ++ [z / S, z / S + 1]) by simp] at h
                exact h.mono (tup_putL f3')
              walk_at "lw go"
              refine ⟨tyL f4'', ?_⟩
              walk_at "lw go"
              refine ⟨by show 2 ≤ sizeLine; decide, fun t ht => ?_⟩
              walk_at "lw go"
              refine g_append (same_new ht _ _ f4'') (small_size (by have := hK.1; rw [List.length_take] at this; simp <;> omega)) ?_
              walk_at "lw go"
              exact ⟨(base ++ [z / S, z / S + 1]), _, _, _, _, _, rfl, beside_fin (same_put s4 hl3) hl4' n34 f3'' f4'' ht hK2 hz2 (.inr rfl) (by have := hn2; simp at this ⊢ <;> omega)⟩
        · dsimp only
          walk_at "lw go"
          refine g_ixL (SqL.of f3) (at_last (n := base.length + 1) (by simp)) ?_
          rw [show (base ++ [z' / S, z' / S + 1]).getD (base.length + 1) 0 = z' / S + 1 by simp [List.getD]]
          walk_at "lw go"
          refine g_ite (fun c => ?_) (fun c => ?_)
          · walk_at "lw go"
            refine ⟨tyL f3, ?_⟩
            walk_at "lw go"
            refine g_append f3 (small_size (by have := hn2; simp at this ⊢ <;> omega)) ?_
            have e1 : (base ++ [z' / S, z' / S + 1]).map V.int ++ [V.int (z / S)] = ((base ++ [z' / S, z' / S + 1]) ++ [z / S]).map V.int := by simp
            rw [e1]
            obtain ⟨H4, e4⟩ : ∃ X, upd H3 l3 (.lst (((base ++ [z' / S, z' / S + 1]) ++ [z / S]).map V.int)) = X := ⟨_, rfl⟩
            have f3' : H4 l3 = some (.lst (((base ++ [z' / S, z' / S + 1]) ++ [z / S]).map V.int)) := e4 ▸ upd_same
            have f4' : H4 l4 = some (.lst ws) := by rw [← e4, upd_ne n34]; exact f4
            have s4 : Same H H4 := e4 ▸ same_put s3 hl3
            have hK' : SpotsK H4 S (zs.take (m + 1)) ((base ++ [z' / S, z' / S + 1]) ++ [z / S]) ws := by
              have h := (hK.more [z / S]).mono (tup_putL (o := .lst (((base ++ [z' / S, z' / S + 1]) ++ [z / S]).map V.int)) f3)
              rw [e4] at h
              exact h
            rw [e4]
            clear e4
            walk_at "lw go"
            refine ⟨l3, _, rfl, .inl (SqL.of f3'), ?_⟩
            walk_at "lw go"
            refine g_ixL (SqL.of f3') (at_last (n := ((base ++ [z' / S, z' / S + 1])).length) (by simp)) ?_
            rw [last1]
            walk_at "lw go"
            rw [len1]
            refine ⟨z % S != 0, rfl, ?_⟩
            by_cases hq0 : z % S = 0
            · rw [show (z % S != 0) = false by simp [hq0]]
              dsimp only
              walk_at "lw go"
              refine ⟨tyL f4', ?_⟩
              walk_at "lw go"
              refine ⟨by show 2 ≤ sizeLine; decide, fun t ht => ?_⟩
              walk_at "lw go"
              refine g_append (same_new ht _ _ f4') (small_size (by have := hK.1; rw [List.length_take] at this; simp <;> omega)) ?_
              walk_at "lw go"
              exact ⟨((base ++ [z' / S, z' / S + 1]) ++ [z / S]), _, _, _, _, _, rfl, beside_fin s4 hl4' n34 f3' f4' ht hK' hz2 (.inl ⟨rfl, hq0⟩) (by have := hn2; simp at this ⊢ <;> omega)⟩
            · rw [show (z % S != 0) = true by simp [hq0]]
              dsimp only
              walk_at "lw go"
              refine g_ixL (SqL.of f3') (at_last (n := ((base ++ [z' / S, z' / S + 1])).length) (by simp)) ?_
              rw [last1]
              walk_at "lw go"
              refine iteS rfl ?_
              walk_at "lw go"
              refine ⟨tyL f3', ?_⟩
              walk_at "lw go"
              refine g_append f3' (small_size (by have := hn2; simp at this ⊢ <;> omega)) ?_
              have e2 : ((base ++ [z' / S, z' / S + 1]) ++ [z / S]).map V.int ++ [V.int (z / S + 1)] = ((base ++ [z' / S, z' / S + 1]) ++ [z / S, z / S + 1]).map V.int := by simp
              rw [e2]
              have f3'' : (upd H4 l3 (.lst (((base ++ [z' / S, z' / S + 1]) ++ [z / S, z / S + 1]).map V.int))) l3 = some (.lst (((base ++ [z' / S, z' / S + 1]) ++ [z / S, z / S + 1]).map V.int)) := upd_same
              have f4'' : (upd H4 l3 (.lst (((base ++ [z' / S, z' / S + 1]) ++ [z / S, z / S + 1]).map V.int))) l4 = some (.lst ws) := by rw [upd_ne n34]; exact f4'
              have hK2 : SpotsK (upd H4 l3 (.lst (((base ++ [z' / S, z' / S + 1]) ++ [z / S, z / S + 1]).map V.int))) S (zs.take (m + 1)) ((base ++ [z' / S, z' / S + 1]) ++ [z / S, z / S + 1]) ws := by
                have h := (hK').more [z / S + 1]
                rw [show ((base ++ [z' / S, z' / S + 1]) ++ [z / S]) ++ [z / S + 1] = ((base ++ [z' / S, z' / S + 1]) ++ [z / S, z / S + 1]) by simp] at h
                exact h.mono (tup_putL f3')
              walk_at "lw go"
              refine ⟨tyL f4'', ?_⟩
              walk_at "lw go"
              refine ⟨by show 2 ≤ sizeLine; decide, fun t ht => ?_⟩
              walk_at "lw go"
              refine g_append (same_new ht _ _ f4'') (small_size (by have := hK.1; rw [List.length_take] at this; simp <;> omega)) ?_
              walk_at "lw go"
              exact ⟨((base ++ [z' / S, z' / S + 1]) ++ [z / S, z / S + 1]), _, _, _, _, _, rfl, beside_fin (same_put s4 hl3) hl4' n34 f3'' f4'' ht hK2 hz2 (.inr rfl) (by have := hn2; simp at this ⊢ <;> omega)⟩
          · rcases (show z / S = z' / S ∨ z / S = z' / S + 1 by omega) with e0 | e0
            · rw [← e0] at f3 hK hn2
              have f3' := f3
              have hK' := hK
              walk_at "lw go"
              refine ⟨l3, _, rfl, .inl (SqL.of f3'), ?_⟩
              walk_at "lw go"
              refine g_ixL (SqL.of f3') (at_last (n := (base).length + 1) (by simp)) ?_
              rw [last2]
              walk_at "lw go"
              rw [len2]
              refine ⟨z % S != 0, rfl, ?_⟩
              by_cases hq0 : z % S = 0
              · rw [show (z % S != 0) = false by simp [hq0]]
                dsimp only
                walk_at "lw go"
                refine ⟨tyL f4, ?_⟩
                walk_at "lw go"
                refine ⟨by show 2 ≤ sizeLine; decide, fun t ht => ?_⟩
                walk_at "lw go"
                refine g_append (same_new ht _ _ f4) (small_size (by have := hK.1; rw [List.length_take] at this; simp <;> omega)) ?_
                walk_at "lw go"
                exact ⟨(base ++ [z / S, z / S + 1]), _, _, _, _, _, rfl, beside_fin s3 hl4' n34 f3' f4 ht hK' hz2 (.inr rfl) (by have := hn2; simp at this ⊢ <;> omega)⟩
              · rw [show (z % S != 0) = true by simp [hq0]]
                dsimp only
                walk_at "lw go"
                refine g_ixL (SqL.of f3') (at_last (n := (base).length + 1) (by simp)) ?_
                rw [last2]
                walk_at "lw go"
                refine iteNo (fun e => by injection e; omega) ?_
                walk_at "lw go"
                refine ⟨tyL f4, ?_⟩
                walk_at "lw go"
                refine ⟨by show 2 ≤ sizeLine; decide, fun t ht => ?_⟩
                walk_at "lw go"
                refine g_append (same_new ht _ _ f4) (small_size (by have := hK.1; rw [List.length_take] at this; simp <;> omega)) ?_
                walk_at "lw go"
                exact ⟨(base ++ [z / S, z / S + 1]), _, _, _, _, _, rfl, beside_fin s3 hl4' n34 f3' f4 ht hK' hz2 (.inr rfl) (by have := hn2; simp at this ⊢ <;> omega)⟩
            · have eL : base ++ [z' / S, z' / S + 1] = (base ++ [z' / S]) ++ [z / S] := by rw [e0]; simp
              rw [eL] at f3 hK hn2
              have f3' := f3
              have f4' := f4
              have hK' := hK
              have s4 := s3
              walk_at "lw go"
              refine ⟨l3, _, rfl, .inl (SqL.of f3'), ?_⟩
              walk_at "lw go"
              refine g_ixL (SqL.of f3') (at_last (n := ((base ++ [z' / S])).length) (by simp)) ?_
              rw [last1]
              walk_at "lw go"
              rw [len1]
              refine ⟨z % S != 0, rfl, ?_⟩
              by_cases hq0 : z % S = 0
              · rw [show (z % S != 0) = false by simp [hq0]]
                dsimp only
                walk_at "lw go"
                refine ⟨tyL f4', ?_⟩
                walk_at "lw go"
                refine ⟨by show 2 ≤ sizeLine; decide, fun t ht => ?_⟩
                walk_at "lw go"
                refine g_append (same_new ht _ _ f4') (small_size (by have := hK.1; rw [List.length_take] at this; simp <;> omega)) ?_
                walk_at "lw go"
                exact ⟨((base ++ [z' / S]) ++ [z / S]), _, _, _, _, _, rfl, beside_fin s4 hl4' n34 f3' f4' ht hK' hz2 (.inl ⟨rfl, hq0⟩) (by have := hn2; simp at this ⊢ <;> omega)⟩
              · rw [show (z % S != 0) = true by simp [hq0]]
                dsimp only
                walk_at "lw go"
                refine g_ixL (SqL.of f3') (at_last (n := ((base ++ [z' / S])).length) (by simp)) ?_
                rw [last1]
                walk_at "lw go"
                refine iteS rfl ?_
                walk_at "lw go"
                refine ⟨tyL f3', ?_⟩
                walk_at "lw go"
                refine g_append f3' (small_size (by have := hn2; simp at this ⊢ <;> omega)) ?_
                have e2 : ((base ++ [z' / S]) ++ [z / S]).map V.int ++ [V.int (z / S + 1)] = ((base ++ [z' / S]) ++ [z / S, z / S + 1]).map V.int := by simp
                rw [e2]
                have f3'' : (upd H3 l3 (.lst (((base ++ [z' / S]) ++ [z / S, z / S + 1]).map V.int))) l3 = some (.lst (((base ++ [z' / S]) ++ [z / S, z / S + 1]).map V.int)) := upd_same
                have f4'' : (upd H3 l3 (.lst (((base ++ [z' / S]) ++ [z / S, z / S + 1]).map V.int))) l4 = some (.lst ws) := by rw [upd_ne n34]; exact f4'
                have hK2 : SpotsK (upd H3 l3 (.lst (((base ++ [z' / S]) ++ [z / S, z / S + 1]).map V.int))) S (zs.take (m + 1)) ((base ++ [z' / S]) ++ [z / S, z / S + 1]) ws := by
                  have h := (hK').more [z / S + 1]
                  rw [show ((base ++ [z' / S]) ++ [z / S]) ++ [z / S + 1] = ((base ++ [z' / S]) ++ [z / S, z / S + 1]) by simp] at h
                  exact h.mono (tup_putL f3')
                walk_at "lw go"
                refine ⟨tyL f4'', ?_⟩
                walk_at "lw go"
                refine ⟨by show 2 ≤ sizeLine; decide, fun t ht => ?_⟩
                walk_at "lw go"
                refine g_append (same_new ht _ _ f4'') (small_size (by have := hK.1; rw [List.length_take] at this; simp <;> omega)) ?_
                walk_at "lw go"
                exact ⟨((base ++ [z' / S]) ++ [z / S, z / S + 1]), _, _, _, _, _, rfl, beside_fin (same_put s4 hl3) hl4' n34 f3'' f4'' ht hK2 hz2 (.inr rfl) (by have := hn2; simp at this ⊢ <;> omega)⟩
    · rintro σ H3 ⟨ps, ws, o5, o6, o7, o8, rfl, s3, f3, f4, hK, hn2, hT⟩
      walk_at "lw go"
      refine ⟨by show 2 ≤ sizeLine; decide, fun t ht => ?_⟩
      have s5 := same_new (o := .tup [.ref l3, .ref l4]) ht
      rw [List.length_map, List.take_length] at hK
      exact q l3 l4 t ps ws _ (s3.trans s5) upd_same (s5 _ _ f3) (s5 _ _ f4) (hK.mono (same_tup s5)) (by rw [List.length_map] at hn2; exact hn2)
abbrev N_noise_grid : List Str := ["seed", "salt", "log", "xs", "zs", "x", "value", "size", "twice", "places", "spots", "rows", "values", "i", "p", "near", "one", "two", "slopes", "low", "high", "starts", "at", "q"]
theorem sc_noise_grid : FnScope N_noise_grid ["seed", "salt", "log", "xs", "zs"] (defScope s_noise_grid) := ⟨rfl, rfl, rfl, by decide +kernel, rfl, by decide +kernel, by decide +kernel⟩
theorem ok_noise_grid (F : FnP K "noise_grid" s_noise_grid f fd) (T : Bi mg) (G : Kn K mg) (D_knots_beside : Df P w K mg base "knots_beside" ["log", "zs"] 1 spBeside) (D_knot_row : Df P w K mg base "knot_row" ["seed", "salt", "i", "places"] 1 spKrow) : FnOk P w K mg base CX0 2 f fd ["seed", "salt", "log", "xs", "zs"] spGrid := by
  refine F.ok sc_noise_grid (fun vs H Q E h => ?_) (fun cdv A outer s H vs Q E hr h => ⟨_, PSs.nox
(pss_cons (ps_if (pt_cmpR op_eq (pv 2) pe_int (nomark _))
  (pss_one (ps_ret (pe_lc2 (own := [("x", 5), ("value", 6)]) (vs1 := [6]) (g := gName 5) (g1 := gName 6) (tt := tYes) (tt1 := tYes) rfl sc_noise_grid.nd (pi_list (pv 3)) (blkOk_by (N := N_noise_grid) (sc := defScope s_noise_grid) (by decide +kernel)) (by decide) (fun _ _ _ _ _ => pg_name (i := 5) sc_noise_grid.nd rfl (Or.inl rfl)) (fun _ _ _ _ _ => pts_nil) (fun _ _ _ _ _ => (show PI _ _ _ (iList K _) from (pi_list (pe_df D_knot_row (hr.mono (by first | decide | omega)) (pa_cons (pv 0) (pa_cons (pv 1) (pa_cons (pv 5) (pa_cons (pv 4) pa_nil)))))))) (fun _ _ _ _ _ => pg_name (i := 6) sc_noise_grid.nd rfl (Or.inl rfl)) (fun _ _ _ _ _ => pts_nil) (fun _ _ _ _ _ => (pv 6)))))
  pss_nil)
  (pss_cons (ps_set (i := 7) sc_noise_grid.nd rfl (Or.inl rfl) (pe_op op_shl pe_int (pv 2)))
  (pss_cons (ps_set (i := 8) sc_noise_grid.nd rfl (Or.inr rfl) (pe_op op_add (pv 2) (pv 2)))
  (pss_cons (ps_asg (pe_df D_knots_beside (hr.mono (by first | decide | omega)) (pa_cons (pv 2) (pa_cons (pv 4) pa_nil))) (pg_tup (by rfl) (pgs_cons (pg_name (i := 9) sc_noise_grid.nd rfl (Or.inl rfl)) (pgs_cons (pg_name (i := 10) sc_noise_grid.nd rfl (Or.inl rfl)) pgs_nil))))
  (pss_cons (ps_set (i := 11) sc_noise_grid.nd rfl (Or.inl rfl) pe_dnewK)
  (pss_cons (ps_set (i := 12) sc_noise_grid.nd rfl (Or.inl rfl) (pe_lst pa_nil))
  (pss_cons (ps_for PassesOwn.never rfl (pi_list (pv 3)) (pg_name (i := 5) sc_noise_grid.nd rfl (Or.inl rfl))
  (pss_cons (ps_asg (pe_tup (pa_cons (pe_op op_shrN (pv 5) (pv 2)) (pa_cons (pe_op op_andM (pv 5) (pe_op op_sub (pv 7) pe_int)) pa_nil))) (pg_tup (by rfl) (pgs_cons (pg_name (i := 13) sc_noise_grid.nd rfl (Or.inl rfl)) (pgs_cons (pg_name (i := 14) sc_noise_grid.nd rfl (Or.inr rfl)) pgs_nil))))
  (pss_cons (ps_if (pt_cmp (pc_dnotin (hu_of hr) (pv 13) (pv 11)))
  (pss_one (ps_dput (hu_of hr) (pv 11) (pv 13) (pe_df D_knot_row (hr.mono (by first | decide | omega)) (pa_cons (pv 0) (pa_cons (pv 1) (pa_cons (pv 13) (pa_cons (pv 9) pa_nil))))) rfl))
  pss_nil)
  (pss_cons (ps_set (i := 15) sc_noise_grid.nd rfl (Or.inl rfl) (pe_dget (hu_of hr) (pv 11) (pv 13) (fun _ _ => rfl)))
  (pss_cons (ps_if (pt_cmpR op_eq (pv 14) pe_int (nomark _))
  (pss_one (ps_setLc (i := 15) (own := [("one", 16)]) (g := gName 16) (tt := tYes) rfl sc_noise_grid.nd rfl rfl (sw_true rfl rfl rfl (by decide +kernel)) (pi_list (pv 15)) (blkOk_by (N := N_noise_grid) (sc := defScope s_noise_grid) (by decide +kernel)) (fun _ _ _ _ _ => pg_name (i := 16) sc_noise_grid.nd rfl (Or.inl rfl)) (fun _ _ _ _ _ => pts_nil) (fun _ _ _ _ _ => (pe_op op_shl (pv 16) (pv 2)))))
  (pss_cons (ps_if (pt_cmp (pc_dnotin (hu_of hr) (pe_op op_add (pv 13) pe_int) (pv 11)))
  (pss_one (ps_dput (hu_of hr) (pv 11) (pe_op op_add (pv 13) pe_int) (pe_df D_knot_row (hr.mono (by first | decide | omega)) (pa_cons (pv 0) (pa_cons (pv 1) (pa_cons (pe_op op_add (pv 13) pe_int) (pa_cons (pv 9) pa_nil))))) rfl))
  pss_nil)
  (pss_one (ps_setLc (i := 15) (own := [("one", 16), ("two", 17)]) (g := (gTup K 2 (gCons (gName 16) (gCons (gName 17) gNil)))) (tt := tYes) rfl sc_noise_grid.nd rfl rfl (sw_true rfl rfl rfl (by decide +kernel)) (pi_zip (by rfl) T.zip (pa_cons (pv 15) (pa_cons (pe_dget (hu_of hr) (pv 11) (pe_op op_add (pv 13) pe_int) (fun _ _ => rfl)) pa_nil))) (blkOk_by (N := N_noise_grid) (sc := defScope s_noise_grid) (by decide +kernel)) (fun _ _ _ _ _ => pg_tup (by rfl) (pgs_cons (pg_name (i := 16) sc_noise_grid.nd rfl (Or.inl rfl)) (pgs_cons (pg_name (i := 17) sc_noise_grid.nd rfl (Or.inl rfl)) pgs_nil))) (fun _ _ _ _ _ => pts_nil) (fun _ _ _ _ _ => (pe_op op_add (pe_op op_shl (pv 16) (pv 2)) (pe_op op_mul (pv 14) (pe_op op_sub (pv 17) (pv 16)))))))))
  (pss_cons (ps_set (i := 18) sc_noise_grid.nd rfl (Or.inr rfl) (pe_op op_cat (pe_lc (own := [("low", 19), ("high", 20)]) (g := gTup K 2 (gCons (gName 19) (gCons (gName 20) gNil))) (tt := tYes) rfl sc_noise_grid.nd (pi_zip (by rfl) T.zip (pa_cons (pv 15) (pa_cons (pe_slice sl_list (pv 15) (po_some pe_int) po_none) pa_nil))) (blkOk_by (N := N_noise_grid) (sc := defScope s_noise_grid) (by decide +kernel)) (fun _ _ _ _ _ => pg_tup (by rfl) (pgs_cons (pg_name (i := 19) sc_noise_grid.nd rfl (Or.inl rfl)) (pgs_cons (pg_name (i := 20) sc_noise_grid.nd rfl (Or.inl rfl)) pgs_nil))) (fun _ _ _ _ _ => pts_nil) (fun _ _ _ _ _ => (pe_op op_sub (pv 20) (pv 19)))) (pe_lst (pa_cons pe_int pa_nil))))
  (pss_cons (ps_set (i := 21) sc_noise_grid.nd rfl (Or.inr rfl) (pe_lc (own := [("low", 19)]) (g := gName 19) (tt := tYes) rfl sc_noise_grid.nd (pi_list (pv 15)) (blkOk_by (N := N_noise_grid) (sc := defScope s_noise_grid) (by decide +kernel)) (fun _ _ _ _ _ => pg_name (i := 19) sc_noise_grid.nd rfl (Or.inl rfl)) (fun _ _ _ _ _ => pts_nil) (fun _ _ _ _ _ => (pe_op op_shl (pv 19) (pv 2)))))
  (pss_one (ps_aug (i := 12) sc_noise_grid.nd rfl (Or.inl rfl) (pe_lc (own := [("at", 22), ("q", 23)]) (g := gTup K 2 (gCons (gName 22) (gCons (gName 23) gNil))) (tt := tYes) rfl sc_noise_grid.nd (pi_list (pv 10)) (blkOk_by (N := N_noise_grid) (sc := defScope s_noise_grid) (by decide +kernel)) (fun _ _ _ _ _ => pg_tup (by rfl) (pgs_cons (pg_name (i := 22) sc_noise_grid.nd rfl (Or.inl rfl)) (pgs_cons (pg_name (i := 23) sc_noise_grid.nd rfl (Or.inl rfl)) pgs_nil))) (fun _ _ _ _ _ => pts_nil) (fun _ _ _ _ _ => (pe_op op_shrN (pe_op op_add (pe_ix (ix_listK (K := K)) (pv 21) (pv 22) (fun _ _ => rfl)) (pe_op op_mul (pv 23) (pe_ix (ix_listK (K := K)) (pv 18) (pv 22) (fun _ _ => rfl)))) (pv 8)))) iop_ext)))))))))
  (pss_one (ps_ret (pv 12)))))))))), ?_⟩)
  · obtain ⟨g, s, n, xl, zl, xs, zs, rfl, _⟩ := h
    rfl
  · obtain ⟨g, s, n, xl, zl, xs, zs, rfl, hn, hx, hz, hs, hxn, hzn, q⟩ := h
    walk_at "lw i0"
    walk_at "lw go"
    refine g_ite (fun h0 => ?_) (fun h0 => ?_)
    · obtain rfl : n = 0 := by first | omega | (injection h0; omega)
      walk_at "lw go"
      unfold tLc2
      walk_at "lw go"
      refine ⟨xl, rfl, ⟨_, SqL.of hx⟩, fun D hD => it_list (xs := xs.map V.int) (fun k H' => Same H H' ∧ H' D = some (.lst ((gridL g s 0 (xs.take k) zs).map V.int))) ⟨same_new hD, upd_same⟩ (fun k H' _ ⟨s1, _⟩ => SqL.of (s1 _ _ hx)) ?_ ?_⟩
      · rintro k y H' hk ⟨s1, hd⟩
        obtain ⟨x, hx2, rfl, hkl⟩ := int_at hk
        walk_at "lw go"
        refine ⟨rfl, g_yes (iteT ?_)⟩
        walk_at "lw go"
        refine ⟨g, s, x, zl, zs, rfl, s1 _ _ hz, by omega, fun l H2 hln s2 hl => ?_⟩
        have hd2 := s2 _ _ hd
        have nlD : l ≠ D := fun e => by rw [e, hd] at hln; cases hln
        refine ⟨l, rfl, ⟨_, SqL.of hl⟩, it_list (xs := (zs.map fun j => knotL g s x j).map V.int) (fun j G => Same H G ∧ G l = some (.lst ((zs.map fun j => knotL g s x j).map V.int)) ∧ G D = some (.lst ((gridL g s 0 (xs.take k) zs ++ (zs.take j).map fun z => noiseL g s 0 x z).map V.int)))
          ⟨s1.trans s2, hl, by simpa using hd2⟩ (fun j G _ ⟨_, h, _⟩ => SqL.of h) ?_ ?_⟩
        · rintro j y G hj ⟨s3, hl3, hd3⟩
          obtain ⟨v, hv, rfl, hjl⟩ := int_at hj
          rw [List.length_map] at hjl
          obtain ⟨z, hz2, rfl⟩ : ∃ z, zs[j]? = some z ∧ v = knotL g s x z := by
            rw [List.getElem?_map, List.getElem?_eq_getElem hjl] at hv
            exact ⟨_, List.getElem?_eq_getElem hjl, by cases hv; rfl⟩
          walk_at "lw go"
          refine ⟨rfl, g_yes (iteT ?_)⟩
          walk_at "lw go"
          have hlen : (gridL g s 0 (xs.take k) zs).length ≤ 40000 := by
            rw [gridL_len]
            exact Nat.mul_le_mul (show (xs.take k).length ≤ 200 by rw [List.length_take]; omega) hzn
          refine ⟨_, hd3, small_size (by rw [List.length_map, List.length_append, List.length_map, List.length_take]; omega), same_put s3 hD, by rw [upd_ne nlD]; exact hl3, ?_⟩
          rw [upd_same, take_at hz2, List.map_append, List.map_append, List.map_append, List.append_assoc]
          simp [noise_zero]
        · rintro G ⟨s3, hl3, hd3⟩
          rw [List.length_map, List.length_map, List.take_length, ← gridL_take hx2] at hd3
          exact ⟨s3, hd3⟩
      · rintro H' ⟨s1, hd⟩
        rw [List.length_map, List.take_length] at hd
        exact q D H' hD s1 hd
    · obtain ⟨S, e1, e2, S0, S1, SS0, SS1⟩ := log_pow (show (0 : Int) ≤ (n : Int) by omega) (show (n : Int) ≤ 8 by omega)
      have hS : (2 : Int) ^ n = S := by rw [← e2, Int.toNat_natCast]
      have p0 : (2 : Int) ^ ((n : Nat) : Int).toNat = S := e2
      walk_at "lw go"
      refine g_I ⟨by omega, by omega, by decide⟩ ?_
      rw [e1]
      walk_at "lw go"
      refine ⟨n, zl, zs, rfl, hn, hz, hs, hzn, fun pl sl t ps ws H1 s1 ht hpl hsl hK hpn => ?_⟩
      rw [hS] at hK
      walk_at "lw go"
      refine g_tupT (SqT.of ht) rfl ?_
      walk_at "lw go"
      refine g_dnew fun r hr => ?_
      have s2 := same_new (o := .dK []) hr
      walk_at "lw go"
      refine ⟨by show 0 ≤ sizeLine; decide, fun v hv => ?_⟩
      have s3 := same_new (o := .lst []) hv
      obtain ⟨H3, e3⟩ : ∃ X, upd (upd H1 r (.dK [])) v (.lst []) = X := ⟨_, rfl⟩
      have fr : H3 r = some (.dK []) := e3 ▸ s3 _ _ upd_same
      have fv : H3 v = some (.lst []) := e3 ▸ upd_same
      have s13 : Same H1 H3 := e3 ▸ s2.trans s3
      have hv1 : H1 v = none := by
        cases e : H1 v with
        | none => rfl
        | some u => rw [s2 _ _ e] at hv; cases hv
      have nvr : v ≠ r := ne_of_none2 upd_same hv
      rw [e3]
      clear e3 s2 s3
      walk_at "lw go"
      refine ⟨xl, rfl, ⟨_, SqL.of (s13 _ _ (s1 _ _ hx))⟩, for_list (xs := xs.map V.int) (fun k σ G => ∃ (o5 o6 o13 o14 o15 o16 o17 o18 o19 o20 o21 o22 o23 : Option V) (kvs : List (Key × V)), σ = [some (.int g), some (.int s), some (.int n), some (.ref xl), some (.ref zl), o5, o6, some (.int S), some (.int (n + n)), some (.ref pl), some (.ref sl), some (.ref r), some (.ref v), o13, o14, o15, o16, o17, o18, o19, o20, o21, o22, o23] ∧
          Same H1 G ∧ G r = some (.dK kvs) ∧ G v = some (.lst ((gridL g s n (xs.take k) zs).map V.int)) ∧ RowsOk g s ps v G kvs ∧ kvs.length ≤ 2 * k)
        ⟨_, _, _, _, _, _, _, _, _, _, _, _, _, [], rfl, s13, fr, fv, (fun i w h => by cases h), Nat.le_refl _⟩ (fun k σ G _ ⟨_, _, _, _, _, _, _, _, _, _, _, _, _, _, _, s4, _⟩ => SqL.of (s4 _ _ (s1 _ _ hx))) ?_ ?_⟩
      · rintro k y σ G hk ⟨o5, o6, o13, o14, o15, o16, o17, o18, o19, o20, o21, o22, o23, kvs, rfl, s4, fr4, fv4, hR, hkn⟩
        obtain ⟨x, hx2, rfl, hkl⟩ := int_at hk
        walk_at "lw go"
        refine ⟨x, n, rfl, rfl, ?_⟩
        walk_at "lw go"
        refine ⟨x, n, rfl, by rw [hS], ?_⟩
        rw [hS]
        walk_at "lw go"
        refine ⟨by show 2 ≤ sizeLine; decide, fun tp htp => ?_⟩
        have s5 := same_new (o := .tup [.int (x / S), .int (x % S)]) htp
        obtain ⟨G1, e5⟩ : ∃ X, upd G tp (.tup [.int (x / S), .int (x % S)]) = X := ⟨_, rfl⟩
        have ftp : G1 tp = some (.tup [.int (x / S), .int (x % S)]) := e5 ▸ upd_same
        rw [e5] at s5 ⊢
        clear e5
        have fr5 := s5 _ _ fr4
        have fv5 := s5 _ _ fv4
        have hR5 := hR.later s5
        have s15 := s4.trans s5
        clear fr4 fv4 hR s4 s5
        walk_at "lw go"
        refine g_tupT (SqT.of ftp) rfl ?_
        walk_at "lw go"
        have x0 := Int.emod_nonneg x (show S ≠ 0 by omega)
        have x1 := Int.emod_lt_of_pos x S0
        obtain ⟨I, eI⟩ : ∃ I, x / S = I := ⟨_, rfl⟩
        obtain ⟨p, ep⟩ : ∃ p, x % S = p := ⟨_, rfl⟩
        rw [eI, ep]
        rw [ep] at x0 x1
        refine g_dnotin ?_
        walk_at "lw go"
        refine ⟨r, _, rfl, DGet.k (k := Sum.inl I) fr5, ?_⟩
        walk_at "lw go"
        refine ite_keyH (fun G2 => ∃ kvs2 a, Same H1 G2 ∧ G2 r = some (.dK kvs2) ∧ G2 v = some (.lst ((gridL g s n (xs.take k) zs).map V.int)) ∧ RowsOk g s ps v G2 kvs2 ∧ kvs2.length ≤ 2 * k + 1 ∧ valV kvs2 (Sum.inl I) = some (.ref a)) ?_ (fun hb => ?_) (fun hb key => ?_)
        · rintro G2 ⟨kvs2, a, s6, fr6, fv6, hR6, hkn6, ha⟩
          obtain ⟨_, e, hav, fa⟩ := hR6 I _ ha
          cases e
          walk_at "lw go"
          refine ⟨r, _, rfl, (by have h := DGet.k (k := (Sum.inl I : Key)) fr6; rw [ha] at h; exact h), ?_⟩
          walk_at "lw go"
          refine g_ite (fun hp0 => ?_) (fun hp0 => ?_)
          · obtain rfl : p = 0 := by first | omega | (injection hp0)
            walk_at "lw go"
            refine ⟨a, rfl, ⟨_, SqL.of fa⟩, fun D hD => lc_list (xs := (ps.map fun j => knotL g s I j).map V.int) (fun j G => Same G2 G ∧ G D = some (.lst (((ps.take j).map fun j => nearV g s I 0 S j).map V.int))) ⟨same_new hD, upd_same⟩ (fun j G _ ⟨s7, _⟩ => SqL.of (s7 _ _ fa)) ?_ ?_⟩
            · rintro j y G3 hj ⟨s7, hd⟩
              obtain ⟨u, hu, rfl, hjl⟩ := int_at hj
              rw [List.length_map] at hjl
              obtain ⟨c, hc, rfl⟩ : ∃ c, ps[j]? = some c ∧ u = knotL g s I c := by
                rw [List.getElem?_map, List.getElem?_eq_getElem hjl] at hu
                exact ⟨_, List.getElem?_eq_getElem hjl, by cases hu; rfl⟩
              walk_at "lw go"
              refine ⟨rfl, g_yes (iteT ?_)⟩
              walk_at "lw st"
              have kn := knot_in g s I c
              refine g_I ⟨by omega, by omega, by omega⟩ ?_
              rw [p0]
              refine ⟨_, hd, small_size (by simp; omega), same_put s7 hD, ?_⟩
              rw [upd_same, take_at hc, List.map_append, List.map_append]
              simp [nearV]
            · rintro G3 ⟨s7, hd⟩
              rw [List.length_map, List.length_map, List.take_length] at hd
              have sX : Same H1 G3 := s6.trans s7
              have frX := s7 _ _ fr6
              have fvX := s7 _ _ fv6
              have hRX := hR6.later s7
              have hkX : kvs2.length ≤ 2 * (k + 1) := by omega
              walk_at "lw go"
              refine g_izip ?_
              walk_at "lw go"
              refine g_slL (SqL.of hd) fun c hc => ?_
              rw [cut_one]
              obtain ⟨G5, e5⟩ : ∃ X, upd G3 c (.lst (((ps.map fun j => nearV g s I 0 S j).map V.int).drop 1)) = X := ⟨_, rfl⟩
              have s11 : Same G3 G5 := e5 ▸ same_new hc
              have fc : G5 c = some (.lst (((ps.map fun j => nearV g s I 0 S j).map V.int).drop 1)) := e5 ▸ upd_same
              rw [e5]
              clear e5
              walk_at "lw go"
              refine ⟨D, c, _, _, rfl, SqL.of (s11 _ _ hd), SqL.of fc, fun D2 hD2 => it_zip (n := ps.length - 1) (by simp) (fun j G => Same G5 G ∧ G D2 = some (.lst (((List.range j).map fun t => nearV g s I 0 S (ps.getD (t + 1) 0) - nearV g s I 0 S (ps.getD t 0)).map V.int))) ⟨same_new hD2, upd_same⟩ (fun j G ⟨s12, _⟩ => ⟨SqL.of (s12 _ _ (s11 _ _ hd)), SqL.of (s12 _ _ fc)⟩) ?_ ?_⟩
              · rintro j y1 y2 T G6 h1 h2 ⟨s12, hd2⟩ hT
                rw [List.getElem?_drop] at h2
                obtain ⟨u1, hu1, rfl, hj1⟩ := int_at h1
                obtain ⟨u2, hu2, rfl, hj2⟩ := int_at h2
                rw [List.length_map] at hj1 hj2
                obtain ⟨c1, hc1, rfl⟩ : ∃ c1, ps[j]? = some c1 ∧ u1 = nearV g s I 0 S c1 := by
                  rw [List.getElem?_map, List.getElem?_eq_getElem hj1] at hu1
                  exact ⟨_, List.getElem?_eq_getElem hj1, by cases hu1; rfl⟩
                obtain ⟨c2, hc2, rfl⟩ : ∃ c2, ps[1 + j]? = some c2 ∧ u2 = nearV g s I 0 S c2 := by
                  rw [List.getElem?_map, List.getElem?_eq_getElem hj2] at hu2
                  exact ⟨_, List.getElem?_eq_getElem hj2, by cases hu2; rfl⟩
                have s13' := same_new (o := .tup [.int (nearV g s I 0 S c1), .int (nearV g s I 0 S c2)]) hT
                walk_at "lw go"
                refine g_tupT (SqT.of upd_same) rfl ?_
                walk_at "lw go"
                refine ⟨rfl, g_yes (iteT ?_)⟩
                walk_at "lw go"
                refine ⟨_, s13' _ _ hd2, small_size (by simp; omega), same_put (s12.trans s13') hD2, ?_⟩
                rw [upd_same, List.range_succ, List.map_append, List.map_append]
                rw [Nat.add_comm 1 j] at hc2
                simp [List.getD, hc1, hc2]
              · rintro G6 ⟨s12, hd2⟩
                walk_at "lw go"
                refine ⟨by show 1 ≤ sizeLine; decide, fun l1 hl1 => ?_⟩
                have s14 := same_new (o := .lst [.int 0]) hl1
                refine g_cat (s14 _ _ hd2) upd_same (small_size (by simp; omega)) fun l2 hl2 => ?_
                have s15' := same_new (o := .lst (((List.range (ps.length - 1)).map fun t => nearV g s I 0 S (ps.getD (t + 1) 0) - nearV g s I 0 S (ps.getD t 0)).map V.int ++ [.int 0])) hl2
                obtain ⟨G7, e7⟩ : ∃ X, upd (upd G6 l1 (.lst [.int 0])) l2 (.lst (((List.range (ps.length - 1)).map fun t => nearV g s I 0 S (ps.getD (t + 1) 0) - nearV g s I 0 S (ps.getD t 0)).map V.int ++ [.int 0])) = X := ⟨_, rfl⟩
                have fs : G7 l2 = some (.lst (((List.range (ps.length - 1)).map fun t => nearV g s I 0 S (ps.getD (t + 1) 0) - nearV g s I 0 S (ps.getD t 0)).map V.int ++ [.int 0])) := e7 ▸ upd_same
                have sZ : Same G3 G7 := e7 ▸ ((s11.trans s12).trans s14).trans s15'
                rw [e7]
                clear e7 s14 s15'
                walk_at "lw go"
                refine ⟨D, rfl, ⟨_, SqL.of (sZ _ _ hd)⟩, fun D3 hD3 => lc_list (xs := (ps.map fun j => nearV g s I 0 S j).map V.int) (fun j G => Same G7 G ∧ G D3 = some (.lst (((ps.take j).map fun j => nearV g s I 0 S j * S).map V.int))) ⟨same_new hD3, upd_same⟩ (fun j G _ ⟨s16, _⟩ => SqL.of (s16 _ _ (sZ _ _ hd))) ?_ ?_⟩
                · rintro j y G8 hj ⟨s16, hd3⟩
                  obtain ⟨u, hu, rfl, hjl⟩ := int_at hj
                  rw [List.length_map] at hjl
                  obtain ⟨c1, hc1, rfl⟩ : ∃ c1, ps[j]? = some c1 ∧ u = nearV g s I 0 S c1 := by
                    rw [List.getElem?_map, List.getElem?_eq_getElem hjl] at hu
                    exact ⟨_, List.getElem?_eq_getElem hjl, by cases hu; rfl⟩
                  walk_at "lw go"
                  refine ⟨rfl, g_yes (iteT ?_)⟩
                  walk_at "lw st"
                  refine g_I ⟨by omega, by omega, nearV_small S0 S1 x0 x1⟩ ?_
                  rw [p0]
                  refine ⟨_, hd3, small_size (by simp; omega), same_put s16 hD3, ?_⟩
                  rw [upd_same, take_at hc1, List.map_append, List.map_append]
                  rfl
                · rintro G8 ⟨s16, hd3⟩
                  rw [List.length_map, List.length_map, List.take_length] at hd3
                  walk_at "lw go"
                  have fs2 : G8 l2 = some (.lst ((((List.range (ps.length - 1)).map fun t => nearV g s I 0 S (ps.getD (t + 1) 0) - nearV g s I 0 S (ps.getD t 0)) ++ [0]).map V.int)) := by rw [List.map_append]; exact s16 _ _ fs
                  refine ⟨_, rfl, ?_⟩
                  walk_at "lw go"
                  have sW : Same H1 G8 := (sX.trans sZ).trans s16
                  refine ⟨sl, rfl, ⟨_, SqL.of (sW _ _ hsl)⟩, fun D4 hD4 => lc_list (xs := ws) (fun j G => Same G8 G ∧ G D4 = some (.lst (((zs.take j).map fun z => noiseL g s n x z).map V.int))) ⟨same_new hD4, upd_same⟩ (fun j G _ ⟨s17, _⟩ => SqL.of (s17 _ _ (sW _ _ hsl))) ?_ ?_⟩
                  · rintro j y G9 hj ⟨s17, hd4⟩
                    have hjz : j < zs.length := by
                      rw [← hK.1]
                      rcases Nat.lt_or_ge j ws.length with h | h
                      · exact h
                      · rw [List.getElem?_eq_none h] at hj; cases hj
                    obtain ⟨z, hz2⟩ : ∃ z, zs[j]? = some z := ⟨_, List.getElem?_eq_getElem hjz⟩
                    obtain ⟨tw, lo, ew, htw, hlo, hlo1⟩ := hK.2 j z hz2
                    obtain rfl : V.ref tw = y := by rw [ew] at hj; exact Option.some.inj hj
                    have hll : lo < ps.length := by
                      rcases Nat.lt_or_ge lo ps.length with h | h
                      · exact h
                      · rw [List.getElem?_eq_none h] at hlo; cases hlo
                    have z0 := Int.emod_nonneg z (show S ≠ 0 by omega)
                    have z1 := Int.emod_lt_of_pos z S0
                    have gv := grid_val (g := g) (s := s) (x := x) (z := z) hS S0
                    rw [eI, ep] at gv
                    have st1 : ((ps.map fun j => nearV g s I 0 S j * S)).getD lo 0 = nearV g s I 0 S (z / S) * S := by simp [List.getD, hlo]
                    have sl1 : z % S * (((List.range (ps.length - 1)).map fun t => nearV g s I 0 S (ps.getD (t + 1) 0) - nearV g s I 0 S (ps.getD t 0)) ++ [0]).getD lo 0 = z % S * (nearV g s I 0 S (z / S + 1) - nearV g s I 0 S (z / S)) := by
                      by_cases hq : z % S = 0
                      · rw [hq, Int.zero_mul, Int.zero_mul]
                      · have h1 := hlo1 hq
                        have hl1 : lo + 1 < ps.length := by
                          rcases Nat.lt_or_ge (lo + 1) ps.length with h | h
                          · exact h
                          · rw [List.getElem?_eq_none h] at h1; cases h1
                        congr 1
                        simp [List.getD, List.getElem?_append, hlo, h1, show lo < ps.length - 1 by omega]
                    walk_at "lw go"
                    refine g_tupT (SqT.of (s17 _ _ (sW _ _ htw))) rfl ?_
                    walk_at "lw go"
                    refine ⟨rfl, g_yes (iteT ?_)⟩
                    walk_at "lw go"
                    refine g_ixL (SqL.of (s17 _ _ hd3)) (at_ints (by rw [List.length_map]; exact hll)) ?_
                    rw [st1]
                    walk_at "lw go"
                    refine g_ixL (SqL.of (s17 _ _ fs2)) (at_ints (by simp; omega)) ?_
                    obtain ⟨q', eq'⟩ : ∃ q', z % S = q' := ⟨_, rfl⟩
                    rw [eq'] at z0 z1 sl1 gv ⊢
                    walk_at "lw go"
                    rw [sl1]
                    refine ⟨_, n + n, rfl, rfl, ?_⟩
                    rw [gv]
                    refine ⟨_, hd4, small_size (by simp; omega), same_put s17 hD4, ?_⟩
                    rw [upd_same, take_at hz2, List.map_append, List.map_append]
                    rfl
                  · rintro G9 ⟨s17, hd4⟩
                    rw [hK.1, List.take_length] at hd4
                    have hlen : (gridL g s n (xs.take k) zs).length ≤ 40000 := by
                      rw [gridL_len]
                      exact Nat.mul_le_mul (show (xs.take k).length ≤ 200 by rw [List.length_take]; omega) hzn
                    have sV : Same G3 G9 := (sZ.trans s16).trans s17
                    refine ⟨v, D4, _, _, rfl, rfl, sV _ _ fvX, hd4, Nat.le_of_lt (small_size (by simp; omega)), ?_⟩
                    refine ⟨_, _, _, _, _, _, _, _, _, _, _, _, _, kvs2, rfl, same_put (sX.trans sV) hv1, by rw [upd_ne nvr.symm]; exact sV _ _ frX, ?_, (hRX.later sV).vset, hkX⟩
                    rw [upd_same, gridL_take hx2, List.map_append]
          · have hp1 : p ≠ 0 := by first | omega | (intro e; exact hp0 (by rw [e]))
            walk_at "lw go"
            refine g_dnotin ?_
            walk_at "lw go"
            refine ⟨r, _, rfl, DGet.k (k := Sum.inl (I + 1)) fr6, ?_⟩
            walk_at "lw go"
            refine ite_keyH (fun G4 => ∃ kvs4 b, Same H1 G4 ∧ G4 r = some (.dK kvs4) ∧ G4 v = some (.lst ((gridL g s n (xs.take k) zs).map V.int)) ∧ RowsOk g s ps v G4 kvs4 ∧ kvs4.length ≤ 2 * k + 2 ∧ valV kvs4 (Sum.inl (I + 1)) = some (.ref b) ∧ G4 a = some (.lst ((ps.map fun j => knotL g s I j).map V.int))) ?_ (fun hb => ?_) (fun hb key => ?_)
            · rintro G4 ⟨kvs4, b, s8, fr8, fv8, hR8, hkn8, hb8, fa8⟩
              obtain ⟨_, e, hbv, fb⟩ := hR8 (I + 1) _ hb8
              cases e
              walk_at "lw go"
              refine g_izip ?_
              walk_at "lw go"
              refine ⟨r, _, rfl, (by have h := DGet.k (k := (Sum.inl (I + 1) : Key)) fr8; rw [hb8] at h; exact h), ?_⟩
              walk_at "lw go"
              refine ⟨a, b, _, _, rfl, SqL.of fa8, SqL.of fb, fun D hD => it_zip (n := ps.length) (by simp) (fun j G => Same G4 G ∧ G D = some (.lst (((ps.take j).map fun j => nearV g s I p S j).map V.int))) ⟨same_new hD, upd_same⟩ (fun j G ⟨s9, _⟩ => ⟨SqL.of (s9 _ _ fa8), SqL.of (s9 _ _ fb)⟩) ?_ ?_⟩
              · rintro j y1 y2 T G5 h1 h2 ⟨s9, hd⟩ hT
                obtain ⟨u1, hu1, rfl, hjl⟩ := int_at h1
                obtain ⟨u2, hu2, rfl, _⟩ := int_at h2
                rw [List.length_map] at hjl
                obtain ⟨c, hc, rfl, rfl⟩ : ∃ c, ps[j]? = some c ∧ u1 = knotL g s I c ∧ u2 = knotL g s (I + 1) c := by
                  rw [List.getElem?_map, List.getElem?_eq_getElem hjl] at hu1 hu2
                  exact ⟨_, List.getElem?_eq_getElem hjl, by cases hu1; rfl, by cases hu2; rfl⟩
                have s10 := same_new (o := .tup [.int (knotL g s I c), .int (knotL g s (I + 1) c)]) hT
                have hDT : D ≠ T := fun e => by rw [← e, hd] at hT; cases hT
                walk_at "lw go"
                refine g_tupT (SqT.of upd_same) rfl ?_
                walk_at "lw go"
                refine ⟨rfl, g_yes (iteT ?_)⟩
                walk_at "lw st"
                have kn := knot_in g s I c
                refine g_I ⟨by omega, by omega, by omega⟩ ?_
                rw [p0]
                walk_at "lw go"
                refine ⟨_, s10 _ _ hd, small_size (by simp; omega), same_put (s9.trans s10) hD, ?_⟩
                rw [upd_same, take_at hc, List.map_append, List.map_append]
                simp [nearV]
              · rintro G3 ⟨s9, hd⟩
                rw [List.take_length] at hd
                have sX : Same H1 G3 := s8.trans s9
                have frX := s9 _ _ fr8
                have fvX := s9 _ _ fv8
                have hRX := hR8.later s9
                have hkX : kvs4.length ≤ 2 * (k + 1) := by omega
                walk_at "lw go"
                refine g_izip ?_
                walk_at "lw go"
                refine g_slL (SqL.of hd) fun c hc => ?_
                rw [cut_one]
                obtain ⟨G5, e5⟩ : ∃ X, upd G3 c (.lst (((ps.map fun j => nearV g s I p S j).map V.int).drop 1)) = X := ⟨_, rfl⟩
                have s11 : Same G3 G5 := e5 ▸ same_new hc
                have fc : G5 c = some (.lst (((ps.map fun j => nearV g s I p S j).map V.int).drop 1)) := e5 ▸ upd_same
                rw [e5]
                clear e5
                walk_at "lw go"
                refine ⟨D, c, _, _, rfl, SqL.of (s11 _ _ hd), SqL.of fc, fun D2 hD2 => it_zip (n := ps.length - 1) (by simp) (fun j G => Same G5 G ∧ G D2 = some (.lst (((List.range j).map fun t => nearV g s I p S (ps.getD (t + 1) 0) - nearV g s I p S (ps.getD t 0)).map V.int))) ⟨same_new hD2, upd_same⟩ (fun j G ⟨s12, _⟩ => ⟨SqL.of (s12 _ _ (s11 _ _ hd)), SqL.of (s12 _ _ fc)⟩) ?_ ?_⟩
                · rintro j y1 y2 T G6 h1 h2 ⟨s12, hd2⟩ hT
                  rw [List.getElem?_drop] at h2
                  obtain ⟨u1, hu1, rfl, hj1⟩ := int_at h1
                  obtain ⟨u2, hu2, rfl, hj2⟩ := int_at h2
                  rw [List.length_map] at hj1 hj2
                  obtain ⟨c1, hc1, rfl⟩ : ∃ c1, ps[j]? = some c1 ∧ u1 = nearV g s I p S c1 := by
                    rw [List.getElem?_map, List.getElem?_eq_getElem hj1] at hu1
                    exact ⟨_, List.getElem?_eq_getElem hj1, by cases hu1; rfl⟩
                  obtain ⟨c2, hc2, rfl⟩ : ∃ c2, ps[1 + j]? = some c2 ∧ u2 = nearV g s I p S c2 := by
                    rw [List.getElem?_map, List.getElem?_eq_getElem hj2] at hu2
                    exact ⟨_, List.getElem?_eq_getElem hj2, by cases hu2; rfl⟩
                  have s13' := same_new (o := .tup [.int (nearV g s I p S c1), .int (nearV g s I p S c2)]) hT
                  walk_at "lw go"
                  refine g_tupT (SqT.of upd_same) rfl ?_
                  walk_at "lw go"
                  refine ⟨rfl, g_yes (iteT ?_)⟩
                  walk_at "lw go"
                  refine ⟨_, s13' _ _ hd2, small_size (by simp; omega), same_put (s12.trans s13') hD2, ?_⟩
                  rw [upd_same, List.range_succ, List.map_append, List.map_append]
                  rw [Nat.add_comm 1 j] at hc2
                  simp [List.getD, hc1, hc2]
                · rintro G6 ⟨s12, hd2⟩
                  walk_at "lw go"
                  refine ⟨by show 1 ≤ sizeLine; decide, fun l1 hl1 => ?_⟩
                  have s14 := same_new (o := .lst [.int 0]) hl1
                  refine g_cat (s14 _ _ hd2) upd_same (small_size (by simp; omega)) fun l2 hl2 => ?_
                  have s15' := same_new (o := .lst (((List.range (ps.length - 1)).map fun t => nearV g s I p S (ps.getD (t + 1) 0) - nearV g s I p S (ps.getD t 0)).map V.int ++ [.int 0])) hl2
                  obtain ⟨G7, e7⟩ : ∃ X, upd (upd G6 l1 (.lst [.int 0])) l2 (.lst (((List.range (ps.length - 1)).map fun t => nearV g s I p S (ps.getD (t + 1) 0) - nearV g s I p S (ps.getD t 0)).map V.int ++ [.int 0])) = X := ⟨_, rfl⟩
                  have fs : G7 l2 = some (.lst (((List.range (ps.length - 1)).map fun t => nearV g s I p S (ps.getD (t + 1) 0) - nearV g s I p S (ps.getD t 0)).map V.int ++ [.int 0])) := e7 ▸ upd_same
                  have sZ : Same G3 G7 := e7 ▸ ((s11.trans s12).trans s14).trans s15'
                  rw [e7]
                  clear e7 s14 s15'
                  walk_at "lw go"
                  refine ⟨D, rfl, ⟨_, SqL.of (sZ _ _ hd)⟩, fun D3 hD3 => lc_list (xs := (ps.map fun j => nearV g s I p S j).map V.int) (fun j G => Same G7 G ∧ G D3 = some (.lst (((ps.take j).map fun j => nearV g s I p S j * S).map V.int))) ⟨same_new hD3, upd_same⟩ (fun j G _ ⟨s16, _⟩ => SqL.of (s16 _ _ (sZ _ _ hd))) ?_ ?_⟩
                  · rintro j y G8 hj ⟨s16, hd3⟩
                    obtain ⟨u, hu, rfl, hjl⟩ := int_at hj
                    rw [List.length_map] at hjl
                    obtain ⟨c1, hc1, rfl⟩ : ∃ c1, ps[j]? = some c1 ∧ u = nearV g s I p S c1 := by
                      rw [List.getElem?_map, List.getElem?_eq_getElem hjl] at hu
                      exact ⟨_, List.getElem?_eq_getElem hjl, by cases hu; rfl⟩
                    walk_at "lw go"
                    refine ⟨rfl, g_yes (iteT ?_)⟩
                    walk_at "lw st"
                    refine g_I ⟨by omega, by omega, nearV_small S0 S1 x0 x1⟩ ?_
                    rw [p0]
                    refine ⟨_, hd3, small_size (by simp; omega), same_put s16 hD3, ?_⟩
                    rw [upd_same, take_at hc1, List.map_append, List.map_append]
                    rfl
                  · rintro G8 ⟨s16, hd3⟩
                    rw [List.length_map, List.length_map, List.take_length] at hd3
                    walk_at "lw go"
                    have fs2 : G8 l2 = some (.lst ((((List.range (ps.length - 1)).map fun t => nearV g s I p S (ps.getD (t + 1) 0) - nearV g s I p S (ps.getD t 0)) ++ [0]).map V.int)) := by rw [List.map_append]; exact s16 _ _ fs
                    refine ⟨_, rfl, ?_⟩
                    walk_at "lw go"
                    have sW : Same H1 G8 := (sX.trans sZ).trans s16
                    refine ⟨sl, rfl, ⟨_, SqL.of (sW _ _ hsl)⟩, fun D4 hD4 => lc_list (xs := ws) (fun j G => Same G8 G ∧ G D4 = some (.lst (((zs.take j).map fun z => noiseL g s n x z).map V.int))) ⟨same_new hD4, upd_same⟩ (fun j G _ ⟨s17, _⟩ => SqL.of (s17 _ _ (sW _ _ hsl))) ?_ ?_⟩
                    · rintro j y G9 hj ⟨s17, hd4⟩
                      have hjz : j < zs.length := by
                        rw [← hK.1]
                        rcases Nat.lt_or_ge j ws.length with h | h
                        · exact h
                        · rw [List.getElem?_eq_none h] at hj; cases hj
                      obtain ⟨z, hz2⟩ : ∃ z, zs[j]? = some z := ⟨_, List.getElem?_eq_getElem hjz⟩
                      obtain ⟨tw, lo, ew, htw, hlo, hlo1⟩ := hK.2 j z hz2
                      obtain rfl : V.ref tw = y := by rw [ew] at hj; exact Option.some.inj hj
                      have hll : lo < ps.length := by
                        rcases Nat.lt_or_ge lo ps.length with h | h
                        · exact h
                        · rw [List.getElem?_eq_none h] at hlo; cases hlo
                      have z0 := Int.emod_nonneg z (show S ≠ 0 by omega)
                      have z1 := Int.emod_lt_of_pos z S0
                      have gv := grid_val (g := g) (s := s) (x := x) (z := z) hS S0
                      rw [eI, ep] at gv
                      have st1 : ((ps.map fun j => nearV g s I p S j * S)).getD lo 0 = nearV g s I p S (z / S) * S := by simp [List.getD, hlo]
                      have sl1 : z % S * (((List.range (ps.length - 1)).map fun t => nearV g s I p S (ps.getD (t + 1) 0) - nearV g s I p S (ps.getD t 0)) ++ [0]).getD lo 0 = z % S * (nearV g s I p S (z / S + 1) - nearV g s I p S (z / S)) := by
                        by_cases hq : z % S = 0
                        · rw [hq, Int.zero_mul, Int.zero_mul]
                        · have h1 := hlo1 hq
                          have hl1 : lo + 1 < ps.length := by
                            rcases Nat.lt_or_ge (lo + 1) ps.length with h | h
                            · exact h
                            · rw [List.getElem?_eq_none h] at h1; cases h1
                          congr 1
                          simp [List.getD, List.getElem?_append, hlo, h1, show lo < ps.length - 1 by omega]
                      walk_at "lw go"
                      refine g_tupT (SqT.of (s17 _ _ (sW _ _ htw))) rfl ?_
                      walk_at "lw go"
                      refine ⟨rfl, g_yes (iteT ?_)⟩
                      walk_at "lw go"
                      refine g_ixL (SqL.of (s17 _ _ hd3)) (at_ints (by rw [List.length_map]; exact hll)) ?_
                      rw [st1]
                      walk_at "lw go"
                      refine g_ixL (SqL.of (s17 _ _ fs2)) (at_ints (by simp; omega)) ?_
                      obtain ⟨q', eq'⟩ : ∃ q', z % S = q' := ⟨_, rfl⟩
                      rw [eq'] at z0 z1 sl1 gv ⊢
                      walk_at "lw go"
                      rw [sl1]
                      refine ⟨_, n + n, rfl, rfl, ?_⟩
                      rw [gv]
                      refine ⟨_, hd4, small_size (by simp; omega), same_put s17 hD4, ?_⟩
                      rw [upd_same, take_at hz2, List.map_append, List.map_append]
                      rfl
                    · rintro G9 ⟨s17, hd4⟩
                      rw [hK.1, List.take_length] at hd4
                      have hlen : (gridL g s n (xs.take k) zs).length ≤ 40000 := by
                        rw [gridL_len]
                        exact Nat.mul_le_mul (show (xs.take k).length ≤ 200 by rw [List.length_take]; omega) hzn
                      have sV : Same G3 G9 := (sZ.trans s16).trans s17
                      refine ⟨v, D4, _, _, rfl, rfl, sV _ _ fvX, hd4, Nat.le_of_lt (small_size (by simp; omega)), ?_⟩
                      refine ⟨_, _, _, _, _, _, _, _, _, _, _, _, _, kvs4, rfl, same_put (sX.trans sV) hv1, by rw [upd_ne nvr.symm]; exact sV _ _ frX, ?_, (hRX.later sV).vset, hkX⟩
                      rw [upd_same, gridL_take hx2, List.map_append]
            · obtain ⟨w, ew⟩ : ∃ w, valV kvs2 (Sum.inl (I + 1)) = some w := by
                cases e : valV kvs2 (Sum.inl (I + 1)) with
                | none => rw [e] at hb; cases hb
                | some w => exact ⟨w, rfl⟩
              obtain ⟨b, rfl, _, _⟩ := hR6 (I + 1) w ew
              exact ⟨kvs2, b, s6, fr6, fv6, hR6, by omega, ew, fa⟩
            · walk_at "lw go"
              refine ⟨g, s, I + 1, pl, ps, rfl, s6 _ _ hpl, by omega, fun l G4 hln s8 fl => ?_⟩
              walk_at "lw go"
              refine ⟨r, _, rfl, DPut.k (k := Sum.inl (I + 1)) (s8 _ _ fr6) (small_size (by omega)), ?_⟩
              have hlv : l ≠ v := fun e => by rw [e, fv6] at hln; cases hln
              have := length_putK kvs2 (Sum.inl (I + 1) : Key) (V.ref l)
              exact key _ ⟨putK kvs2 (Sum.inl (I + 1)) (.ref l), l, same_put (s6.trans s8) hr, upd_same, by rw [upd_ne nvr]; exact s8 _ _ fv6, (hR6.later s8).put fl hlv (s8 _ _ fr6), by omega, by rw [valV_put, if_pos rfl],
                by rw [upd_ne (fun c => by rw [c, fr6] at fa; cases fa)]; exact s8 _ _ fa⟩
        · obtain ⟨w, ew⟩ : ∃ w, valV kvs (Sum.inl I) = some w := by
            cases e : valV kvs (Sum.inl I) with
            | none => rw [e] at hb; cases hb
            | some w => exact ⟨w, rfl⟩
          obtain ⟨a, rfl, _, _⟩ := hR5 I w ew
          exact ⟨kvs, a, s15, fr5, fv5, hR5, by omega, ew⟩
        · walk_at "lw go"
          refine ⟨g, s, I, pl, ps, rfl, s15 _ _ hpl, by omega, fun l G2 hln s6 fl => ?_⟩
          walk_at "lw go"
          refine ⟨r, _, rfl, DPut.k (k := Sum.inl I) (s6 _ _ fr5) (small_size (by omega)), ?_⟩
          have hlv : l ≠ v := fun e => by rw [e, fv5] at hln; cases hln
          have := length_putK kvs (Sum.inl I : Key) (V.ref l)
          exact key _ ⟨putK kvs (Sum.inl I) (.ref l), l, same_put (s15.trans s6) hr, upd_same, by rw [upd_ne nvr]; exact s6 _ _ fv5, (hR5.later s6).put fl hlv (s6 _ _ fr5), by omega, by rw [valV_put, if_pos rfl]⟩
      · rintro σ G ⟨o5, o6, o13, o14, o15, o16, o17, o18, o19, o20, o21, o22, o23, kvs, rfl, s4, fr4, fv4, hR, hkn⟩
        walk_at "lw go"
        rw [List.length_map, List.take_length] at fv4
        exact q v G (by cases e : H v with | none => rfl | some u => rw [s1 _ _ e] at hv1; cases hv1) (s1.trans s4) fv4
abbrev N_corner_values : List Str := ["seed", "salt", "log", "box", "size", "x0", "z0", "x1", "z1", "one", "two", "three", "four", "q0", "q1", "values", "p", "near", "slope"]
theorem sc_corner_values : FnScope N_corner_values ["seed", "salt", "log", "box"] (defScope s_corner_values) := ⟨rfl, rfl, rfl, by decide +kernel, rfl, by decide +kernel, by decide +kernel⟩
theorem ok_corner_values (F : FnP K "corner_values" s_corner_values f fd) (T : Bi mg) (G : Kn K mg) (D_four_knots : Df P w K mg base "four_knots" ["seed", "salt", "i", "j"] 1 spFour) : FnOk P w K mg base CX0 2 f fd ["seed", "salt", "log", "box"] spCorner := by
  refine F.ok sc_corner_values (fun vs H Q E h => ?_) (fun cdv A outer s H vs Q E hr h => ⟨_, PSs.nox
(pss_cons (ps_set (i := 4) sc_corner_values.nd rfl (Or.inl rfl) (pe_op op_shl pe_int (pv 2)))
  (pss_cons (ps_asg (pv 3) (pg_tup (by rfl) (pgs_cons (pg_name (i := 5) sc_corner_values.nd rfl (Or.inl rfl)) (pgs_cons (pg_name (i := 6) sc_corner_values.nd rfl (Or.inl rfl)) (pgs_cons (pg_name (i := 7) sc_corner_values.nd rfl (Or.inl rfl)) (pgs_cons (pg_name (i := 8) sc_corner_values.nd rfl (Or.inl rfl)) pgs_nil))))))
  (pss_cons (ps_asg (pe_df D_four_knots (hr.mono (by first | decide | omega)) (pa_cons (pv 0) (pa_cons (pv 1) (pa_cons (pe_op op_shrN (pv 5) (pv 2)) (pa_cons (pe_op op_shrN (pv 6) (pv 2)) pa_nil))))) (pg_tup (by rfl) (pgs_cons (pg_name (i := 9) sc_corner_values.nd rfl (Or.inl rfl)) (pgs_cons (pg_name (i := 10) sc_corner_values.nd rfl (Or.inl rfl)) (pgs_cons (pg_name (i := 11) sc_corner_values.nd rfl (Or.inl rfl)) (pgs_cons (pg_name (i := 12) sc_corner_values.nd rfl (Or.inl rfl)) pgs_nil))))))
  (pss_cons (ps_par (i := 13) (j := 14) rfl sc_corner_values.nd rfl rfl (by decide) rfl rfl (pa_cons (pe_op op_andM (pv 6) (pe_op op_sub (pv 4) pe_int)) (pa_cons (pe_op op_andM (pv 8) (pe_op op_sub (pv 4) pe_int)) pa_nil)) rfl)
  (pss_cons (ps_set (i := 15) sc_corner_values.nd rfl (Or.inl rfl) (pe_lst pa_nil))
  (pss_cons (ps_for PassesOwn.never rfl (pi_tup (pe_tup (pa_cons (pe_op op_andM (pv 5) (pe_op op_sub (pv 4) pe_int)) (pa_cons (pe_op op_andM (pv 7) (pe_op op_sub (pv 4) pe_int)) pa_nil)))) (pg_name (i := 16) sc_corner_values.nd rfl (Or.inl rfl))
  (pss_cons (ps_set (i := 17) sc_corner_values.nd rfl (Or.inl rfl) (pe_op op_mul (pe_op op_add (pe_op op_mul (pe_op op_sub (pv 4) (pv 16)) (pv 9)) (pe_op op_mul (pv 16) (pv 10))) (pv 4)))
  (pss_cons (ps_set (i := 18) sc_corner_values.nd rfl (Or.inl rfl) (pe_op op_sub (pe_op op_sub (pe_op op_add (pe_op op_mul (pe_op op_sub (pv 4) (pv 16)) (pv 11)) (pe_op op_mul (pv 16) (pv 12))) (pe_op op_mul (pe_op op_sub (pv 4) (pv 16)) (pv 9))) (pe_op op_mul (pv 16) (pv 10))))
  (pss_cons (ps_expr (pe_bm PySem.F.plainAttrs_list PySem.F.slot_list_append PySem.F.type_list_append mt_append (pv 15) (pa_cons (pe_op op_shrN (pe_op op_add (pv 17) (pe_op op_mul (pv 13) (pv 18))) (pe_op op_add (pv 2) (pv 2))) pa_nil)))
  (pss_one (ps_expr (pe_bm PySem.F.plainAttrs_list PySem.F.slot_list_append PySem.F.type_list_append mt_append (pv 15) (pa_cons (pe_op op_shrN (pe_op op_add (pv 17) (pe_op op_mul (pv 14) (pv 18))) (pe_op op_add (pv 2) (pv 2))) pa_nil))))))))
  (pss_one (ps_ret (pv 15))))))))), ?_⟩)
  · obtain ⟨g, s, x0, z0, x1, z1, n, b, rfl, _⟩ := h
    rfl
  · obtain ⟨g, s, x0, z0, x1, z1, n, b, rfl, hn, hb, ex, ez, q⟩ := h
    walk_at "lw i0"
    obtain ⟨S, e1, e2, S0, S1, SS0, SS1⟩ := log_pow (show (0 : Int) ≤ (n : Int) by omega) (show (n : Int) ≤ 8 by omega)
    have hS : (2 : Int) ^ n = S := by rw [← e2, Int.toNat_natCast]
    rw [hS] at ex ez
    walk_at "lw go"
    refine g_I ⟨by omega, by omega, by decide⟩ ?_
    rw [e1]
    walk_at "lw go"
    refine g_tupT (SqT.of hb) rfl ?_
    walk_at "lw go"
    refine ⟨x0, n, rfl, rfl, ?_⟩
    walk_at "lw go"
    refine ⟨z0, n, rfl, rfl, ?_⟩
    rw [hS]
    walk_at "lw go"
    refine ⟨g, s, x0 / S, z0 / S, rfl, fun t ht => ?_⟩
    have s1 := same_new (o := .tup (fourV g s (x0 / S) (z0 / S))) ht
    obtain ⟨H1, eH⟩ : ∃ X, upd H t (.tup (fourV g s (x0 / S) (z0 / S))) = X := ⟨_, rfl⟩
    have f1 : H1 t = some (.tup (fourV g s (x0 / S) (z0 / S))) := eH ▸ upd_same
    rw [eH] at s1 ⊢
    clear eH
    walk_at "lw go"
    refine g_tupT (SqT.of f1) rfl ?_
    walk_at "lw go"
    with_reducible refine' g_par ?_
    walk_at "lw st"
    refine ⟨z0, n, rfl, by rw [hS], ?_⟩
    walk_at "lw st"
    refine ⟨z1, n, rfl, by rw [hS], ?_⟩
    walk_at "lw st"
    refine ⟨_, _, rfl, ?_⟩
    walk_at "lw ns"
    rw [hS]
    walk_at "lw go"
    refine ⟨by show 0 ≤ sizeLine; decide, fun l hl => ?_⟩
    have s2 := s1.trans (same_new (o := .lst []) hl)
    walk_at "lw go"
    refine ⟨x0, n, rfl, by rw [hS], ?_⟩
    walk_at "lw go"
    refine ⟨x1, n, rfl, by rw [hS], ?_⟩
    rw [hS]
    walk_at "lw go"
    refine ⟨by show 2 ≤ sizeLine; decide, fun tp htp => ?_⟩
    have s3 := same_new (o := .tup [.int (x0 % S), .int (x1 % S)]) htp
    obtain ⟨H2, eH2⟩ : ∃ X, upd (upd H1 l (.lst [])) tp (.tup [.int (x0 % S), .int (x1 % S)]) = X := ⟨_, rfl⟩
    have ftp : H2 tp = some (.tup [.int (x0 % S), .int (x1 % S)]) := eH2 ▸ upd_same
    have fl : H2 l = some (.lst []) := eH2 ▸ s3 _ _ upd_same
    have sH : Same H H2 := eH2 ▸ s2.trans s3
    have ntl : tp ≠ l := ne_of_none2 upd_same htp
    have hl1 : H l = none := by
      cases e : H l with
      | none => rfl
      | some u => rw [s1 _ _ e] at hl; cases hl
    rw [eH2]
    clear eH2 s2 s3
    have q00 := Int.emod_nonneg z0 (show S ≠ 0 by omega)
    have q01 := Int.emod_lt_of_pos z0 S0
    have q10 := Int.emod_nonneg z1 (show S ≠ 0 by omega)
    have q11 := Int.emod_lt_of_pos z1 S0
    have hv0 : ∀ x, x / S = x0 / S → noiseL g s n x z0 = (((S - x % S) * knotL g s (x0 / S) (z0 / S) + x % S * knotL g s (x0 / S + 1) (z0 / S)) * S + z0 % S * ((S - x % S) * knotL g s (x0 / S) (z0 / S + 1) + x % S * knotL g s (x0 / S + 1) (z0 / S + 1) - (S - x % S) * knotL g s (x0 / S) (z0 / S) - x % S * knotL g s (x0 / S + 1) (z0 / S))) / 2 ^ (n + n) := fun x e => by
      rw [← e]; exact (corner_eq hS S0).symm
    have hv1 : ∀ x, x / S = x0 / S → noiseL g s n x z1 = (((S - x % S) * knotL g s (x0 / S) (z0 / S) + x % S * knotL g s (x0 / S + 1) (z0 / S)) * S + z1 % S * ((S - x % S) * knotL g s (x0 / S) (z0 / S + 1) + x % S * knotL g s (x0 / S + 1) (z0 / S + 1) - (S - x % S) * knotL g s (x0 / S) (z0 / S) - x % S * knotL g s (x0 / S + 1) (z0 / S))) / 2 ^ (n + n) := fun x e => by
      rw [← e, ez]; exact (corner_eq hS S0).symm
    refine ⟨tp, rfl, ⟨_, SqT.of ftp⟩, for_tup (xs := [V.int (x0 % S), V.int (x1 % S)]) (fun i σ H' => ∃ o16 o17 o18, σ = [some (V.int g), some (V.int s), some (V.int n), some (V.ref b), some (V.int S), some (V.int x0),
                        some (V.int z0), some (V.int x1), some (V.int z1), some (V.int (knotL g s (x0 / S) (z0 / S))),
                        some (V.int (knotL g s (x0 / S + 1) (z0 / S))), some (V.int (knotL g s (x0 / S) (z0 / S + 1))),
                        some (V.int (knotL g s (x0 / S + 1) (z0 / S + 1))), some (V.int (z0 % S)),
                        some (V.int (z1 % S)), some (V.ref l), o16, o17, o18] ∧ Same H H' ∧ H' tp = H2 tp ∧ H' l = some (.lst (([noiseL g s n x0 z0, noiseL g s n x0 z1, noiseL g s n x1 z0, noiseL g s n x1 z1].take (2 * i)).map V.int)))
      ⟨_, _, _, rfl, sH, rfl, fl⟩ (fun _ σ H' _ ⟨_, _, _, _, _, e, _⟩ => SqT.of (e.trans ftp)) ?_ ?_⟩
    · rintro i y σ H3 hi ⟨o16, o17, o18, rfl, s3, ft3, fl3⟩
      obtain ⟨x, rfl, ex2, hk⟩ : ∃ x, y = .int (x % S) ∧ x / S = x0 / S ∧ [noiseL g s n x0 z0, noiseL g s n x0 z1, noiseL g s n x1 z0, noiseL g s n x1 z1].take (2 * (i + 1)) = [noiseL g s n x0 z0, noiseL g s n x0 z1, noiseL g s n x1 z0, noiseL g s n x1 z1].take (2 * i) ++ [noiseL g s n x z0, noiseL g s n x z1] := by
        have hi2 : i < 2 := by
          rcases Nat.lt_or_ge i 2 with h | h
          · exact h
          · rw [List.getElem?_eq_none h] at hi; cases hi
        rcases (show i = 0 ∨ i = 1 by omega) with rfl | rfl
        · exact ⟨x0, by cases hi; rfl, rfl, rfl⟩
        · exact ⟨x1, by cases hi; rfl, ex.symm, rfl⟩
      have e0 := hv0 x ex2
      have e1' := hv1 x ex2
      have p0 := Int.emod_nonneg x (show S ≠ 0 by omega)
      have p1 := Int.emod_lt_of_pos x S0
      obtain ⟨p, hp⟩ : ∃ p, x % S = p := ⟨_, rfl⟩
      rw [hp] at p0 p1 e0 e1' ⊢
      walk_at "lw go"
      refine ⟨tyL fl3, ?_⟩
      walk_at "lw go"
      refine ⟨_, n + n, rfl, rfl, ?_⟩
      rw [← e0]
      walk_at "lw go"
      refine g_append fl3 (small_size (by simp; omega)) ?_
      walk_at "lw go"
      refine ⟨tyL upd_same, ?_⟩
      walk_at "lw go"
      refine ⟨_, n + n, rfl, rfl, ?_⟩
      rw [← e1']
      walk_at "lw go"
      refine g_append upd_same (small_size (by simp; omega)) ?_
      walk_at "lw go"
      refine ⟨_, _, _, rfl, same_put (same_put s3 hl1) hl1, ?_, ?_⟩
      · rw [upd_ne ntl, upd_ne ntl, ft3]
      · rw [upd_same, hk, List.map_append]
        simp
    · rintro σ H3 ⟨o16, o17, o18, rfl, s3, ft3, fl3⟩
      walk_at "lw go"
      exact q l H3 hl1 s3 fl3
abbrev N_turns : List Str := ["low", "high", "log", "size", "found", "begin"]
theorem sc_turns : FnScope N_turns ["low", "high", "log"] (defScope s_turns) := ⟨rfl, rfl, rfl, by decide +kernel, rfl, by decide +kernel, by decide +kernel⟩
theorem ok_turns (F : FnP K "turns" s_turns f fd) (T : Bi mg) (G : Kn K mg)  : FnOk P w K mg base CX0 1 f fd ["low", "high", "log"] spTurns := by
  refine F.ok sc_turns (fun vs H Q E h => ?_) (fun cdv A outer s H vs Q E hr h => ⟨_, PSs.nox
(pss_cons (ps_set (i := 3) sc_turns.nd rfl (Or.inl rfl) (pe_op op_shl pe_int (pv 2)))
  (pss_cons (ps_set (i := 4) sc_turns.nd rfl (Or.inl rfl) (pe_lst (pa_cons (pv 0) pa_nil)))
  (pss_cons (ps_for PassesOwn.never rfl (pi_range3 (by rfl) T.range (pa_cons (pe_op op_shl (pe_op op_add (pe_op op_shrN (pv 0) (pv 2)) pe_int) (pv 2)) (pa_cons (pv 1) (pa_cons (pv 3) pa_nil)))) (pg_name (i := 5) sc_turns.nd rfl (Or.inl rfl))
  (pss_one (ps_expr (pe_bm PySem.F.plainAttrs_list PySem.F.slot_list_append PySem.F.type_list_append mt_append (pv 4) (pa_cons (pv 5) pa_nil)))))
  (pss_cons (ps_if (pt_cmpR op_gt (pv 1) (pv 0) (nomark _))
  (pss_one (ps_expr (pe_bm PySem.F.plainAttrs_list PySem.F.slot_list_append PySem.F.type_list_append mt_append (pv 4) (pa_cons (pv 1) pa_nil))))
  pss_nil)
  (pss_one (ps_ret (pv 4))))))), ?_⟩)
  · obtain ⟨lo, hi, n, rfl, _⟩ := h
    rfl
  · obtain ⟨lo, hi, n, rfl, hn, hl, hh, hlh, hc, q⟩ := h
    walk_at "lw i0"
    obtain ⟨S, e1, e2, S0, S1, SS0, SS1⟩ := log_pow (show (0 : Int) ≤ (n : Int) by omega) (show (n : Int) ≤ 8 by omega)
    have hS : (2 : Int) ^ n = S := by rw [← e2, Int.toNat_natCast]
    rw [hS] at hc q
    walk_at "lw go"
    refine g_I ⟨by omega, by omega, by decide⟩ ?_
    rw [e1]
    walk_at "lw go"
    refine ⟨by show 1 ≤ sizeLine; decide, fun l hl0 => ?_⟩
    walk_at "lw go"
    refine g_rng3 ?_
    walk_at "lw go"
    refine ⟨lo, n, rfl, rfl, ?_⟩
    rw [hS]
    have b1 := natAbs_div_le lo (show 1 ≤ S by omega)
    have p0 : (2 : Int) ^ ((n : Nat) : Int).toNat = S := e2
    walk_at "lw st"
    refine g_I ⟨by omega, by omega, by omega⟩ ?_
    rw [p0]
    walk_at "lw st"
    refine ⟨_, _, _, turnC S lo hi, rfl, rg_up S0 S1 (by omega) (by omega) (by have d := lo_div (lo := lo) S0; have e : (lo / S + 1) * S = lo / S * S + S := (by rw [Int.add_mul, Int.one_mul]); omega), for_rangeC (fun i σ H' => ∃ o5, σ = [some (.int lo), some (.int hi), some (.int n), some (.int S), some (.ref l), o5] ∧ Same H H' ∧ H' l = some (.lst ((lo :: (List.range i).map fun (k : Nat) => (lo / S + 1) * S + k * S).map V.int)))
      ⟨_, rfl, same_new hl0, upd_same⟩ ?_ ?_⟩
    · rintro i σ H1 hi2 ⟨o5, rfl, s1, h1⟩
      walk_at "lw go"
      refine ⟨tyL h1, ?_⟩
      walk_at "lw go"
      refine g_append h1 (small_size (by simp; omega)) ?_
      walk_at "lw go"
      refine ⟨_, rfl, same_put s1 hl0, ?_⟩
      rw [upd_same, List.range_succ, List.map_append]
      simp
    · rintro σ H1 ⟨o5, rfl, s1, h1⟩
      walk_at "lw go"
      refine g_ite (fun c => ?_) (fun c => ?_)
      · walk_at "lw go"
        refine ⟨tyL h1, ?_⟩
        walk_at "lw go"
        refine g_append h1 (small_size (by simp; omega)) ?_
        walk_at "lw go"
        refine q l _ hl0 (same_put s1 hl0) ?_
        rw [upd_same]
        unfold turnsL
        rw [if_pos c]
        simp
      · walk_at "lw go"
        refine q l _ hl0 s1 ?_
        rw [h1]
        unfold turnsL
        rw [if_neg c, List.append_nil]
abbrev N_noise_range : List Str := ["seed", "salt", "log", "box", "x0", "z0", "x1", "z1", "squares", "values"]
theorem sc_noise_range : FnScope N_noise_range ["seed", "salt", "log", "box"] (defScope s_noise_range) := ⟨rfl, rfl, rfl, by decide +kernel, rfl, by decide +kernel, by decide +kernel⟩
theorem ok_noise_range (F : FnP K "noise_range" s_noise_range f fd) (T : Bi mg) (G : Kn K mg) (D_corner_values : Df P w K mg base "corner_values" ["seed", "salt", "log", "box"] 2 spCorner) (D_noise_grid : Df P w K mg base "noise_grid" ["seed", "salt", "log", "xs", "zs"] 2 spGrid) (D_turns : Df P w K mg base "turns" ["low", "high", "log"] 1 spTurns) : FnOk P w K mg base CX0 3 f fd ["seed", "salt", "log", "box"] spNRx := by
  refine F.ok sc_noise_range (fun vs H Q E h => ?_) (fun cdv A outer s H vs Q E hr h => ⟨_, PSs.nox
(pss_cons (ps_asg (pv 3) (pg_tup (by rfl) (pgs_cons (pg_name (i := 4) sc_noise_range.nd rfl (Or.inl rfl)) (pgs_cons (pg_name (i := 5) sc_noise_range.nd rfl (Or.inl rfl)) (pgs_cons (pg_name (i := 6) sc_noise_range.nd rfl (Or.inl rfl)) (pgs_cons (pg_name (i := 7) sc_noise_range.nd rfl (Or.inl rfl)) pgs_nil))))))
  (pss_cons (ps_set (i := 8) sc_noise_range.nd rfl (Or.inl rfl) (pe_op op_mul (pe_op op_add (pe_op op_sub (pe_op op_shrN (pv 6) (pv 2)) (pe_op op_shrN (pv 4) (pv 2))) pe_int) (pe_op op_add (pe_op op_sub (pe_op op_shrN (pv 7) (pv 2)) (pe_op op_shrN (pv 5) (pv 2))) pe_int)))
  (pss_cons (ps_if (pt_cmpR op_gt (pv 8) (pe_gI (by rfl) G.c_MOST_SQUARES) (nomark _))
  (pss_one (ps_ret (pe_tup (pa_cons pe_int (pa_cons (pe_gI (by rfl) G.c_GREATEST_KNOT) pa_nil)))))
  pss_nil)
  (pss_cons (ps_if (pt_cmpR op_eq (pv 8) pe_int (nomark _))
  (pss_one (ps_set (i := 9) sc_noise_range.nd rfl (Or.inl rfl) (pe_df D_corner_values (hr.mono (by first | decide | omega)) (pa_cons (pv 0) (pa_cons (pv 1) (pa_cons (pv 2) (pa_cons (pv 3) pa_nil)))))))
  (pss_one (ps_set (i := 9) sc_noise_range.nd rfl (Or.inl rfl) (pe_df D_noise_grid (hr.mono (by first | decide | omega)) (pa_cons (pv 0) (pa_cons (pv 1) (pa_cons (pv 2) (pa_cons (pe_df D_turns (hr.mono (by first | decide | omega)) (pa_cons (pv 4) (pa_cons (pv 6) (pa_cons (pv 2) pa_nil)))) (pa_cons (pe_df D_turns (hr.mono (by first | decide | omega)) (pa_cons (pv 5) (pa_cons (pv 7) (pa_cons (pv 2) pa_nil)))) pa_nil)))))))))
  (pss_one (ps_ret (pe_tup (pa_cons (pe_callB (cr_min rfl) (by rfl) T.min (by decide +kernel) (pa_cons (pv 9) pa_nil)) (pa_cons (pe_callB (cr_max rfl) (by rfl) T.max (by decide +kernel) (pa_cons (pv 9) pa_nil)) pa_nil))))))))), ?_⟩)
  · obtain ⟨g, s, x0, z0, x1, z1, n, b, rfl, _⟩ := h
    rfl
  · obtain ⟨g, s, x0, z0, x1, z1, n, b, rfl, hn, hb, hx, hz, bx0, bx1, bz0, bz1, q⟩ := h
    walk_at "lw i0"
    obtain ⟨S, e1, e2, S0, S1, SS0, SS1⟩ := log_pow (show (0 : Int) ≤ (n : Int) by omega) (show (n : Int) ≤ 8 by omega)
    have hS : (2 : Int) ^ n = S := by rw [← e2, Int.toNat_natCast]
    have d0 := natAbs_div_le x0 (show 1 ≤ S by omega)
    have d1 := natAbs_div_le x1 (show 1 ≤ S by omega)
    walk_at "lw go"
    refine g_tupT (SqT.of hb) rfl ?_
    walk_at "lw go"
    refine ⟨x1, n, rfl, rfl, ?_⟩
    walk_at "lw go"
    refine ⟨x0, n, rfl, rfl, ?_⟩
    walk_at "lw go"
    refine ⟨z1, n, rfl, rfl, ?_⟩
    walk_at "lw go"
    refine ⟨z0, n, rfl, rfl, ?_⟩
    rw [hS]
    walk_at "lw go"
    refine g_ite (fun c => ?_) (fun c => ?_)
    · have ex : exactN g s n x0 z0 x1 z1 = (0, 65535) := by
        unfold exactN
        simp only
        rw [e2]
        exact if_pos c
      walk_at "lw go"
      exact q.new (by rw [ex]) (by rw [ex]) (Same.refl H)
    · have few : sqs (2 ^ ((n : Nat) : Int).toNat) x0 z0 x1 z1 ≤ 64 := by rw [e2]; unfold sqs; omega
      have lx : x0 / S ≤ x1 / S := Int.ediv_le_ediv S0 hx
      have lz : z0 / S ≤ z1 / S := Int.ediv_le_ediv S0 hz
      walk_at "lw go"
      refine g_ite (fun c1 => ?_) (fun c1 => ?_)
      · have c1' : (x1 / S - x0 / S + 1) * (z1 / S - z0 / S + 1) = 1 := by injection c1
        obtain ⟨ax, az⟩ := one_one (show 1 ≤ x1 / S - x0 / S + 1 by omega) (show 1 ≤ z1 / S - z0 / S + 1 by omega) c1'
        walk_at "lw go"
        refine ⟨g, s, x0, z0, x1, z1, n, b, rfl, hn, hb, by rw [hS]; omega, by rw [hS]; omega, fun l H1 _ s1 hl => ?_⟩
        have ex := exact_of (g := g) (s := s) (l := (n : Int)) (vs := [noiseL g s n x0 z0, noiseL g s n x0 z1, noiseL g s n x1 z0, noiseL g s n x1 z1]) hx hz few (fun v hv => by
          simp only [List.mem_cons, List.not_mem_nil, or_false] at hv
          rcases hv with rfl | rfl | rfl | rfl
          · exact ⟨x0, z0, by omega, by omega, by omega, by omega, rfl⟩
          · exact ⟨x0, z1, by omega, by omega, by omega, by omega, rfl⟩
          · exact ⟨x1, z0, by omega, by omega, by omega, by omega, rfl⟩
          · exact ⟨x1, z1, by omega, by omega, by omega, by omega, rfl⟩) (fun x hx2 z hz2 => by
          rw [e2] at hx2 hz2
          rcases turn_one S0 hx (by omega) hx2 with rfl | rfl <;> rcases turn_one S0 hz (by omega) hz2 with rfl | rfl <;> simp)
        walk_at "lw go"
        refine ⟨l, _, rfl, SqL.of hl, by simp, fun m hm hm2 => ?_⟩
        walk_at "lw go"
        refine ⟨l, _, rfl, SqL.of hl, by simp, fun m' hm' hm2' => ?_⟩
        walk_at "lw go"
        exact q.new (by rw [ex]; exact (lMin_eq hm hm2).symm) (by rw [ex]; exact (lMax_eq hm' hm2').symm) s1
      · have cx : x1 / S - x0 / S + 1 ≤ 64 := by
          have m := Int.mul_le_mul_of_nonneg_left (show 1 ≤ z1 / S - z0 / S + 1 by omega) (show 0 ≤ x1 / S - x0 / S + 1 by omega)
          omega
        have cz : z1 / S - z0 / S + 1 ≤ 64 := by
          have m := Int.mul_le_mul_of_nonneg_right (show 1 ≤ x1 / S - x0 / S + 1 by omega) (show 0 ≤ z1 / S - z0 / S + 1 by omega)
          omega
        have tx := turnC_le S0 hx
        have tz := turnC_le S0 hz
        have nx := turnsL_len S x0 x1
        have nz := turnsL_len S z0 z1
        walk_at "lw go"
        refine ⟨x0, x1, n, rfl, hn, bx0, bx1, hx, by rw [hS]; omega, fun l1 H1 _ s1 f1 => ?_⟩
        rw [hS] at f1
        walk_at "lw go"
        refine ⟨z0, z1, n, rfl, hn, bz0, bz1, hz, by rw [hS]; omega, fun l2 H2 _ s2 f2 => ?_⟩
        rw [hS] at f2
        walk_at "lw go"
        refine ⟨g, s, n, l1, l2, turnsL S x0 x1, turnsL S z0 z1, rfl, hn, s2 _ _ f1, f2, turnsL_sorted S0 hz, by omega, by omega, fun l3 H3 _ s3 f3 => ?_⟩
        have ex : exactN g s n x0 z0 x1 z1 = (lMin (gridL g s n (turnsL S x0 x1) (turnsL S z0 z1)), lMax (gridL g s n (turnsL S x0 x1) (turnsL S z0 z1))) := by
          unfold exactN
          simp only
          rw [e2]
          exact if_neg c
        have ne : 0 < (gridL g s n (turnsL S x0 x1) (turnsL S z0 z1)).length := List.length_pos_of_mem (grid_mem (turns_ne S x0 x1) (turns_ne S z0 z1))
        walk_at "lw go"
        refine ⟨l3, _, rfl, SqL.of f3, ne, fun m hm hm2 => ?_⟩
        walk_at "lw go"
        refine ⟨l3, _, rfl, SqL.of f3, ne, fun m' hm' hm2' => ?_⟩
        walk_at "lw go"
        exact q.new (by rw [ex]; exact (lMin_eq hm hm2).symm) (by rw [ex]; exact (lMax_eq hm' hm2').symm) ((s1.trans s2).trans s3)
abbrev N_weighed : List Str := ["field", "lets", "things", "word", "one", "other", "many", "great", "more", "greater"]
theorem sc_weighed : FnScope N_weighed ["field", "lets"] (defScope s_weighed) := ⟨rfl, rfl, rfl, by decide +kernel, rfl, by decide +kernel, by decide +kernel⟩
abbrev N_weighed_long : List Str := ["field", "lets", "word", "_", "one", "other", "part", "many", "great", "weights"]
theorem sc_weighed_long : FnScope N_weighed_long ["field", "lets"] (defScope s_weighed_long) := ⟨rfl, rfl, rfl, by decide +kernel, rfl, by decide +kernel, by decide +kernel⟩
theorem ok_weighed {f2 : Addr} {fd2 : FuncData} (F : FnP K "weighed" s_weighed f fd) (F2 : FnP K "weighed_long" s_weighed_long f2 fd2) (T : Bi mg) (G : Kn K mg) (gm : mg "weighed" = some (.ref f)) (kp : PySem.W.keepIn K (.ref f) = true) (bb : Binds K fd ["field", "lets"] [])
    (gm2 : mg "weighed_long" = some (.ref f2)) (kp2 : PySem.W.keepIn K (.ref f2) = true) (bb2 : Binds K fd2 ["field", "lets"] [])
    (D_is_from : Df P w K mg base "is_from" ["thing", "low", "high"] 1 spFrom) (D_is_name : Df P w K mg base "is_name" ["thing"] 1 spName) :
    ∀ n : Nat, FnOk P w K mg base CX0 (2 * n + 2) f fd ["field", "lets"] (spW K n) ∧ FnOk P w K mg base CX0 (2 * n + 3) f2 fd2 ["field", "lets"] (spWL K n) := by
  have long : ∀ n : Nat, FnOk P w K mg base CX0 (2 * n + 2) f fd ["field", "lets"] (spW K n) → FnOk P w K mg base CX0 (2 * n + 3) f2 fd2 ["field", "lets"] (spWL K n) := by
    intro n IH
    have D_weighed : Df P w K mg base "weighed" ["field", "lets"] (2 * n + 2) (spW K n) := ⟨f, fd, gm, kp, bb, IH⟩
    refine F2.ok (k := 2 * n + 2) sc_weighed_long (fun vs H Q E h => ?_) (fun cdv A outer s H vs Q E hr h => ⟨_, PSs.nox
(pss_cons (ps_set (i := 2) sc_weighed_long.nd rfl (Or.inl rfl) (pe_ix ix_tup (pv 0) pe_int (fun _ _ => rfl)))
  (pss_cons (ps_if (pt_cmpR op_eq (pe_callB call_len_seq (by rfl) T.len (by decide +kernel) (pa_cons (pv 0) pa_nil)) pe_int (nomark _))
  (pss_cons (ps_asg (pv 0) (pg_tup (by rfl) (pgs_cons (pg_name (i := 3) sc_weighed_long.nd rfl (Or.inl rfl)) (pgs_cons (pg_name (i := 4) sc_weighed_long.nd rfl (Or.inl rfl)) (pgs_cons (pg_name (i := 5) sc_weighed_long.nd rfl (Or.inl rfl)) (pgs_cons (pg_name (i := 6) sc_weighed_long.nd rfl (Or.inl rfl)) pgs_nil))))))
  (pss_cons (ps_if (PW.pt (pw_and (pt_cmpR op_eq (pv 2) pe_str (nomark _)) (pw_and1 (pt_val (pe_df D_is_name (hr.mono (by first | decide | omega)) (pa_cons (pv 4) pa_nil))))))
  (pss_one (ps_ret (pe_df D_weighed (hr.mono (by first | decide | omega)) (pa_cons (pv 6) (pa_cons (Dz.pe_dispS (pv 1) (pv 4) (pe_df D_weighed (hr.mono (by first | decide | omega)) (pa_cons (pv 5) (pa_cons (pv 1) pa_nil)))) pa_nil)))))
  pss_nil)
  (pss_one (ps_if (PW.pt (pw_and (pt_cmpR op_eq (pv 2) pe_str (nomark _)) (pw_and (pt_val (pe_df D_is_from (hr.mono (by first | decide | omega)) (pa_cons (pv 4) (pa_cons (pe_un un_neg pe_int) (pa_cons pe_int pa_nil))))) (pw_and1 (pt_val (pe_df D_is_from (hr.mono (by first | decide | omega)) (pa_cons (pv 5) (pa_cons (pe_un un_neg pe_int) (pa_cons pe_int pa_nil)))))))))
  (pss_cons (ps_asg (pe_df D_weighed (hr.mono (by first | decide | omega)) (pa_cons (pv 6) (pa_cons (pv 1) pa_nil))) (pg_tup (by rfl) (pgs_cons (pg_name (i := 7) sc_weighed_long.nd rfl (Or.inl rfl)) (pgs_cons (pg_name (i := 8) sc_weighed_long.nd rfl (Or.inl rfl)) pgs_nil))))
  (pss_one (ps_ret (pe_tup (pa_cons (pe_op op_add (pv 7) pe_int) (pa_cons (pv 8) pa_nil))))))
  pss_nil))))
  (pss_one (ps_if (PW.pt (pw_and (pt_cmpR op_eq (pe_callB call_len_seq (by rfl) T.len (by decide +kernel) (pa_cons (pv 0) pa_nil)) pe_int (nomark _)) (pw_and1 (pt_cmpR op_eq (pv 2) pe_str (nomark _)))))
  (pss_cons (ps_setLc (i := 9) (own := [("part", 6)]) (g := gName 6) (tt := tYes) rfl sc_weighed_long.nd rfl rfl (sw_true rfl rfl rfl (by decide +kernel)) (pi_tup (pe_slice sl_tup (pv 0) (po_some pe_int) po_none)) (blkOk_by (N := N_weighed_long) (sc := defScope s_weighed_long) (by decide +kernel)) (fun _ _ _ _ _ => pg_name (i := 6) sc_weighed_long.nd rfl (Or.inl rfl)) (fun _ _ _ _ _ => pts_nil) (fun _ _ _ _ _ => (pe_df D_weighed (hr.mono (by first | decide | omega)) (pa_cons (pv 6) (pa_cons (pv 1) pa_nil)))))
  (pss_one (ps_ret (pe_tup (pa_cons (pe_op op_add pe_int (pe_callB (cr_sum rfl) (by rfl) T.sum (by decide +kernel) (pa_cons (pe_lc (own := [("many", 7), ("_", 3)]) (g := gTup K 2 (gCons (gName 7) (gCons (gName 3) gNil))) (tt := tYes) rfl sc_weighed_long.nd (pi_list (pv 9)) (blkOk_by (N := N_weighed_long) (sc := defScope s_weighed_long) (by decide +kernel)) (fun _ _ _ _ _ => pg_tup (by rfl) (pgs_cons (pg_name (i := 7) sc_weighed_long.nd rfl (Or.inl rfl)) (pgs_cons (pg_name (i := 3) sc_weighed_long.nd rfl (Or.inl rfl)) pgs_nil))) (fun _ _ _ _ _ => pts_nil) (fun _ _ _ _ _ => (pv 7))) pa_nil))) (pa_cons (pe_callB (cr_sum rfl) (by rfl) T.sum (by decide +kernel) (pa_cons (pe_lc (own := [("_", 3), ("great", 8)]) (g := gTup K 2 (gCons (gName 3) (gCons (gName 8) gNil))) (tt := tYes) rfl sc_weighed_long.nd (pi_list (pv 9)) (blkOk_by (N := N_weighed_long) (sc := defScope s_weighed_long) (by decide +kernel)) (fun _ _ _ _ _ => pg_tup (by rfl) (pgs_cons (pg_name (i := 3) sc_weighed_long.nd rfl (Or.inl rfl)) (pgs_cons (pg_name (i := 8) sc_weighed_long.nd rfl (Or.inl rfl)) pgs_nil))) (fun _ _ _ _ _ => pts_nil) (fun _ _ _ _ _ => (pv 8))) pa_nil)) pa_nil))))))
  pss_nil)))
  pss_never)), ?_⟩)
    · obtain ⟨u, F, d, r, rfl, _⟩ := h
      rfl
    · obtain ⟨u, F, d, r, rfl, hlong, hF, hn, hO, hB, hR, hE, hC, hcn, hr2, q⟩ := h
      walk_at "lw i0"
      cases F with
      | lt x a b =>
        obtain ⟨p, u1, u2, rfl, hp, hF1, hF2⟩ := hF
        have hn' : 1 + max (dep a) (dep b) ≤ n := hn
        obtain ⟨kvs, hd, hkl, hq⟩ := id hE
        have hdp : d ≠ p := ne_of hd hp (by intro z; cases z)
        walk_at "lw go"
        refine g_ixT (SqT.of hp) (v := .str "let") rfl ?_
        walk_at "lw go"
        refine ⟨p, _, rfl, .inr (SqT.of hp), ?_⟩
        walk_at "lw go"
        refine iteS rfl ?_
        walk_at "lw go"
        refine g_tupT (SqT.of hp) rfl ?_
        walk_at "lw go"
        refine ⟨x, rfl, hO.1, ?_⟩
        walk_at "lw go"
        intro i hi
        walk_at "lw go"
        have s1 := same_new (o := .dK []) hi
        refine ⟨d, kvs, rfl, (ne_of_none hd hi), upd_same, s1 _ _ hd, by rw [sizeLine_eq]; omega, fun i2 hi2 => ?_⟩
        have ni : i ≠ i2 := ne_of_none upd_same hi2
        have s2 : Same H (upd (upd (upd H i (.dK [])) i (.dK kvs)) i2 (.dK [])) := (same_put s1 hi).trans (same_new hi2)
        walk_at "lw go"
        have s2i : (upd (upd (upd H i (.dK [])) i (.dK kvs)) i2 (.dK [])) i = some (.dK kvs) := by rw [upd_ne ni, upd_same]
        refine ⟨u1, a, d, r, rfl, hF1.mono (same_tup s2), by omega, hO.2.1, hB.1, hR, hE.mono s2, hC.2.1, hC.1, by omega, fun t H3 s3 ht => ?_⟩
        refine ⟨Sum.inr x, rfl, s3 _ _ s2i, s3 _ _ upd_same, ?_⟩
        have s4 : Same H (upd (upd H3 i2 (.dK [(Sum.inr x, .ref t)])) i (.dK (putK kvs (Sum.inr x) (.ref t)))) := same_put (same_put (s2.trans s3) (none_back (o := .dK []) hi ((same_put s1 hi)) hi2)) hi
        walk_at "lw go"
        have ht4 : SqT K (upd (upd H3 i2 (.dK [(Sum.inr x, .ref t)])) i (.dK (putK kvs (Sum.inr x) (.ref t)))) t [.int (cn (expand a r) : Nat), .int (grE (expand a r))] := sqT_put (sqT_put ht (s3 _ _ upd_same)) (by rw [upd_ne ni]; exact s3 _ _ s2i)
        exact ⟨u2, b, i, (x, expand a r) :: r, rfl, hF2.mono (same_tup s4), by omega, hO.2.2, hB.2, okR_cons (ok_expand a r hO.2.1 hR) hR, hE.let_ hd s4 upd_same ht4, hC.2.2, hcn, by simp only [List.length_cons]; omega, q.later s4⟩
      | shift dx dz a =>
        obtain ⟨p, u1, rfl, hp, hF1⟩ := hF
        have hn' : 1 + dep a ≤ n := hn
        have hx := hO.1
        have hz := hO.2.1
        have ec : cn (expand (.shift dx dz a) r) = 1 + cn (expand a r) := rfl
        walk_at "lw go"
        refine g_ixT (SqT.of hp) (v := .str "shift") rfl ?_
        walk_at "lw go"
        refine ⟨p, _, rfl, .inr (SqT.of hp), ?_⟩
        walk_at "lw go"
        refine iteS rfl ?_
        walk_at "lw go"
        refine g_tupT (SqT.of hp) rfl ?_
        walk_at "lw go"
        refine ⟨dx, -1000, 1000, rfl, hx.1, hx.2, ?_⟩
        walk_at "lw go"
        refine ⟨dz, -1000, 1000, rfl, hz.1, hz.2, ?_⟩
        walk_at "lw go"
        refine ⟨u1, a, d, r, rfl, hF1, by omega, hO.2.2, hB, hR, hE, hC, by omega, by omega, fun t H1 s1 ht => ?_⟩
        walk_at "lw go"
        refine g_tupT ht rfl ?_
        walk_at "lw go"
        exact q.new (by rw [ec]; omega) rfl s1
      | bel a b c e =>
        obtain ⟨p, u1, u2, u3, u4, rfl, hp, hF1, hF2, hF3, hF4⟩ := hF
        have hn' : 1 + max (max (dep a) (dep b)) (max (dep c) (dep e)) ≤ n := hn
        have ec : cn (expand (.bel a b c e) r) = 1 + (cn (expand a r) + (cn (expand b r) + (cn (expand c r) + cn (expand e r)))) := rfl
        walk_at "lw go"
        refine g_ixT (SqT.of hp) (v := .str "below") rfl ?_
        walk_at "lw go"
        refine ⟨p, _, rfl, .inr (SqT.of hp), ?_⟩
        walk_at "lw go"
        refine iteNo (by intro z; cases z) ?_
        walk_at "lw go"
        refine ⟨p, _, rfl, .inr (SqT.of hp), ?_⟩
        walk_at "lw go"
        refine iteS rfl ?_
        walk_at "lw go"
        refine g_slT (SqT.of hp) cut1T_ok fun t ht => ?_
        rw [cut1T]
        have s1 : Same H (upd H t (.tup [u1, u2, u3, u4])) := same_new ht
        obtain ⟨es, hes⟩ : ∃ es, [expand a r, expand b r, expand c r, expand e r] = es := ⟨_, rfl⟩
        refine ⟨t, rfl, ⟨_, SqT.of upd_same⟩, fun D hD => lc_tup (xs := [u1, u2, u3, u4]) (fun i H' => ∃ acc, Same (upd H t (.tup [u1, u2, u3, u4])) H' ∧ H' D = some (.lst acc) ∧ acc.length = i ∧ WR K H' acc (es.take i)) ⟨[], same_new hD, upd_same, rfl, .nil⟩ (fun i H' _ ⟨_, s, _⟩ => SqT.of (s _ _ upd_same)) ?_ ?_⟩
        · rintro i y H' hi ⟨acc, s, hacc, hal, hw⟩
          obtain ⟨B, eB, hB1, hB2, hB3, hB4, hB5, hB6, hi4⟩ : ∃ B : Fd, es[i]? = some (expand B r) ∧ FRep B H y ∧ dep B + 1 ≤ n ∧ OkF B ∧ Bnd B (r.map (·.1)) ∧ Cok B r ∧ cn (expand B r) ≤ 1000000000000000000000000000000 ∧ i < 4 := by
            subst hes
            match i, hi with
            | 0, hi => cases Option.some.inj hi; exact ⟨a, rfl, hF1, by omega, hO.1, hB.1, hC.1, by omega, by omega⟩
            | 1, hi => cases Option.some.inj hi; exact ⟨b, rfl, hF2, by omega, hO.2.1, hB.2.1, hC.2.1, by omega, by omega⟩
            | 2, hi => cases Option.some.inj hi; exact ⟨c, rfl, hF3, by omega, hO.2.2.1, hB.2.2.1, hC.2.2.1, by omega, by omega⟩
            | 3, hi => cases Option.some.inj hi; exact ⟨e, rfl, hF4, by omega, hO.2.2.2, hB.2.2.2, hC.2.2.2, by omega, by omega⟩
            | k + 4, hi => cases hi
          walk_at "lw go"
          refine ⟨rfl, g_yes (iteT ?_)⟩
          walk_at "lw go"
          have s2 := s1.trans s
          refine ⟨y, B, d, r, rfl, hB1.mono (same_tup s2), hB2, hB3, hB4, hR, hE.mono s2, hB5, hB6, by omega, fun p' H2 s3 hp' => ?_⟩
          walk_at "lw go"
          refine ⟨acc, s3 _ _ hacc, small1000 (by omega), acc ++ [.ref p'], same_put (s.trans s3) hD, upd_same, by rw [List.length_append, hal]; rfl, ?_⟩
          rw [List.take_add_one, eB]
          exact WR.append ((hw.mono s3).putL (s3 _ _ hacc)) (.cons ⟨p', rfl, sqT_putL hp' (s3 _ _ hacc)⟩ .nil)
        rintro H' ⟨acc, s, hacc, hal, hw⟩
        have hal4 : acc.length = 4 := hal
        have e4 : es.take [u1, u2, u3, u4].length = es := by subst hes; rfl
        rw [e4] at hw
        have s2 := s1.trans s
        walk_at "lw go"
        refine ⟨D, rfl, ⟨_, SqL.of hacc⟩, fun D2 hD2 => lc_list (xs := acc) (fun i H'' => Same H' H'' ∧ H'' D2 = some (.lst (((es.map (fun e => ((cn e : Nat) : Int))).take i).map V.int))) ⟨same_new hD2, upd_same⟩ (fun i H'' _ ⟨s', _⟩ => SqL.of (s' _ _ hacc)) ?_ ?_⟩
        · rintro i y H'' hi ⟨s', hl'⟩
          obtain ⟨e', he', p', rfl, hp'⟩ := wr_at (hw) hi
          have hlen : ((es.map (fun e => ((cn e : Nat) : Int))).take i).length < 1000 := by rw [List.length_take]; have := (List.getElem?_eq_some_iff.mp hi).1; omega
          walk_at "lw go"
          refine g_tupT (same_sqT s' hp') rfl ?_
          walk_at "lw go"
          refine ⟨rfl, g_yes (iteT ?_)⟩
          walk_at "lw go"
          refine ⟨_, hl', by rw [List.length_map]; exact small1000 (by omega), same_put s' hD2, ?_⟩
          rw [upd_same, List.take_add_one, List.getElem?_map, he', List.map_append]
          rfl
        rintro H3 ⟨s3, hl3⟩
        walk_at "lw go"
        refine ⟨D2, es.map (fun e => ((cn e : Nat) : Int)), rfl, SqL.of (by rw [hl3]; congr 3; rw [List.take_of_length_le]; rw [List.length_map, ← e4, List.length_take, hal]; exact Nat.min_le_left _ _), ?_⟩
        walk_at "lw go"
        refine ⟨D, rfl, ⟨_, SqL.of (s3 _ _ hacc)⟩, fun D3 hD3 => lc_list (xs := acc) (fun i H'' => Same H3 H'' ∧ H'' D3 = some (.lst (((es.map grE).take i).map V.int))) ⟨same_new hD3, upd_same⟩ (fun i H'' _ ⟨s', _⟩ => SqL.of (s' _ _ (s3 _ _ hacc))) ?_ ?_⟩
        · rintro i y H'' hi ⟨s', hl'⟩
          obtain ⟨e', he', p', rfl, hp'⟩ := wr_at (hw.mono s3) hi
          have hlen : ((es.map grE).take i).length < 1000 := by rw [List.length_take]; have := (List.getElem?_eq_some_iff.mp hi).1; omega
          walk_at "lw go"
          refine g_tupT (same_sqT s' hp') rfl ?_
          walk_at "lw go"
          refine ⟨rfl, g_yes (iteT ?_)⟩
          walk_at "lw go"
          refine ⟨_, hl', by rw [List.length_map]; exact small1000 (by omega), same_put s' hD3, ?_⟩
          rw [upd_same, List.take_add_one, List.getElem?_map, he', List.map_append]
          rfl
        rintro H4 ⟨s4, hl4⟩
        walk_at "lw go"
        refine ⟨D3, es.map grE, rfl, SqL.of (by rw [hl4]; congr 3; rw [List.take_of_length_le]; rw [List.length_map, ← e4, List.length_take, hal]; exact Nat.min_le_left _ _), ?_⟩
        walk_at "lw go"
        subst hes
        refine q.new ?_ rfl ((s2.trans s3).trans s4)
        rw [ec]
        simp
        try omega
      | _ => exact hlong.elim
  intro n
  induction n with
  | zero =>
    have W0 : FnOk P w K mg base CX0 2 f fd ["field", "lets"] (spW K 0) := by
      refine F.ok sc_weighed (fun vs H Q E h => ?_) (fun cdv A outer s H vs Q E hr h => ?_)
      · obtain ⟨u, F, d, r, rfl, _⟩ := h
        rfl
      · obtain ⟨u, F, d, r, _, _, h, _⟩ := h
        omega
    exact ⟨W0, long 0 W0⟩
  | succ n IH =>
    have D_weighed : Df P w K mg base "weighed" ["field", "lets"] (2 * n + 2) (spW K n) := ⟨f, fd, gm, kp, bb, IH.1⟩
    have D_weighed_long : Df P w K mg base "weighed_long" ["field", "lets"] (2 * n + 3) (spWL K n) := ⟨f2, fd2, gm2, kp2, bb2, IH.2⟩
    have W1 : FnOk P w K mg base CX0 (2 * n + 4) f fd ["field", "lets"] (spW K (n + 1)) := by
      refine F.ok (k := 2 * n + 3) sc_weighed (fun vs H Q E h => ?_) (fun cdv A outer s H vs Q E hr h => ⟨_, PSs.nox
(pss_cons (ps_if (pt_not (pt_val (pe_callB call_isi (by rfl) T.isinstance (by decide +kernel) (pa_cons (pv 0) (pa_cons (pe_bltn (v := .ty "tuple") (by rfl) T.tuple boot_tuple rfl) pa_nil)))))
  pss_never
  pss_nil)
  (pss_cons (ps_set (i := 2) sc_weighed.nd rfl (Or.inl rfl) (pe_callB call_len_seq (by rfl) T.len (by decide +kernel) (pa_cons (pv 0) pa_nil)))
  (pss_cons (ps_if (pt_cmpR op_eq (pv 2) pe_int (nomark _))
  (pss_cons (ps_asg (pv 0) (pg_tup (by rfl) (pgs_cons (pg_name (i := 3) sc_weighed.nd rfl (Or.inl rfl)) (pgs_cons (pg_name (i := 4) sc_weighed.nd rfl (Or.inl rfl)) (pgs_cons (pg_name (i := 5) sc_weighed.nd rfl (Or.inl rfl)) pgs_nil)))))
  (pss_cons (ps_if (pt_cmpR op_in_seq (pv 3) (pe_gR (by rfl) G.g_PAIRS) (by rfl))
  (pss_cons (ps_asg (pe_df D_weighed (hr.mono (by first | decide | omega)) (pa_cons (pv 4) (pa_cons (pv 1) pa_nil))) (pg_tup (by rfl) (pgs_cons (pg_name (i := 6) sc_weighed.nd rfl (Or.inl rfl)) (pgs_cons (pg_name (i := 7) sc_weighed.nd rfl (Or.inl rfl)) pgs_nil))))
  (pss_cons (ps_asg (pe_df D_weighed (hr.mono (by first | decide | omega)) (pa_cons (pv 5) (pa_cons (pv 1) pa_nil))) (pg_tup (by rfl) (pgs_cons (pg_name (i := 8) sc_weighed.nd rfl (Or.inl rfl)) (pgs_cons (pg_name (i := 9) sc_weighed.nd rfl (Or.inl rfl)) pgs_nil))))
  (pss_cons (ps_if (pt_cmpR op_eq (pv 3) pe_str (nomark _))
  (pss_one (ps_ret (pe_tup (pa_cons (pe_op op_add (pe_op op_add (pv 6) (pv 8)) pe_int) (pa_cons (pe_callB (call_min2 rfl) (by rfl) T.min (by decide +kernel) (pa_cons (pe_op op_mulW (pv 7) (pv 9)) (pa_cons (pe_gI (by rfl) G.c_BEYOND) pa_nil))) pa_nil)))))
  pss_nil)
  (pss_one (ps_ret (pe_tup (pa_cons (pe_op op_add (pe_op op_add (pv 6) (pv 8)) pe_int) (pa_cons (pe_op op_add (pv 7) (pv 9)) pa_nil))))))))
  pss_nil)
  (pss_cons (ps_if (PW.pt (pw_and (pt_cmpR op_eq (pv 3) pe_str (nomark _)) (pw_and (pt_val (pe_df D_is_from (hr.mono (by first | decide | omega)) (pa_cons (pv 4) (pa_cons pe_int (pa_cons pe_int pa_nil))))) (pw_and1 (pt_val (pe_df D_is_from (hr.mono (by first | decide | omega)) (pa_cons (pv 5) (pa_cons pe_int (pa_cons pe_int pa_nil)))))))))
  (pss_one (ps_ret (pe_gR (by rfl) G.g_NOISE)))
  pss_nil)
  (pss_one (ps_if (PW.pt (pw_and (pt_cmpR op_eq (pv 3) pe_str (nomark _)) (pw_and1 (pt_val (pe_df D_is_from (hr.mono (by first | decide | omega)) (pa_cons (pv 5) (pa_cons pe_int (pa_cons pe_int pa_nil))))))))
  (pss_cons (ps_asg (pe_df D_weighed (hr.mono (by first | decide | omega)) (pa_cons (pv 4) (pa_cons (pv 1) pa_nil))) (pg_tup (by rfl) (pgs_cons (pg_name (i := 6) sc_weighed.nd rfl (Or.inl rfl)) (pgs_cons (pg_name (i := 7) sc_weighed.nd rfl (Or.inl rfl)) pgs_nil))))
  (pss_one (ps_ret (pe_tup (pa_cons (pe_op op_add (pv 6) pe_int) (pa_cons (pv 7) pa_nil))))))
  pss_nil)))))
  (pss_one (ps_if (pt_cmpR op_eq (pv 2) pe_int (nomark _))
  (pss_one (ps_if (PW.pt (pw_or (pt_cmpR op_eq (pe_ix ix_tup (pv 0) pe_int (fun _ _ => rfl)) pe_str (nomark _)) (pw_or1 (pt_cmpR op_eq (pe_ix ix_tup (pv 0) pe_int (fun _ _ => rfl)) pe_str (nomark _)))))
  (pss_one (ps_ret (pe_gR (by rfl) G.g_PLACE)))
  pss_nil))
  (pss_one (ps_if (pt_cmpR op_eq (pv 2) pe_int (nomark _))
  (pss_cons (ps_asg (pv 0) (pg_tup (by rfl) (pgs_cons (pg_name (i := 3) sc_weighed.nd rfl (Or.inl rfl)) (pgs_cons (pg_name (i := 4) sc_weighed.nd rfl (Or.inl rfl)) pgs_nil))))
  (pss_cons (ps_if (PW.pt (pw_and (pt_cmpR op_eq (pv 3) pe_str (nomark _)) (pw_and1 (pt_val (pe_df D_is_from (hr.mono (by first | decide | omega)) (pa_cons (pv 4) (pa_cons (pe_un un_neg pe_int) (pa_cons pe_int pa_nil))))))))
  (pss_one (ps_ret (pe_tup (pa_cons pe_int (pa_cons (pe_op op_add (pe_callB call_abs (by rfl) T.abs (by decide +kernel) (pa_cons (pv 4) pa_nil)) pe_int) pa_nil)))))
  pss_nil)
  (pss_one (ps_if (PW.pt (pw_and (pt_cmpR op_eq (pv 3) pe_str (nomark _)) (pw_and (pt_val (pe_callB call_isi (by rfl) T.isinstance (by decide +kernel) (pa_cons (pv 4) (pa_cons (pe_bltn (v := .ty "str") (by rfl) T.str boot_str rfl) pa_nil)))) (pw_and1 (pt_cmp (pc_din (hu_of hr) (pv 4) (pv 1)))))))
  (pss_one (ps_ret (pe_dget (hu_of hr) (pv 1) (pv 4) (fun _ _ => rfl))))
  pss_nil))))
  (pss_one (ps_if (pt_cmpR op_gt (pv 2) pe_int (nomark _))
  (pss_one (ps_ret (pe_df D_weighed_long (hr.mono (by first | decide | omega)) (pa_cons (pv 0) (pa_cons (pv 1) pa_nil)))))
  pss_nil)))))))
  pss_never))), ?_⟩)
      · obtain ⟨u, F, d, r, rfl, _⟩ := h
        rfl
      · obtain ⟨u, F, d, r, rfl, hF, hn, hO, hB, hR, hE, hC, hcn, hr2, q⟩ := h
        walk_at "lw i0"
        cases F with
        | whole v =>
          obtain ⟨p, rfl, hp⟩ := hF
          walk_at "lw go"
          refine ⟨_, _, _, _, true, rfl, .ty "tuple", .base (.tup hp), kit_ty (by decide +kernel), ?_⟩
          walk_at "lw go"
          refine ⟨p, _, rfl, .inr (SqT.of hp), ?_⟩
          walk_at "lw go"
          refine iteNo (by intro z; cases z) ?_
          walk_at "lw go"
          refine iteNo (by intro z; cases z) ?_
          walk_at "lw go"
          refine iteS rfl ?_
          walk_at "lw go"
          refine g_tupT (SqT.of hp) rfl ?_
          walk_at "lw go"
          refine ⟨v, -999999999, 999999999, rfl, hO.1, hO.2, ?_⟩
          walk_at "lw go"
          refine ⟨v, rfl, ?_⟩
          walk_at "lw go"
          exact q.new rfl rfl (Same.refl H)
        | px =>
          obtain ⟨p, rfl, hp⟩ := hF
          walk_at "lw go"
          refine ⟨_, _, _, _, true, rfl, .ty "tuple", .base (.tup hp), kit_ty (by decide +kernel), ?_⟩
          walk_at "lw go"
          refine ⟨p, _, rfl, .inr (SqT.of hp), ?_⟩
          walk_at "lw go"
          refine iteNo (by intro z; cases z) ?_
          walk_at "lw go"
          refine iteS rfl ?_
          walk_at "lw go"
          refine g_ixT (SqT.of hp) (v := .str "x") rfl ?_
          walk_at "lw go"
          exact q _ _ (Same.refl H) (G.v_PLACE H)
        | pz =>
          obtain ⟨p, rfl, hp⟩ := hF
          walk_at "lw go"
          refine ⟨_, _, _, _, true, rfl, .ty "tuple", .base (.tup hp), kit_ty (by decide +kernel), ?_⟩
          walk_at "lw go"
          refine ⟨p, _, rfl, .inr (SqT.of hp), ?_⟩
          walk_at "lw go"
          refine iteNo (by intro z; cases z) ?_
          walk_at "lw go"
          refine iteS rfl ?_
          walk_at "lw go"
          refine g_ixT (SqT.of hp) (v := .str "z") rfl ?_
          walk_at "lw go"
          refine g_ixT (SqT.of hp) (v := .str "z") rfl ?_
          walk_at "lw go"
          exact q _ _ (Same.refl H) (G.v_PLACE H)
        | noise s0 l0 =>
          obtain ⟨p, rfl, hp⟩ := hF
          walk_at "lw go"
          refine ⟨_, _, _, _, true, rfl, .ty "tuple", .base (.tup hp), kit_ty (by decide +kernel), ?_⟩
          walk_at "lw go"
          refine ⟨p, _, rfl, .inr (SqT.of hp), ?_⟩
          walk_at "lw go"
          refine iteS rfl ?_
          walk_at "lw go"
          refine g_tupT (SqT.of hp) rfl ?_
          walk_at "lw go"
          refine ⟨_, _, rfl, .inr (G.v_PAIRS H), rfl, rfl, ?_⟩
          walk_at "lw go"
          refine iteF ?_
          walk_at "lw go"
          refine ⟨s0, 0, 1000000000, rfl, hO.1.1, hO.1.2, ?_⟩
          walk_at "lw go"
          refine ⟨l0, 0, 8, rfl, hO.2.1, hO.2.2, ?_⟩
          walk_at "lw go"
          exact q _ _ (Same.refl H) (G.v_NOISE H)
        | over a v =>
          obtain ⟨p, u1, rfl, hp, hF1⟩ := hF
          have hn' : 1 + dep a + 1 ≤ n + 1 := hn
          have ec : cn (expand (.over a v) r) = 1 + cn (expand a r) := rfl
          walk_at "lw go"
          refine ⟨_, _, _, _, true, rfl, .ty "tuple", .base (.tup hp), kit_ty (by decide +kernel), ?_⟩
          walk_at "lw go"
          refine ⟨p, _, rfl, .inr (SqT.of hp), ?_⟩
          walk_at "lw go"
          refine iteS rfl ?_
          walk_at "lw go"
          refine g_tupT (SqT.of hp) rfl ?_
          walk_at "lw go"
          refine ⟨_, _, rfl, .inr (G.v_PAIRS H), rfl, rfl, ?_⟩
          walk_at "lw go"
          refine iteF ?_
          walk_at "lw go"
          refine ⟨v, 1, 1000000000, rfl, hO.2.1, hO.2.2, ?_⟩
          walk_at "lw go"
          refine ⟨u1, a, d, r, rfl, hF1, by omega, hO.1, hB, hR, hE, hC, by omega, by omega, fun t H1 s1 ht => ?_⟩
          walk_at "lw go"
          refine g_tupT ht rfl ?_
          walk_at "lw go"
          exact q.new (by rw [ec]; omega) rfl s1
        | two w a b =>
          obtain ⟨p, u1, u2, rfl, hp, hF1, hF2⟩ := hF
          have hn' : 1 + max (dep a) (dep b) + 1 ≤ n + 1 := hn
          have ec : cn (expand (.two w a b) r) = 1 + (cn (expand a r) + cn (expand b r)) := rfl
          walk_at "lw go"
          refine ⟨_, _, _, _, true, rfl, .ty "tuple", .base (.tup hp), kit_ty (by decide +kernel), ?_⟩
          walk_at "lw go"
          refine ⟨p, _, rfl, .inr (SqT.of hp), ?_⟩
          walk_at "lw go"
          refine iteS rfl ?_
          walk_at "lw go"
          refine g_tupT (SqT.of hp) rfl ?_
          walk_at "lw go"
          refine ⟨_, _, rfl, .inr (G.v_PAIRS H), rfl, rfl, ?_⟩
          rw [pairs_word]
          walk_at "lw go"
          refine iteT ?_
          walk_at "lw go"
          refine ⟨u1, a, d, r, rfl, hF1, by omega, hO.1, hB.1, hR, hE, hC.1, by omega, by omega, fun t1 H1 s1 ht1 => ?_⟩
          walk_at "lw go"
          refine g_tupT ht1 rfl ?_
          walk_at "lw go"
          refine ⟨u2, b, d, r, rfl, hF2.mono (same_tup s1), by omega, hO.2, hB.2, hR, hE.mono s1, hC.2, by omega, by omega, fun t2 H2 s2 ht2 => ?_⟩
          walk_at "lw go"
          refine g_tupT ht2 rfl ?_
          have s12 := s1.trans s2
          have oa := ok_expand a r hO.1 hR
          have ob := ok_expand b r hO.2 hR
          have hm := gr_mul oa ob (by omega) (by omega)
          cases w with
          | times =>
            walk_at "lw go"
            refine ⟨_, _, rfl, ?_⟩
            walk_at "lw go"
            refine q.new (by rw [ec]; omega) ?_ s12
            show _ = min _ _
            split <;> omega
          | _ =>
            walk_at "lw go"
            exact q.new (by rw [ec]; omega) rfl s12
        | nm y =>
          obtain ⟨p, rfl, hp⟩ := hF
          obtain ⟨kvs, hd, hkl, hq⟩ := hE
          obtain ⟨t, a1, a2⟩ := hq y hB
          walk_at "lw go"
          refine ⟨_, _, _, _, true, rfl, .ty "tuple", .base (.tup hp), kit_ty (by decide +kernel), ?_⟩
          walk_at "lw go"
          refine ⟨p, _, rfl, .inr (SqT.of hp), ?_⟩
          walk_at "lw go"
          refine iteNo (by intro z; cases z) ?_
          walk_at "lw go"
          refine iteNo (by intro z; cases z) ?_
          walk_at "lw go"
          refine iteS rfl ?_
          walk_at "lw go"
          refine g_tupT (SqT.of hp) rfl ?_
          walk_at "lw go"
          refine ⟨_, _, _, _, true, rfl, .ty "str", .base (.str _), kit_ty (by decide +kernel), ?_⟩
          walk_at "lw go"
          refine ⟨d, _, rfl, DGet.k (k := Sum.inr y) hd, ?_⟩
          rw [a1]
          refine ⟨true, rfl, iteT ?_⟩
          walk_at "lw go"
          refine ⟨d, .ref t, rfl, a1 ▸ DGet.k (k := Sum.inr y) hd, ?_⟩
          exact q t H (Same.refl H) a2
        | lt x a b =>
          have hF0 := hF
          obtain ⟨p, u1, u2, rfl, hp, hF1, hF2⟩ := hF
          have hn' : 1 + max (dep a) (dep b) + 1 ≤ n + 1 := hn
          walk_at "lw go"
          refine ⟨_, _, _, _, true, rfl, .ty "tuple", .base (.tup hp), kit_ty (by decide +kernel), ?_⟩
          walk_at "lw go"
          refine ⟨p, _, rfl, .inr (SqT.of hp), ?_⟩
          walk_at "lw go"
          refine iteNo (by intro z; cases z) ?_
          walk_at "lw go"
          refine iteNo (by intro z; cases z) ?_
          walk_at "lw go"
          refine iteNo (by intro z; cases z) ?_
          walk_at "lw go"
          rw [decide_eq_true (by show (3 : Int) < ((4 : Nat) : Int); decide)]
          walk_at "lw go"
          exact ⟨_, .lt x a b, d, r, rfl, True.intro, hF0, by simp only [dep]; omega, hO, hB, hR, hE, hC, hcn, by omega, q⟩
        | shift dx dz a =>
          have hF0 := hF
          obtain ⟨p, u1, rfl, hp, hF1⟩ := hF
          have hn' : 1 + dep a + 1 ≤ n + 1 := hn
          walk_at "lw go"
          refine ⟨_, _, _, _, true, rfl, .ty "tuple", .base (.tup hp), kit_ty (by decide +kernel), ?_⟩
          walk_at "lw go"
          refine ⟨p, _, rfl, .inr (SqT.of hp), ?_⟩
          walk_at "lw go"
          refine iteNo (by intro z; cases z) ?_
          walk_at "lw go"
          refine iteNo (by intro z; cases z) ?_
          walk_at "lw go"
          refine iteNo (by intro z; cases z) ?_
          walk_at "lw go"
          rw [decide_eq_true (by show (3 : Int) < ((4 : Nat) : Int); decide)]
          walk_at "lw go"
          exact ⟨_, .shift dx dz a, d, r, rfl, True.intro, hF0, by simp only [dep]; omega, hO, hB, hR, hE, hC, hcn, by omega, q⟩
        | bel a b c e =>
          have hF0 := hF
          obtain ⟨p, u1, u2, u3, u4, rfl, hp, hF1, hF2, hF3, hF4⟩ := hF
          have hn' : 1 + max (max (dep a) (dep b)) (max (dep c) (dep e)) + 1 ≤ n + 1 := hn
          walk_at "lw go"
          refine ⟨_, _, _, _, true, rfl, .ty "tuple", .base (.tup hp), kit_ty (by decide +kernel), ?_⟩
          walk_at "lw go"
          refine ⟨p, _, rfl, .inr (SqT.of hp), ?_⟩
          walk_at "lw go"
          refine iteNo (by intro z; cases z) ?_
          walk_at "lw go"
          refine iteNo (by intro z; cases z) ?_
          walk_at "lw go"
          refine iteNo (by intro z; cases z) ?_
          walk_at "lw go"
          rw [decide_eq_true (by show (3 : Int) < ((5 : Nat) : Int); decide)]
          walk_at "lw go"
          exact ⟨_, .bel a b c e, d, r, rfl, True.intro, hF0, by simp only [dep]; omega, hO, hB, hR, hE, hC, hcn, by omega, q⟩
    exact ⟨W1, long (n + 1) W1⟩
abbrev N_greatest_of : List Str := ["rules", "many", "greatest"]
theorem sc_greatest_of : FnScope N_greatest_of ["rules"] (defScope s_greatest_of) := ⟨rfl, rfl, rfl, by decide +kernel, rfl, by decide +kernel, by decide +kernel⟩
theorem ok_greatest_of (F : FnP K "greatest_of" s_greatest_of f fd) (T : Bi mg) (G : Kn K mg) (D_weighed : Df P w K mg base "weighed" ["field", "lets"] 42 (spW K 20)) : FnOk P w K mg base CX0 43 f fd ["rules"] spGr := by
  refine F.ok sc_greatest_of (fun vs H Q E h => ?_) (fun cdv A outer s H vs Q E hr h => ⟨_, PSs.nox
(pss_cons (ps_try_thru0 (pss_one (ps_asg (pe_df D_weighed (hr.mono (by first | decide | omega)) (pa_cons (pv 0) (pa_cons pe_dnewK pa_nil))) (pg_tup (by rfl) (pgs_cons (pg_name (i := 1) sc_greatest_of.nd rfl (Or.inl rfl)) (pgs_cons (pg_name (i := 2) sc_greatest_of.nd rfl (Or.inl rfl)) pgs_nil))))))
  (pss_cons (ps_if (pt_cmpR op_gt (pv 1) (pe_gI (by rfl) G.c_MOST_FIELDS) (nomark _))
  pss_never
  pss_nil)
  (pss_one (ps_ret (pv 2))))), ?_⟩)
  · obtain ⟨u, F, rfl, _⟩ := h
    rfl
  · obtain ⟨u, F, rfl, hF, hG, q⟩ := h
    walk_at "lw i0"
    have hcn := hG.cn
    have hdp := hG.dep
    walk_at "lw go"
    intro e he
    have s1 := same_new (o := .dK []) he
    walk_at "lw go"
    refine ⟨u, F, e, [], rfl, hF.mono (same_tup s1), by omega, hG.ok, hG.bnd, okR_nil, ⟨[], upd_same, Nat.le_refl _, fun x hx => (nomatch hx)⟩, hG.cok, by omega, by decide, fun p H1 s2 hp => ?_⟩
    walk_at "lw go"
    refine g_tupT hp rfl ?_
    walk_at "lw go"
    refine iteNo (by omega) ?_
    walk_at "lw go"
    exact q _ (s1.trans s2)
/- placed: hands back the number of a field's step -/
abbrev N_placed : List Str := ["field", "dx", "dz", "lets", "made", "word", "one", "step", "part"]
theorem sc_placed : FnScope N_placed ["field", "dx", "dz", "lets", "made"] (defScope s_placed) := ⟨rfl, rfl, rfl, by decide +kernel, rfl, by decide +kernel, by decide +kernel⟩
theorem ok_placed (F : FnP K "placed" s_placed f fd) (T : Bi mg) (G : Kn K mg)  (gm : mg "placed" = some (.ref f)) (kp : PySem.W.keepIn K (.ref f) = true) (bb : Binds K fd ["field", "dx", "dz", "lets", "made"] []) : ∀ n : Nat, FnOk P w K mg base CX0 (n + 1) f fd ["field", "dx", "dz", "lets", "made"] (spPlaced n)
  | 0 => by
    refine F.ok sc_placed (fun vs H Q E h => ?_) (fun cdv A outer s H vs Q E hr h => ?_)
    · obtain ⟨u, F, dx, dz, d, mk, m, r, δ, st, rfl, _⟩ := h
      rfl
    · exact (spPlaced_zero h).elim
  | n + 1 => by
    have D_placed : Df P w K mg base "placed" ["field", "dx", "dz", "lets", "made"] (n + 1) (spPlaced n) := ⟨f, fd, gm, kp, bb, ok_placed F T G  gm kp bb n⟩
    refine F.ok (k := n + 1) sc_placed (fun vs H Q E h => ?_) (fun cdv A outer s H vs Q E hr h => ⟨_, PSs.nox
(pss_cons (ps_set (i := 5) sc_placed.nd rfl (Or.inl rfl) (pe_ix ix_tup (pv 0) pe_int (fun _ _ => rfl)))
  (pss_cons (ps_while PassesOwn.never (PW.pt (pw_or (pt_cmpR op_eq (pv 5) pe_str (nomark _)) (pw_or1 (pt_cmpR op_eq (pv 5) pe_str (nomark _)))))
  (pss_cons (ps_if (pt_cmpR op_eq (pv 5) pe_str (nomark _))
  (pss_cons (ps_set (i := 3) sc_placed.nd rfl (Or.inr rfl) (Dz.pe_dispS (pv 3) (pe_ix ix_tup (pv 0) pe_int (fun _ _ => rfl)) (pe_tup (pa_cons (pe_ix ix_tup (pv 0) pe_int (fun _ _ => rfl)) (pa_cons (pv 3) pa_nil)))))
  (pss_one (ps_set (i := 0) sc_placed.nd rfl (Or.inl rfl) (pe_ix ix_tup (pv 0) pe_int (fun _ _ => rfl)))))
  (pss_one (ps_asg (pe_dget (hu_of hr) (pv 3) (pe_ix ix_tup (pv 0) pe_int (fun _ _ => rfl)) (fun _ _ => rfl)) (pg_tup (by rfl) (pgs_cons (pg_name (i := 0) sc_placed.nd rfl (Or.inl rfl)) (pgs_cons (pg_name (i := 3) sc_placed.nd rfl (Or.inr rfl)) pgs_nil))))))
  (pss_one (ps_set (i := 5) sc_placed.nd rfl (Or.inl rfl) (pe_ix ix_tup (pv 0) pe_int (fun _ _ => rfl))))))
  (pss_cons (ps_if (pt_cmpR op_in_seq (pv 5) (pe_gR (by rfl) G.g_PAIRS) (by rfl))
  (pss_cons (ps_set (i := 6) sc_placed.nd rfl (Or.inl rfl) (pe_df D_placed (hr.mono (by first | decide | omega)) (pa_cons (pe_ix ix_tup (pv 0) pe_int (fun _ _ => rfl)) (pa_cons (pv 1) (pa_cons (pv 2) (pa_cons (pv 3) (pa_cons (pv 4) pa_nil)))))))
  (pss_one (ps_set (i := 7) sc_placed.nd rfl (Or.inl rfl) (pe_tup (pa_cons (pv 5) (pa_cons (pv 6) (pa_cons (pe_df D_placed (hr.mono (by first | decide | omega)) (pa_cons (pe_ix ix_tup (pv 0) pe_int (fun _ _ => rfl)) (pa_cons (pv 1) (pa_cons (pv 2) (pa_cons (pv 3) (pa_cons (pv 4) pa_nil)))))) pa_nil)))))))
  (pss_one (ps_if (pt_cmpR op_eq (pv 5) pe_str (nomark _))
  (pss_one (ps_set (i := 7) sc_placed.nd rfl (Or.inl rfl) (pe_tup (pa_cons (pv 5) (pa_cons (pe_ix ix_tup (pv 0) pe_int (fun _ _ => rfl)) (pa_cons (pe_ix ix_tup (pv 0) pe_int (fun _ _ => rfl)) (pa_cons (pv 1) (pa_cons (pv 2) pa_nil))))))))
  (pss_one (ps_if (pt_cmpR op_eq (pv 5) pe_str (nomark _))
  (pss_one (ps_set (i := 7) sc_placed.nd rfl (Or.inl rfl) (pe_tup (pa_cons (pv 5) (pa_cons (pv 1) pa_nil)))))
  (pss_one (ps_if (pt_cmpR op_eq (pv 5) pe_str (nomark _))
  (pss_one (ps_set (i := 7) sc_placed.nd rfl (Or.inl rfl) (pe_tup (pa_cons (pv 5) (pa_cons (pv 2) pa_nil)))))
  (pss_one (ps_if (pt_cmpR op_eq (pv 5) pe_str (nomark _))
  (pss_one (ps_set (i := 7) sc_placed.nd rfl (Or.inl rfl) (pe_tup (pa_cons (pv 5) (pa_cons (pe_ix ix_tup (pv 0) pe_int (fun _ _ => rfl)) pa_nil)))))
  (pss_one (ps_if (pt_cmpR op_eq (pv 5) pe_str (nomark _))
  (pss_one (ps_set (i := 7) sc_placed.nd rfl (Or.inl rfl) (pe_tup (pa_cons (pv 5) (pa_cons (pe_df D_placed (hr.mono (by first | decide | omega)) (pa_cons (pe_ix ix_tup (pv 0) pe_int (fun _ _ => rfl)) (pa_cons (pv 1) (pa_cons (pv 2) (pa_cons (pv 3) (pa_cons (pv 4) pa_nil)))))) (pa_cons (pe_ix ix_tup (pv 0) pe_int (fun _ _ => rfl)) pa_nil))))))
  (pss_one (ps_if (pt_cmpR op_eq (pv 5) pe_str (nomark _))
  (pss_one (ps_ret (pe_df D_placed (hr.mono (by first | decide | omega)) (pa_cons (pe_ix ix_tup (pv 0) pe_int (fun _ _ => rfl)) (pa_cons (pe_op op_add (pv 1) (pe_ix ix_tup (pv 0) pe_int (fun _ _ => rfl))) (pa_cons (pe_op op_add (pv 2) (pe_ix ix_tup (pv 0) pe_int (fun _ _ => rfl))) (pa_cons (pv 3) (pa_cons (pv 4) pa_nil))))))))
  (pss_one (ps_set (i := 7) sc_placed.nd rfl (Or.inl rfl) (pe_tup (pa_cons (pv 5) (StX.pa_star (pe_lc (own := [("part", 8)]) (g := gName 8) (tt := tYes) rfl sc_placed.nd (pi_tup (pe_slice sl_tup (pv 0) (po_some pe_int) po_none)) (blkOk_by (N := N_placed) (sc := defScope s_placed) (by decide +kernel)) (fun _ _ _ _ _ => pg_name (i := 8) sc_placed.nd rfl (Or.inl rfl)) (fun _ _ _ _ _ => pts_nil) (fun _ _ _ _ _ => (pe_df D_placed (hr.mono (by first | decide | omega)) (pa_cons (pv 8) (pa_cons (pv 1) (pa_cons (pv 2) (pa_cons (pv 3) (pa_cons (pv 4) pa_nil)))))))) pa_nil))))))))))))))))))
  (pss_one (ps_ret (Dz.pe_dsetdT (hu_of hr) (pv 4) (pv 7) (pe_callB call_len_dT (by rfl) T.len (by decide +kernel) (pa_cons (pv 4) pa_nil)) ⟨rfl, rfl, rfl, rfl⟩)))))), ?_⟩)
    · obtain ⟨u, F, dx, dz, d, mk, m, r, δ, st, rfl, _⟩ := h
      rfl
    · obtain ⟨u, F, dx, dz, d, mk, m, r, δ, st, rfl, hF, hE, hB, hn, hmk, hcn, hr2, q⟩ := h
      walk_at "lw i0"
      have fin : ∀ (σ : L2.St) (D : Ends) (H' : Hp) (t : Addr) (st' : List Stp) (s : Stp), σ[4]? = some (some (.ref mk)) → σ[7]? = some (some (.ref t)) → D.rt = Q → Keep mk H H' → H' mk = some (.dT (mkKV st')) → H' t = some (.tup (stepV s)) → st'.length ≤ 900 →
          put st' s = into (expand F r) dx dz st → tRet (Dz.tDSetdT (tVar 4) (tVar 7) (tCB rLenT (tCons (tVar 4) tNil))) D σ H' := by
        intro σ D H' t st' s h4 h7 hD k hm ht hl e
        rw [← e] at q
        refine g_ret ?_
        rw [hD]
        refine ⟨.ref mk, h4, mk, rfl, .inr ⟨_, .inl hm⟩, .ref t, h7, .ref mk, h4, mk, _, rfl, hm, mkKV st', stepK s, t, hm, rfl, by rw [← stepV_eq]; exact ht, by rw [mkKV_len, sizeLine_eq]; omega, ?_⟩
        have hp := mk_put (st := st') (s := s) (P := fun v kvs => Q v (upd H' mk (.dT kvs))) (q _ k.put upd_same)
        rw [mkKV_len]
        exact ⟨fun v hv => by have := hp.1 v hv; rw [upd_self hm] at this; exact this, hp.2⟩
      obtain ⟨p, xs, rfl, hp⟩ := frep_word hF
      walk_at "lw go"
      refine g_ixT (SqT.of hp) (v := .str (wordF F)) (atI_nat (j := 0) (by rfl)) ?_
      walk_at "lw go"
      refine ⟨fun m' σ H' => ∃ (u : V) (F' : Fd) (d' : Addr) (r' : Fm.Env) (δ' : List (Str × Nat)) (m1 : Nat), σ = [some u, some (.int dx), some (.int dz), some (.ref d'), some (.ref mk), some (.str (wordF F')), none, none, none] ∧ FRep F' H' u ∧ EnvR m1 H' d' r' δ' ∧ Bnd F' (r'.map (·.1)) ∧ udep F' δ' = m' ∧ m' ≤ n + 1 ∧
        expand F' r' = expand F r ∧ r'.length + udep F' δ' ≤ 900 ∧ Keep mk H H' ∧ H' mk = some (.dT (mkKV st)), ⟨_, _, F, d, r, δ, m, rfl, hF, hE, hB, rfl, hn, rfl, hr2, Keep.refl, hmk⟩, ?_⟩
      rintro m' σ H1 ⟨u', F', d', r', δ', m1, rfl, hF', hE', hB', hm', hn', he, hr', hk, hmk'⟩
      clear hF hE hB hn hp hr2
      cases F' with
      | lt x a b =>
        obtain ⟨p', u1, u2, rfl, hp', hF1, hF2⟩ := hF'
        have hu : udep (.lt x a b) δ' = 1 + udep b ((x, udep a δ') :: δ') := rfl
        obtain ⟨kvs, hd, hkl⟩ := hE'.dict
        simp only [wordF]
        walk_at "lw go"
        refine ⟨_, fun _ _ w => w, ?_⟩
        walk_at "lw go"
        intro i hi
        walk_at "lw go"
        have s1 := same_new (o := .dK []) hi
        refine ⟨d', kvs, rfl, (ne_of_none hd hi), upd_same, s1 _ _ hd, by rw [sizeLine_eq]; omega, fun i2 hi2 => ?_⟩
        have ni : i ≠ i2 := ne_of_none upd_same hi2
        have s2 : Same H1 (upd (upd (upd H1 i (.dK [])) i (.dK kvs)) i2 (.dK [])) := (same_put s1 hi).trans (same_new hi2)
        have s2i : (upd (upd (upd H1 i (.dK [])) i (.dK kvs)) i2 (.dK [])) i = some (.dK kvs) := by rw [upd_ne ni, upd_same]
        have hi2b : H1 i2 = none := none_back (o := .dK []) hi (same_put s1 hi) hi2
        walk_at "lw go"
        refine g_ixT (SqT.of (s2 _ _ hp')) (v := .str x) (atI_nat (j := 1) (by rfl)) ?_
        walk_at "lw go"
        refine g_ixT (SqT.of (s2 _ _ hp')) (v := u1) (atI_nat (j := 2) (by rfl)) ?_
        walk_at "lw go"
        refine ⟨by show 2 ≤ sizeLine; decide, fun t ht => ?_⟩
        have s3 : Same H1 _ := s2.trans (same_new (o := .tup [u1, .ref d']) ht)
        have nit : i ≠ t := ne_of_none s2i ht
        have nit2 : i2 ≠ t := ne_of_none upd_same ht
        refine ⟨Sum.inr x, rfl, by rw [upd_ne nit]; exact s2i, by rw [upd_ne nit2, upd_same], ?_⟩
        have s4 : Same H1 _ := same_put (o := .dK (putK kvs (Sum.inr x) (.ref t))) (same_put (o := .dK [(Sum.inr x, .ref t)]) s3 hi2b) hi
        walk_at "lw go"
        refine g_ixT (SqT.of (s4 _ _ hp')) (v := u2) (atI_nat (j := 3) (by rfl)) ?_
        walk_at "lw go"
        obtain ⟨p2, xs2, rfl, hp2⟩ := frep_word hF2
        refine g_ixT (SqT.of (s4 _ _ hp2)) (v := .str (wordF b)) (atI_nat (j := 0) (by rfl)) ?_
        walk_at "lw go"
        have ht4 : (upd (upd (upd (upd (upd (upd H1 i (.dK [])) i (.dK kvs)) i2 (.dK [])) t (.tup [u1, .ref d'])) i2 (.dK [(Sum.inr x, .ref t)])) i (.dK (putK kvs (Sum.inr x) (.ref t)))) t = some (.tup [u1, .ref d']) := by
          rw [upd_ne nit.symm, upd_ne nit2.symm, upd_same]
        have k4 : Keep mk H _ := hk.trans (fun c v nc e => s4 _ _ e)
        exact ⟨udep b ((x, udep a δ') :: δ'), by omega, _, b, i, (x, expand a r') :: r', (x, udep a δ') :: δ', m1 + 1, rfl, hF2.mono (same_tup s4), hE'.let_ hd s4 upd_same ht4 hF1 hB'.1, hB'.2, rfl, by omega, he, by simp only [List.length_cons]; omega, k4, s4 _ _ hmk'⟩
      | nm x =>
        obtain ⟨p', rfl, hp'⟩ := hF'
        have hu : udep (.nm x) δ' = 1 + (δ'.lookup x).getD 0 := rfl
        obtain ⟨m2, rfl⟩ : ∃ m2, m1 = m2 + 1 := by
          cases m1 with
          | zero =>
            obtain ⟨_, e1, _⟩ := hE'
            subst e1
            cases hB'
          | succ m2 => exact ⟨m2, rfl⟩
        obtain ⟨kvs, hd, hkl, hq⟩ := hE'
        obtain ⟨t, u2, d2, F2, r2, δ2, a1, a2, a3, a4, a5, a6, a7, a8⟩ := hq x hB'
        simp only [wordF]
        walk_at "lw go"
        refine ⟨_, fun _ _ w => w, ?_⟩
        walk_at "lw go"
        refine g_ixT (SqT.of hp') (v := .str x) (atI_nat (j := 1) (by rfl)) ?_
        refine ⟨d', .ref t, rfl, a1 ▸ DGet.k (k := Sum.inr x) hd, ?_⟩
        walk_at "lw go"
        refine g_tupT (SqT.of a2) rfl ?_
        walk_at "lw go"
        obtain ⟨p2, xs2, rfl, hp2⟩ := frep_word a3
        refine g_ixT (SqT.of hp2) (v := .str (wordF F2)) (atI_nat (j := 0) (by rfl)) ?_
        walk_at "lw go"
        exact ⟨udep F2 δ2, by omega, _, F2, d2, r2, δ2, m2, rfl, a3, a4, a5, rfl, by omega, a6.trans he, by omega, hk, hmk'⟩
      | whole v =>
        obtain ⟨p', rfl, hp'⟩ := hF'
        simp only [wordF]
        walk_at "lw go"
        refine ⟨_, _, rfl, .inr (G.v_PAIRS _), rfl, rfl, ?_⟩
        walk_at "lw go"
        refine iteF ?_
        walk_at "lw go"
        refine g_ixT (SqT.of hp') (v := .int v) (atI_nat (j := 1) (by rfl)) ?_
        walk_at "lw go"
        refine ⟨by show 2 ≤ sizeLine; decide, fun t ht => ?_⟩
        walk_at "lw go"
        exact fin _ _ _ t st (.whole v) rfl rfl rfl (hk.new ht) (by rw [upd_ne (ne_of_none hmk' ht)]; exact hmk') upd_same (by omega) (by rw [← he]; rfl)
      | px =>
        obtain ⟨p', rfl, hp'⟩ := hF'
        simp only [wordF]
        walk_at "lw go"
        refine ⟨_, _, rfl, .inr (G.v_PAIRS _), rfl, rfl, ?_⟩
        walk_at "lw go"
        refine iteF ?_
        walk_at "lw go"
        refine ⟨by show 2 ≤ sizeLine; decide, fun t ht => ?_⟩
        walk_at "lw go"
        exact fin _ _ _ t st (.px dx) rfl rfl rfl (hk.new ht) (by rw [upd_ne (ne_of_none hmk' ht)]; exact hmk') upd_same (by omega) (by rw [← he]; rfl)
      | pz =>
        obtain ⟨p', rfl, hp'⟩ := hF'
        simp only [wordF]
        walk_at "lw go"
        refine ⟨_, _, rfl, .inr (G.v_PAIRS _), rfl, rfl, ?_⟩
        walk_at "lw go"
        refine iteF ?_
        walk_at "lw go"
        refine ⟨by show 2 ≤ sizeLine; decide, fun t ht => ?_⟩
        walk_at "lw go"
        exact fin _ _ _ t st (.pz dz) rfl rfl rfl (hk.new ht) (by rw [upd_ne (ne_of_none hmk' ht)]; exact hmk') upd_same (by omega) (by rw [← he]; rfl)
      | noise s0 l0 =>
        obtain ⟨p', rfl, hp'⟩ := hF'
        simp only [wordF]
        walk_at "lw go"
        refine ⟨_, _, rfl, .inr (G.v_PAIRS _), rfl, rfl, ?_⟩
        walk_at "lw go"
        refine iteF ?_
        walk_at "lw go"
        refine g_ixT (SqT.of hp') (v := .int s0) (atI_nat (j := 1) (by rfl)) ?_
        walk_at "lw go"
        refine g_ixT (SqT.of hp') (v := .int l0) (atI_nat (j := 2) (by rfl)) ?_
        walk_at "lw go"
        refine ⟨by show 5 ≤ sizeLine; decide, fun t ht => ?_⟩
        walk_at "lw go"
        exact fin _ _ _ t st (.noise s0 l0 dx dz) rfl rfl rfl (hk.new ht) (by rw [upd_ne (ne_of_none hmk' ht)]; exact hmk') upd_same (by omega) (by rw [← he]; rfl)
      | shift ex ez a =>
        obtain ⟨p', u1, rfl, hp', hF1⟩ := hF'
        have hu : udep (.shift ex ez a) δ' = 1 + udep a δ' := rfl
        have hc : cn (expand F r) = 1 + cn (expand a r') := by rw [← he]; rfl
        simp only [wordF]
        walk_at "lw go"
        refine ⟨_, _, rfl, .inr (G.v_PAIRS _), rfl, rfl, ?_⟩
        walk_at "lw go"
        refine iteF ?_
        walk_at "lw go"
        refine g_ixT (SqT.of hp') (v := u1) (atI_nat (j := 3) (by rfl)) ?_
        walk_at "lw go"
        refine g_ixT (SqT.of hp') (v := .int ex) (atI_nat (j := 1) (by rfl)) ?_
        walk_at "lw go"
        refine g_ixT (SqT.of hp') (v := .int ez) (atI_nat (j := 2) (by rfl)) ?_
        walk_at "lw go"
        refine ⟨u1, a, dx + ex, dz + ez, d', mk, m1, r', δ', st, rfl, hF1, hE', hB', by omega, hmk', by omega, by omega, fun H2 k2 h2 => ?_⟩
        have e2 : into (expand F r) dx dz st = into (expand a r') (dx + ex) (dz + ez) st := by rw [← he]; rfl
        rw [e2] at q
        exact q H2 (hk.trans k2) h2
      | over a v =>
        obtain ⟨p', u1, rfl, hp', hF1⟩ := hF'
        have hu : udep (.over a v) δ' = 1 + udep a δ' := rfl
        have hc : cn (expand F r) = 1 + cn (expand a r') := by rw [← he]; rfl
        simp only [wordF]
        walk_at "lw go"
        refine ⟨_, _, rfl, .inr (G.v_PAIRS _), rfl, rfl, ?_⟩
        walk_at "lw go"
        refine iteF ?_
        walk_at "lw go"
        refine g_ixT (SqT.of hp') (v := u1) (atI_nat (j := 1) (by rfl)) ?_
        walk_at "lw go"
        refine ⟨u1, a, dx, dz, d', mk, m1, r', δ', st, rfl, hF1, hE', hB', by omega, hmk', by omega, by omega, fun H2 k2 h2 => ?_⟩
        walk_at "lw go"
        have il := (into_ok (expand a r') dx dz st).len
        refine g_ixT (SqT.of (keepT_tup k2 hmk' _ _ hp')) (v := .int v) (atI_nat (j := 2) (by rfl)) ?_
        walk_at "lw go"
        refine ⟨by show 3 ≤ sizeLine; decide, fun t ht => ?_⟩
        walk_at "lw go"
        exact fin _ _ _ t _ (.over (into (expand a r') dx dz st).2 v) rfl rfl rfl ((hk.trans k2).new ht) (by rw [upd_ne (ne_of_none h2 ht)]; exact h2) upd_same (by omega) (by rw [← he]; rfl)
      | two c a b =>
        obtain ⟨p', u1, u2, rfl, hp', hF1, hF2⟩ := hF'
        have hu : udep (.two c a b) δ' = 1 + max (udep a δ') (udep b δ') := rfl
        have hc : cn (expand F r) = 1 + (cn (expand a r') + cn (expand b r')) := by rw [← he]; rfl
        have ne1 : decide (c.word = "let") = false := word_ne (by decide +kernel) c
        have ne2 : decide (c.word = "name") = false := word_ne (by decide +kernel) c
        simp only [wordF]
        walk_at "lw go"
        refine ⟨_, _, rfl, .inr (G.v_PAIRS _), rfl, rfl, ?_⟩
        rw [pairs_word]
        walk_at "lw go"
        refine iteT ?_
        walk_at "lw go"
        refine g_ixT (SqT.of hp') (v := u1) (atI_nat (j := 1) (by rfl)) ?_
        walk_at "lw go"
        refine ⟨u1, a, dx, dz, d', mk, m1, r', δ', st, rfl, hF1, hE', hB'.1, by omega, hmk', by omega, by omega, fun H2 k2 h2 => ?_⟩
        walk_at "lw go"
        have il := (into_ok (expand a r') dx dz st).len
        have t2 := keepT_tup k2 hmk'
        refine g_ixT (SqT.of (t2 _ _ hp')) (v := u2) (atI_nat (j := 2) (by rfl)) ?_
        walk_at "lw go"
        refine ⟨u2, b, dx, dz, d', mk, m1, r', δ', (into (expand a r') dx dz st).1, rfl, hF2.mono t2, envR_keep k2 hmk' hE', hB'.2, by omega, h2, by omega, by omega, fun H3 k3 h3 => ?_⟩
        walk_at "lw go"
        have il2 := (into_ok (expand b r') dx dz (into (expand a r') dx dz st).1).len
        refine ⟨by show 3 ≤ sizeLine; decide, fun t ht => ?_⟩
        walk_at "lw go"
        exact fin _ _ _ t _ (.two c (into (expand a r') dx dz st).2 (into (expand b r') dx dz (into (expand a r') dx dz st).1).2) rfl rfl rfl (((hk.trans k2).trans k3).new ht) (by rw [upd_ne (ne_of_none h3 ht)]; exact h3) upd_same (by omega) (by rw [← he]; rfl)
      | bel b1 b2 b3 b4 =>
        obtain ⟨p', u1, u2, u3, u4, rfl, hp', hF1, hF2, hF3, hF4⟩ := hF'
        have hu : udep (.bel b1 b2 b3 b4) δ' = 1 + max (max (udep b1 δ') (udep b2 δ')) (max (udep b3 δ') (udep b4 δ')) := rfl
        have hc : cn (expand F r) = 1 + (cn (expand b1 r') + (cn (expand b2 r') + (cn (expand b3 r') + cn (expand b4 r')))) := by rw [← he]; rfl
        simp only [wordF]
        walk_at "lw go"
        refine ⟨_, _, rfl, .inr (G.v_PAIRS _), rfl, rfl, ?_⟩
        walk_at "lw go"
        refine iteF ?_
        walk_at "lw go"
        obtain ⟨q1, e1⟩ : ∃ q1, into (expand b1 r') dx dz st = q1 := ⟨_, rfl⟩
        obtain ⟨q2, e2⟩ : ∃ q2, into (expand b2 r') dx dz q1.1 = q2 := ⟨_, rfl⟩
        obtain ⟨q3, e3⟩ : ∃ q3, into (expand b3 r') dx dz q2.1 = q3 := ⟨_, rfl⟩
        obtain ⟨q4, e4⟩ : ∃ q4, into (expand b4 r') dx dz q3.1 = q4 := ⟨_, rfl⟩
        have i1 := (into_ok (expand b1 r') dx dz st).len
        have i2 := (into_ok (expand b2 r') dx dz q1.1).len
        have i3 := (into_ok (expand b3 r') dx dz q2.1).len
        have i4 := (into_ok (expand b4 r') dx dz q3.1).len
        rw [e1] at i1
        rw [e2] at i2
        rw [e3] at i3
        rw [e4] at i4
        refine g_slT (SqT.of hp') cut1T_ok fun t ht => ?_
        rw [cut1T]
        have k1 : Keep mk H1 (upd H1 t (.tup [u1, u2, u3, u4])) := Keep.refl.new ht
        have mkt : mk ≠ t := ne_of_none hmk' ht
        have hmk2 : (upd H1 t (.tup [u1, u2, u3, u4])) mk = some (.dT (mkKV st)) := by rw [upd_ne mkt]; exact hmk'
        refine ⟨t, rfl, ⟨_, SqT.of upd_same⟩, fun D hD => ?_⟩
        have mkD : mk ≠ D := ne_of_none hmk2 hD
        have tD : t ≠ D := ne_of_none upd_same hD
        have hD1 : H1 D = none := none_back (o := .tup [u1, u2, u3, u4]) ht (same_new ht) hD
        refine lc_tup (xs := [u1, u2, u3, u4]) (fun i H' => Keep mk H1 H' ∧ H' t = some (.tup [u1, u2, u3, u4]) ∧ H' mk = some (.dT (mkKV (([st, q1.1, q2.1, q3.1, q4.1] : List (List Stp)).getD i []))) ∧ H' D = some (.lst ((([q1.2, q2.2, q3.2, q4.2] : List Nat).take i).map fun z : Nat => V.int (z : Int))))
          ⟨k1.new hD, by rw [upd_ne tD, upd_same], by rw [upd_ne mkD]; exact hmk2, upd_same⟩ (fun i H' _ ⟨_, h, _⟩ => SqT.of h) ?_ ?_
        · rintro i y H' hi ⟨kH, htH, hmH, hDH⟩
          obtain ⟨B, hB1, hB2, hB3, hB4, hB5, hB6, hi4⟩ : ∃ B : Fd, FRep B H1 y ∧ udep B δ' + 1 ≤ udep (.bel b1 b2 b3 b4) δ' ∧ Bnd B (r'.map (·.1)) ∧ (([st, q1.1, q2.1, q3.1, q4.1] : List (List Stp)).getD i []).length + cn (expand B r') ≤ 900 ∧
              ([st, q1.1, q2.1, q3.1, q4.1] : List (List Stp)).getD (i + 1) [] = (into (expand B r') dx dz (([st, q1.1, q2.1, q3.1, q4.1] : List (List Stp)).getD i [])).1 ∧
              ([q1.2, q2.2, q3.2, q4.2] : List Nat)[i]? = some (into (expand B r') dx dz (([st, q1.1, q2.1, q3.1, q4.1] : List (List Stp)).getD i [])).2 ∧ i < 4 := by
            match i, hi with
            | 0, hi => cases Option.some.inj hi; exact ⟨b1, hF1, by omega, hB'.1, by show st.length + _ ≤ 900; omega, by show q1.1 = _; rw [← e1]; rfl, by show some q1.2 = _; rw [← e1]; rfl, by omega⟩
            | 1, hi => cases Option.some.inj hi; exact ⟨b2, hF2, by omega, hB'.2.1, by show q1.1.length + _ ≤ 900; omega, by show q2.1 = _; rw [← e2]; rfl, by show some q2.2 = _; rw [← e2]; rfl, by omega⟩
            | 2, hi => cases Option.some.inj hi; exact ⟨b3, hF3, by omega, hB'.2.2.1, by show q2.1.length + _ ≤ 900; omega, by show q3.1 = _; rw [← e3]; rfl, by show some q3.2 = _; rw [← e3]; rfl, by omega⟩
            | 3, hi => cases Option.some.inj hi; exact ⟨b4, hF4, by omega, hB'.2.2.2, by show q3.1.length + _ ≤ 900; omega, by show q4.1 = _; rw [← e4]; rfl, by show some q4.2 = _; rw [← e4]; rfl, by omega⟩
            | k + 4, hi => cases hi
          walk_at "lw go"
          refine ⟨rfl, g_yes (iteT ?_)⟩
          walk_at "lw go"
          refine ⟨y, B, dx, dz, d', mk, m1, r', δ', _, rfl, hB1.mono (keepT_tup kH hmk'), envR_keep kH hmk' hE', hB3, by omega, hmH, hB4, by omega, fun H2 k2 h2 => ?_⟩
          have hD2 := k2 _ _ mkD.symm hDH
          refine ⟨_, hD2, by rw [List.length_map, List.length_take]; exact small1000 (by omega), ?_, ?_, ?_, ?_⟩
          · exact fun c u nc e => by rw [upd_ne (ne_of_none e hD1)]; exact (kH.trans k2) c u nc e
          · rw [upd_ne tD]; exact keepT_tup k2 hmH _ _ htH
          · rw [upd_ne mkD, h2, hB5]
          · rw [upd_same, List.take_add_one, hB6, List.map_append]
            rfl
        rintro H' ⟨kH, htH, hmH, hDH⟩
        walk_at "lw go"
        refine ⟨D, _, rfl, .inr (SqL.of hDH), ?_⟩
        walk_at "lw go"
        refine ⟨by show 5 ≤ sizeLine; decide, fun t2 ht2 => ?_⟩
        walk_at "lw go"
        exact fin _ _ _ t2 q4.1 (.bel q1.2 q2.2 q3.2 q4.2) rfl rfl rfl ((hk.trans kH).new ht2) (by rw [upd_ne (ne_of_none hmH ht2)]; exact hmH) upd_same (by omega) (by rw [← he]; show _ = into (.bel _ _ _ _) dx dz st; unfold into; simp only [e1, e2, e3, e4])
abbrev N_below_range : List Str := ["parts", "one", "other", "then", "otherwise"]
theorem sc_below_range : FnScope N_below_range ["parts"] (defScope s_below_range) := ⟨rfl, rfl, rfl, by decide +kernel, rfl, by decide +kernel, by decide +kernel⟩
theorem ok_below_range (F : FnP K "below_range" s_below_range f fd) (T : Bi mg) (G : Kn K mg)  : FnOk P w K mg base CX0 1 f fd ["parts"] spBelw := by
  refine F.ok sc_below_range (fun vs H Q E h => ?_) (fun cdv A outer s H vs Q E hr h => ⟨_, PSs.nox
(pss_cons (ps_asg (pv 0) (pg_lst (by rfl) (pgs_cons (pg_name (i := 1) sc_below_range.nd rfl (Or.inl rfl)) (pgs_cons (pg_name (i := 2) sc_below_range.nd rfl (Or.inl rfl)) (pgs_cons (pg_name (i := 3) sc_below_range.nd rfl (Or.inl rfl)) (pgs_cons (pg_name (i := 4) sc_below_range.nd rfl (Or.inl rfl)) pgs_nil))))))
  (pss_cons (ps_if (pt_cmpR op_lt (pe_ix ix_tup (pv 1) pe_int (fun _ _ => rfl)) (pe_ix ix_tup (pv 2) pe_int (fun _ _ => rfl)) (nomark _))
  (pss_one (ps_ret (pv 3)))
  pss_nil)
  (pss_cons (ps_if (pt_cmpR op_ge (pe_ix ix_tup (pv 1) pe_int (fun _ _ => rfl)) (pe_ix ix_tup (pv 2) pe_int (fun _ _ => rfl)) (nomark _))
  (pss_one (ps_ret (pv 4)))
  pss_nil)
  (pss_one (ps_ret (pe_tup (pa_cons (pe_callB (call_min2 rfl) (by rfl) T.min (by decide +kernel) (pa_cons (pe_ix ix_tup (pv 3) pe_int (fun _ _ => rfl)) (pa_cons (pe_ix ix_tup (pv 4) pe_int (fun _ _ => rfl)) pa_nil))) (pa_cons (pe_callB (call_max2 rfl) (by rfl) T.max (by decide +kernel) (pa_cons (pe_ix ix_tup (pv 3) pe_int (fun _ _ => rfl)) (pa_cons (pe_ix ix_tup (pv 4) pe_int (fun _ _ => rfl)) pa_nil))) pa_nil)))))))), ?_⟩)
  · obtain ⟨l, p1, p2, p3, p4, a, b, c, d, rfl, _⟩ := h
    rfl
  · obtain ⟨l, p1, p2, p3, p4, a, b, c, d, rfl, hl, h1, h2, h3, h4, q⟩ := h
    walk_at "lw i0"
    walk_at "lw go"
    refine Pf.g_lstT (SqL.of hl) rfl ?_
    walk_at "lw go"
    refine g_ixT (SqT.of h1) (v := .int a.2) (atI_nat (j := 1) (by rfl)) ?_
    walk_at "lw go"
    refine g_ixT (SqT.of h2) (v := .int b.1) (atI_nat (j := 0) (by rfl)) ?_
    walk_at "lw go"
    refine g_ite (fun hlt => ?_) (fun hlt => ?_)
    · walk_at "lw go"
      have e : belR a b c d = c := if_pos hlt
      rw [e] at q
      exact q _ _ (Same.refl H) h3
    · walk_at "lw go"
      refine g_ixT (SqT.of h1) (v := .int a.1) (atI_nat (j := 0) (by rfl)) ?_
      walk_at "lw go"
      refine g_ixT (SqT.of h2) (v := .int b.2) (atI_nat (j := 1) (by rfl)) ?_
      walk_at "lw go"
      refine g_ite (fun hge => ?_) (fun hge => ?_)
      · walk_at "lw go"
        have e : belR a b c d = d := by unfold belR; rw [if_neg hlt, if_pos hge]
        rw [e] at q
        exact q _ _ (Same.refl H) h4
      · walk_at "lw go"
        refine g_ixT (SqT.of h3) (v := .int c.1) (atI_nat (j := 0) (by rfl)) ?_
        walk_at "lw go"
        refine g_ixT (SqT.of h4) (v := .int d.1) (atI_nat (j := 0) (by rfl)) ?_
        walk_at "lw go"
        refine ⟨_, _, rfl, ?_⟩
        walk_at "lw go"
        refine g_ixT (SqT.of h3) (v := .int c.2) (atI_nat (j := 1) (by rfl)) ?_
        walk_at "lw go"
        refine g_ixT (SqT.of h4) (v := .int d.2) (atI_nat (j := 1) (by rfl)) ?_
        walk_at "lw go"
        refine ⟨_, _, rfl, ?_⟩
        walk_at "lw go"
        have e : belR a b c d = (min c.1 d.1, max c.2 d.2) := by unfold belR; rw [if_neg hlt, if_neg hge]
        rw [e] at q
        exact q.new (by show _ = min _ _; split <;> omega) (by show _ = max _ _; split <;> omega) (Same.refl H)
abbrev N_joined_range : List Str := ["word", "one", "other", "low", "high", "least", "most", "products"]
theorem sc_joined_range : FnScope N_joined_range ["word", "one", "other"] (defScope s_joined_range) := ⟨rfl, rfl, rfl, by decide +kernel, rfl, by decide +kernel, by decide +kernel⟩
theorem ok_joined_range (F : FnP K "joined_range" s_joined_range f fd) (T : Bi mg) (G : Kn K mg)  : FnOk P w K mg base CX0 1 f fd ["word", "one", "other"] spJoin := by
  refine F.ok sc_joined_range (fun vs H Q E h => ?_) (fun cdv A outer s H vs Q E hr h => ⟨_, PSs.nox
(pss_cons (ps_asg (pv 1) (pg_tup (by rfl) (pgs_cons (pg_name (i := 3) sc_joined_range.nd rfl (Or.inl rfl)) (pgs_cons (pg_name (i := 4) sc_joined_range.nd rfl (Or.inl rfl)) pgs_nil))))
  (pss_cons (ps_asg (pv 2) (pg_tup (by rfl) (pgs_cons (pg_name (i := 5) sc_joined_range.nd rfl (Or.inl rfl)) (pgs_cons (pg_name (i := 6) sc_joined_range.nd rfl (Or.inl rfl)) pgs_nil))))
  (pss_cons (ps_if (pt_cmpR op_eq (pv 0) pe_str (nomark _))
  (pss_one (ps_ret (pe_tup (pa_cons (pe_op op_add (pv 3) (pv 5)) (pa_cons (pe_op op_add (pv 4) (pv 6)) pa_nil)))))
  pss_nil)
  (pss_cons (ps_if (pt_cmpR op_eq (pv 0) pe_str (nomark _))
  (pss_one (ps_ret (pe_tup (pa_cons (pe_op op_sub (pv 3) (pv 6)) (pa_cons (pe_op op_sub (pv 4) (pv 5)) pa_nil)))))
  pss_nil)
  (pss_cons (ps_if (pt_cmpR op_eq (pv 0) pe_str (nomark _))
  (pss_one (ps_ret (pe_tup (pa_cons (pe_ifExp (pt_cmpR op_lt (pv 3) (pv 5) (nomark _)) (pv 3) (pv 5)) (pa_cons (pe_ifExp (pt_cmpR op_lt (pv 4) (pv 6) (nomark _)) (pv 4) (pv 6)) pa_nil)))))
  pss_nil)
  (pss_cons (ps_if (pt_cmpR op_eq (pv 0) pe_str (nomark _))
  (pss_one (ps_ret (pe_tup (pa_cons (pe_ifExp (pt_cmpR op_gt (pv 3) (pv 5) (nomark _)) (pv 3) (pv 5)) (pa_cons (pe_ifExp (pt_cmpR op_gt (pv 4) (pv 6) (nomark _)) (pv 4) (pv 6)) pa_nil)))))
  pss_nil)
  (pss_cons (ps_set (i := 7) sc_joined_range.nd rfl (Or.inl rfl) (pe_tup (pa_cons (pe_op op_mulW (pv 3) (pv 5)) (pa_cons (pe_op op_mulW (pv 3) (pv 6)) (pa_cons (pe_op op_mulW (pv 4) (pv 5)) (pa_cons (pe_op op_mulW (pv 4) (pv 6)) pa_nil))))))
  (pss_one (ps_ret (pe_tup (pa_cons (pe_callB (Dz.cr_minT rfl) (by rfl) T.min (by decide +kernel) (pa_cons (pv 7) pa_nil)) (pa_cons (pe_callB (Dz.cr_maxT rfl) (by rfl) T.max (by decide +kernel) (pa_cons (pv 7) pa_nil)) pa_nil)))))))))))), ?_⟩)
  · obtain ⟨w, p1, p2, a, b, rfl, _⟩ := h
    rfl
  · obtain ⟨w, p1, p2, a, b, rfl, h1, h2, hm, q⟩ := h
    walk_at "lw i0"
    walk_at "lw go"
    refine g_tupT (SqT.of h1) rfl ?_
    walk_at "lw go"
    refine g_tupT (SqT.of h2) rfl ?_
    cases w with
    | plus => walk_at "lw go"; exact q.new rfl rfl (Same.refl H)
    | less => walk_at "lw go"; exact q.new rfl rfl (Same.refl H)
    | least =>
      walk_at "lw go"
      refine g_ite (fun h1 => ?_) (fun h1 => ?_) <;>
        (walk_at "lw go"; refine g_ite (fun h2 => ?_) (fun h2 => ?_) <;> (walk_at "lw go"; exact q.new (by show _ = min _ _; omega) (by show _ = min _ _; omega) (Same.refl H)))
    | most =>
      walk_at "lw go"
      refine g_ite (fun h1 => ?_) (fun h1 => ?_) <;>
        (walk_at "lw go"; refine g_ite (fun h2 => ?_) (fun h2 => ?_) <;> (walk_at "lw go"; exact q.new (by show _ = max _ _; omega) (by show _ = max _ _; omega) (Same.refl H)))
    | times =>
      obtain ⟨m1, m2, m3, m4⟩ := hm rfl
      walk_at "lw go"
      refine ⟨by show 4 ≤ sizeLine; decide, fun t ht => ?_⟩
      walk_at "lw go"
      refine ⟨t, [a.1 * b.1, a.1 * b.2, a.2 * b.1, a.2 * b.2], rfl, SqT.of upd_same, by show 0 < 4; decide, fun m hm1 hle => ?_⟩
      walk_at "lw go"
      refine ⟨t, [a.1 * b.1, a.1 * b.2, a.2 * b.1, a.2 * b.2], rfl, SqT.of upd_same, by show 0 < 4; decide, fun m' hm' hle' => ?_⟩
      walk_at "lw go"
      exact q.new (Pf.mn4_of hm1 hle) (Pf.mx4_of hm' hle') (same_new ht)
abbrev N_ranges_of : List Str := ["some", "seed", "box", "x0", "z0", "x1", "z1", "ranges", "step", "word", "dx", "dz", "found", "low", "high", "number"]
theorem sc_ranges_of : FnScope N_ranges_of ["some", "seed", "box"] (defScope s_ranges_of) := ⟨rfl, rfl, rfl, by decide +kernel, rfl, by decide +kernel, by decide +kernel⟩
theorem ok_ranges_of (F : FnP K "ranges_of" s_ranges_of f fd) (T : Bi mg) (G : Kn K mg) (D_noise_range : Df P w K mg base "noise_range" ["seed", "salt", "log", "box"] 3 spNRx) (D_below_range : Df P w K mg base "below_range" ["parts"] 1 spBelw) (D_joined_range : Df P w K mg base "joined_range" ["word", "one", "other"] 1 spJoin) : FnOk P w K mg base CX0 4 f fd ["some", "seed", "box"] (spRgs K) := by
  refine F.ok sc_ranges_of (fun vs H Q E h => ?_) (fun cdv A outer s H vs Q E hr h => ⟨_, PSs.nox
(pss_cons (ps_asg (pv 2) (pg_tup (by rfl) (pgs_cons (pg_name (i := 3) sc_ranges_of.nd rfl (Or.inl rfl)) (pgs_cons (pg_name (i := 4) sc_ranges_of.nd rfl (Or.inl rfl)) (pgs_cons (pg_name (i := 5) sc_ranges_of.nd rfl (Or.inl rfl)) (pgs_cons (pg_name (i := 6) sc_ranges_of.nd rfl (Or.inl rfl)) pgs_nil))))))
  (pss_cons (ps_set (i := 7) sc_ranges_of.nd rfl (Or.inr rfl) (pe_lst pa_nil))
  (pss_cons (ps_for PassesOwn.never rfl (pi_list (pv 0)) (pg_name (i := 8) sc_ranges_of.nd rfl (Or.inl rfl))
  (pss_cons (ps_set (i := 9) sc_ranges_of.nd rfl (Or.inl rfl) (pe_ix ix_tup (pv 8) pe_int (fun _ _ => rfl)))
  (pss_cons (ps_if (pt_cmpR op_eq (pv 9) pe_str (nomark _))
  (pss_cons (ps_par (i := 10) (j := 11) rfl sc_ranges_of.nd rfl rfl (by decide) rfl rfl (pa_cons (pe_ix ix_tup (pv 8) pe_int (fun _ _ => rfl)) (pa_cons (pe_ix ix_tup (pv 8) pe_int (fun _ _ => rfl)) pa_nil)) rfl)
  (pss_one (ps_set (i := 12) sc_ranges_of.nd rfl (Or.inl rfl) (pe_df D_noise_range (hr.mono (by first | decide | omega)) (pa_cons (pv 1) (pa_cons (pe_ix ix_tup (pv 8) pe_int (fun _ _ => rfl)) (pa_cons (pe_ix ix_tup (pv 8) pe_int (fun _ _ => rfl)) (pa_cons (pe_tup (pa_cons (pe_op op_add (pv 3) (pv 10)) (pa_cons (pe_op op_add (pv 4) (pv 11)) (pa_cons (pe_op op_add (pv 5) (pv 10)) (pa_cons (pe_op op_add (pv 6) (pv 11)) pa_nil))))) pa_nil))))))))
  (pss_one (ps_if (pt_cmpR op_eq (pv 9) pe_str (nomark _))
  (pss_one (ps_set (i := 12) sc_ranges_of.nd rfl (Or.inl rfl) (pe_tup (pa_cons (pe_ix ix_tup (pv 8) pe_int (fun _ _ => rfl)) (pa_cons (pe_ix ix_tup (pv 8) pe_int (fun _ _ => rfl)) pa_nil)))))
  (pss_one (ps_if (pt_cmpR op_eq (pv 9) pe_str (nomark _))
  (pss_one (ps_set (i := 12) sc_ranges_of.nd rfl (Or.inl rfl) (pe_tup (pa_cons (pe_op op_add (pv 3) (pe_ix ix_tup (pv 8) pe_int (fun _ _ => rfl))) (pa_cons (pe_op op_add (pv 5) (pe_ix ix_tup (pv 8) pe_int (fun _ _ => rfl))) pa_nil)))))
  (pss_one (ps_if (pt_cmpR op_eq (pv 9) pe_str (nomark _))
  (pss_one (ps_set (i := 12) sc_ranges_of.nd rfl (Or.inl rfl) (pe_tup (pa_cons (pe_op op_add (pv 4) (pe_ix ix_tup (pv 8) pe_int (fun _ _ => rfl))) (pa_cons (pe_op op_add (pv 6) (pe_ix ix_tup (pv 8) pe_int (fun _ _ => rfl))) pa_nil)))))
  (pss_one (ps_if (pt_cmpR op_eq (pv 9) pe_str (nomark _))
  (pss_cons (ps_asg (pe_ix ix_list (pv 7) (pe_ix ix_tup (pv 8) pe_int (fun _ _ => rfl)) (fun _ _ => rfl)) (pg_tup (by rfl) (pgs_cons (pg_name (i := 13) sc_ranges_of.nd rfl (Or.inl rfl)) (pgs_cons (pg_name (i := 14) sc_ranges_of.nd rfl (Or.inl rfl)) pgs_nil))))
  (pss_one (ps_set (i := 12) sc_ranges_of.nd rfl (Or.inl rfl) (pe_tup (pa_cons (pe_op op_fdivW (pv 13) (pe_ix ix_tup (pv 8) pe_int (fun _ _ => rfl))) (pa_cons (pe_op op_fdivW (pv 14) (pe_ix ix_tup (pv 8) pe_int (fun _ _ => rfl))) pa_nil))))))
  (pss_one (ps_if (pt_cmpR op_eq (pv 9) pe_str (nomark _))
  (pss_one (ps_set (i := 12) sc_ranges_of.nd rfl (Or.inl rfl) (pe_df D_below_range (hr.mono (by first | decide | omega)) (pa_cons (pe_lc (own := [("number", 15)]) (g := gName 15) (tt := tYes) rfl sc_ranges_of.nd (pi_tup (pe_slice sl_tup (pv 8) (po_some pe_int) po_none)) (blkOk_by (N := N_ranges_of) (sc := defScope s_ranges_of) (by decide +kernel)) (fun _ _ _ _ _ => pg_name (i := 15) sc_ranges_of.nd rfl (Or.inl rfl)) (fun _ _ _ _ _ => pts_nil) (fun _ _ _ _ _ => (pe_ix (ix_listK (K := K)) (pv 7) (pv 15) (fun _ _ => rfl)))) pa_nil))))
  (pss_one (ps_set (i := 12) sc_ranges_of.nd rfl (Or.inl rfl) (pe_df D_joined_range (hr.mono (by first | decide | omega)) (pa_cons (pv 9) (pa_cons (pe_ix ix_list (pv 7) (pe_ix ix_tup (pv 8) pe_int (fun _ _ => rfl)) (fun _ _ => rfl)) (pa_cons (pe_ix ix_list (pv 7) (pe_ix ix_tup (pv 8) pe_int (fun _ _ => rfl)) (fun _ _ => rfl)) pa_nil)))))))))))))))))
  (pss_one (ps_expr (pe_bm PySem.F.plainAttrs_list PySem.F.slot_list_append PySem.F.type_list_append mt_append (pv 7) (pa_cons (pv 12) pa_nil)))))))
  (pss_one (ps_ret (pv 7)))))), ?_⟩)
  · obtain ⟨a, b, ws, st, g, x0, z0, x1, z1, rfl, _⟩ := h
    rfl
  · obtain ⟨a, b, ws, st, g, x0, z0, x1, z1, rfl, hSq, hS, hOk, hOs, hb, hW, hSh, hSz, hlen, q⟩ := h
    walk_at "lw i0"
    have hwl : ws.length = st.length := Paired.length hS
    walk_at "lw go"
    refine g_tupT hb rfl ?_
    walk_at "lw go"
    refine ⟨by show 0 ≤ sizeLine; decide, fun l hl => ?_⟩
    walk_at "lw go"
    refine ⟨a, rfl, ⟨ws, Same.seq (same_new hl) hSq⟩, for_list (xs := ws) (fun i σ H' => ∃ (o8 o9 o10 o11 o12 o13 o14 o15 : Option V) (rs : List V), σ = [some (.ref a), some (.int g), some (.ref b), some (.int x0), some (.int z0), some (.int x1), some (.int z1), some (.ref l), o8, o9, o10, o11, o12, o13, o14, o15] ∧ Same H H' ∧ H' l = some (.lst rs) ∧ PairsR H' rs ((rngA (exactN g) x0 z0 x1 z1).run (st.take i)))
      ⟨none, none, none, none, none, none, none, none, [], rfl, same_new hl, upd_same, .nil⟩ (fun i σ H' _ ⟨_, _, _, _, _, _, _, _, _, _, s, _⟩ => Same.seq s hSq) ?_ ?_⟩
    · rintro i y σ H' hy ⟨o8, o9, o10, o11, o12, o13, o14, o15, rs, rfl, s, hl', hrs⟩
      obtain ⟨t, hst, p, rfl, hp0⟩ := steps_at hS hy
      have hp := s _ _ hp0
      have hi : i < st.length := by rw [← hwl]; exact (List.getElem?_eq_some_iff.mp hy).1
      obtain ⟨vals, hvals⟩ : ∃ vals, (rngA (exactN g) x0 z0 x1 z1).run (st.take i) = vals := ⟨_, rfl⟩
      have vlen : vals.length = i := by rw [← hvals, run_len, List.length_take]; omega
      have hnext : (rngA (exactN g) x0 z0 x1 z1).run (st.take (i + 1)) = vals ++ [(rngA (exactN g) x0 z0 x1 z1).step t vals] := by
        rw [List.take_add_one, hst, ← hvals]
        exact run_snoc _ _ _
      have hbits : ∀ j, j < i → B2 (vals.getD j (0, 0)) 200000 := fun j hj => by
        have e := run_get (rngA (exactN g) x0 z0 x1 z1) (List.take_prefix i st) (i := j) (by rw [List.length_take]; omega)
        have b := hSz j (by omega)
        rw [hvals] at e
        have e' : ((rngA (exactN g) x0 z0 x1 z1).run st).getD j (0, 0) = vals.getD j (0, 0) := e
        rw [e'] at b
        exact b
      have hos := hOs t (List.mem_of_getElem? hst)
      have hsh := hSh t (List.mem_of_getElem? hst)
      have hlt := hOk i t hst
      rw [hvals] at hrs
      have rlen : rs.length = i := by rw [Paired.length hrs, vlen]
      have app : rs.length < sizeLine := by rw [rlen]; exact small1000 (by omega)
      have fin : ∀ (t' : Addr) (H2 : Hp) (u9 u10 u11 u12 u13 u14 u15 : Option V) (ab : Int × Int), Same H' H2 → Pr H2 t' ((rngA (exactN g) x0 z0 x1 z1).step t vals) →
          ∃ (o8 o9 o10 o11 o12 o13 o14 o15 : Option V) (rs' : List V), [some (.ref a), some (.int g), some (.ref b), some (.int x0), some (.int z0), some (.int x1), some (.int z1), some (.ref l), some (.ref p), u9, u10, u11, u12, u13, u14, u15] = [some (.ref a), some (.int g), some (.ref b), some (.int x0), some (.int z0), some (.int x1), some (.int z1), some (.ref l), o8, o9, o10, o11, o12, o13, o14, o15] ∧
            Same H (upd H2 l (.lst (rs ++ [.ref t']))) ∧ (upd H2 l (.lst (rs ++ [.ref t']))) l = some (.lst rs') ∧ PairsR (upd H2 l (.lst (rs ++ [.ref t']))) rs' ((rngA (exactN g) x0 z0 x1 z1).run (st.take (i + 1))) := fun t' H2 u9 u10 u11 u12 u13 u14 u15 _ s2 h2 =>
        ⟨_, _, _, _, _, _, _, _, _, rfl, same_put (s.trans s2) hl, upd_same, by rw [hnext]; exact PairsR.append (pairs_putL (s2 _ _ hl') (hrs.mono s2)) (.cons ⟨t', rfl, by rw [upd_ne (ne_of h2 (s2 _ _ hl') (by intro z; cases z))]; exact h2⟩ .nil)⟩
      clear hvals hnext hSz hOk hOs hSh hS q
      cases t with
      | whole n =>
        walk_at "lw go"
        refine g_ixT (SqT.of hp) (v := .str "whole") (atI_nat (j := 0) (by rfl)) ?_
        walk_at "lw go"
        refine g_ixT (SqT.of hp) (v := .int n) (atI_nat (j := 1) (by rfl)) ?_
        walk_at "lw go"
        refine g_ixT (SqT.of hp) (v := .int n) (atI_nat (j := 1) (by rfl)) ?_
        walk_at "lw go"
        refine ⟨by show 2 ≤ sizeLine; decide, fun t ht => ?_⟩
        walk_at "lw go"
        have st1 := same_new (o := .tup [.int (n), .int (n)]) ht
        refine ⟨tyL (st1 _ _ hl'), ?_⟩
        walk_at "lw go"
        refine g_append (st1 _ _ hl') app ?_
        exact fin _ _ _ _ _ _ _ _ _ (0, 0) st1 upd_same
      | px d =>
        walk_at "lw go"
        refine g_ixT (SqT.of hp) (v := .str "x") (atI_nat (j := 0) (by rfl)) ?_
        walk_at "lw go"
        refine g_ixT (SqT.of hp) (v := .int d) (atI_nat (j := 1) (by rfl)) ?_
        walk_at "lw go"
        refine g_ixT (SqT.of hp) (v := .int d) (atI_nat (j := 1) (by rfl)) ?_
        walk_at "lw go"
        refine ⟨by show 2 ≤ sizeLine; decide, fun t ht => ?_⟩
        walk_at "lw go"
        have st1 := same_new (o := .tup [.int (x0 + d), .int (x1 + d)]) ht
        refine ⟨tyL (st1 _ _ hl'), ?_⟩
        walk_at "lw go"
        refine g_append (st1 _ _ hl') app ?_
        exact fin _ _ _ _ _ _ _ _ _ (0, 0) st1 upd_same
      | pz d =>
        walk_at "lw go"
        refine g_ixT (SqT.of hp) (v := .str "z") (atI_nat (j := 0) (by rfl)) ?_
        walk_at "lw go"
        refine g_ixT (SqT.of hp) (v := .int d) (atI_nat (j := 1) (by rfl)) ?_
        walk_at "lw go"
        refine g_ixT (SqT.of hp) (v := .int d) (atI_nat (j := 1) (by rfl)) ?_
        walk_at "lw go"
        refine ⟨by show 2 ≤ sizeLine; decide, fun t ht => ?_⟩
        walk_at "lw go"
        have st1 := same_new (o := .tup [.int (z0 + d), .int (z1 + d)]) ht
        refine ⟨tyL (st1 _ _ hl'), ?_⟩
        walk_at "lw go"
        refine g_append (st1 _ _ hl') app ?_
        exact fin _ _ _ _ _ _ _ _ _ (0, 0) st1 upd_same
      | noise s0 l0 dx dz =>
        have hl0 : 0 ≤ l0 := hos.1
        have hl8 : l0 ≤ 8 := hos.2
        have hdx : dx.natAbs ≤ 100000000000 := hsh.1
        have hdz : dz.natAbs ≤ 100000000000 := hsh.2
        obtain ⟨w1, w2, w3, w4, w5, w6⟩ := hW
        obtain ⟨n0, rfl⟩ : ∃ n0 : Nat, l0 = (n0 : Int) := ⟨l0.toNat, by omega⟩
        walk_at "lw go"
        refine g_ixT (SqT.of hp) (v := .str "noise") (atI_nat (j := 0) (by rfl)) ?_
        walk_at "lw go"
        with_reducible refine' g_par ?_
        walk_at "lw go"
        refine g_ixT (SqT.of hp) (v := .int dx) (atI_nat (j := 3) (by rfl)) ?_
        walk_at "lw go"
        refine g_ixT (SqT.of hp) (v := .int dz) (atI_nat (j := 4) (by rfl)) ?_
        walk_at "lw go"
        refine ⟨_, _, rfl, ?_⟩
        walk_at "lw ns"
        walk_at "lw go"
        refine g_ixT (SqT.of hp) (v := .int s0) (atI_nat (j := 1) (by rfl)) ?_
        walk_at "lw go"
        refine g_ixT (SqT.of hp) (v := .int n0) (atI_nat (j := 2) (by rfl)) ?_
        walk_at "lw go"
        refine ⟨by show 4 ≤ sizeLine; decide, fun t ht => ?_⟩
        walk_at "lw go"
        have st1 := same_new (o := .tup [.int (x0 + dx), .int (z0 + dz), .int (x1 + dx), .int (z1 + dz)]) ht
        refine ⟨g, s0, x0 + dx, z0 + dz, x1 + dx, z1 + dz, n0, t, rfl, by omega, upd_same, by omega, by omega, by omega, by omega, by omega, by omega, fun t2 H2 s2 h2 => ?_⟩
        walk_at "lw go"
        have s12 := st1.trans s2
        refine ⟨tyL (s12 _ _ hl'), ?_⟩
        walk_at "lw go"
        refine g_append (s12 _ _ hl') app ?_
        exact fin _ _ _ _ _ _ _ _ _ (0, 0) s12 h2
      | over j n =>
        have hj : j < i := hlt
        have hn1 : 1 ≤ n := hos.1
        have hn2 : n ≤ 1000000000 := hos.2
        obtain ⟨r1, hr1, hr2⟩ := pr_at (j := j) hrs (by omega)
        walk_at "lw go"
        refine g_ixT (SqT.of hp) (v := .str "over") (atI_nat (j := 0) (by rfl)) ?_
        walk_at "lw go"
        refine g_ixT (SqT.of hp) (v := .int (j : Int)) (atI_nat (j := 1) (by rfl)) ?_
        walk_at "lw go"
        refine g_ixL (SqL.of hl') (atI_nat hr1) ?_
        walk_at "lw go"
        refine g_tupT (SqT.of hr2) rfl ?_
        walk_at "lw go"
        refine g_ixT (SqT.of hp) (v := .int n) (atI_nat (j := 2) (by rfl)) ?_
        walk_at "lw go"
        refine g_ixT (SqT.of hp) (v := .int n) (atI_nat (j := 2) (by rfl)) ?_
        walk_at "lw go"
        refine ⟨by show 2 ≤ sizeLine; decide, fun t ht => ?_⟩
        walk_at "lw go"
        have st1 := same_new (o := .tup [.int ((vals.getD j (0, 0)).1 / n), .int ((vals.getD j (0, 0)).2 / n)]) ht
        refine ⟨tyL (st1 _ _ hl'), ?_⟩
        walk_at "lw go"
        refine g_append (st1 _ _ hl') app ?_
        exact fin _ _ _ _ _ _ _ _ _ (0, 0) st1 upd_same
      | two c j1 j2 =>
        have hj : j1 < i ∧ j2 < i := hlt
        obtain ⟨r1, hr1, hr2⟩ := pr_at (j := j1) hrs (by omega)
        obtain ⟨r3, hr3, hr4⟩ := pr_at (j := j2) hrs (by omega)
        have ne1 : decide (c.word = "noise") = false := word_ne (by decide +kernel) c
        have ba := hbits j1 hj.1
        have bb := hbits j2 hj.2
        have wm : ∀ {i j : Int}, i.natAbs < 2 ^ 200000 → j.natAbs < 2 ^ 200000 → CMulW i j := fun h1 h2 => wide_mul h1 h2 (by decide) (by decide) (by decide)
        walk_at "lw go"
        refine g_ixT (SqT.of hp) (v := .str c.word) (atI_nat (j := 0) (by rfl)) ?_
        walk_at "lw go"
        refine g_ixT (SqT.of hp) (v := .int (j1 : Int)) (atI_nat (j := 1) (by rfl)) ?_
        walk_at "lw go"
        refine g_ixL (SqL.of hl') (atI_nat hr1) ?_
        walk_at "lw go"
        refine g_ixT (SqT.of hp) (v := .int (j2 : Int)) (atI_nat (j := 2) (by rfl)) ?_
        walk_at "lw go"
        refine g_ixL (SqL.of hl') (atI_nat hr3) ?_
        walk_at "lw go"
        refine ⟨c, r1, r3, _, _, rfl, hr2, hr4, fun _ => ⟨wm ba.1 bb.1, wm ba.1 bb.2, wm ba.2 bb.1, wm ba.2 bb.2⟩, fun t2 H2 s2 h2 => ?_⟩
        walk_at "lw go"
        refine ⟨tyL (s2 _ _ hl'), ?_⟩
        walk_at "lw go"
        refine g_append (s2 _ _ hl') app ?_
        exact fin _ _ _ _ _ _ _ _ _ (0, 0) s2 h2
      | bel b1 b2 b3 b4 =>
        have hj : b1 < i ∧ b2 < i ∧ b3 < i ∧ b4 < i := hlt
        obtain ⟨r1, hr1, hs1⟩ := pr_at (j := b1) hrs (by omega)
        obtain ⟨r2, hr2, hs2⟩ := pr_at (j := b2) hrs (by omega)
        obtain ⟨r3, hr3, hs3⟩ := pr_at (j := b3) hrs (by omega)
        obtain ⟨r4, hr4, hs4⟩ := pr_at (j := b4) hrs (by omega)
        walk_at "lw go"
        refine g_ixT (SqT.of hp) (v := .str "below") (atI_nat (j := 0) (by rfl)) ?_
        walk_at "lw go"
        have hpb : H' p = some (.tup (.str "below" :: [.int (b1 : Int), .int (b2 : Int), .int (b3 : Int), .int (b4 : Int)])) := hp
        refine g_slT (SqT.of hpb) cut1T_ok fun t ht => ?_
        rw [cut1T]
        have st1 : Same H' _ := same_new (o := .tup [.int (b1 : Int), .int (b2 : Int), .int (b3 : Int), .int (b4 : Int)]) ht
        refine ⟨t, rfl, ⟨_, SqT.of upd_same⟩, fun D hD => ?_⟩
        have lD : l ≠ D := ne_of_none (st1 _ _ hl') hD
        have hD1 : H' D = none := none_back (o := .tup [.int (b1 : Int), .int (b2 : Int), .int (b3 : Int), .int (b4 : Int)]) ht st1 hD
        refine lc_tup (xs := [.int (b1 : Int), .int (b2 : Int), .int (b3 : Int), .int (b4 : Int)]) (fun k H2 => Same (upd H' t (.tup [.int (b1 : Int), .int (b2 : Int), .int (b3 : Int), .int (b4 : Int)])) H2 ∧ H2 D = some (.lst (([.ref r1, .ref r2, .ref r3, .ref r4] : List V).take k)))
          ⟨same_new hD, upd_same⟩ (fun k H2 _ ⟨s2, _⟩ => SqT.of (s2 _ _ upd_same)) ?_ ?_
        · rintro k y H2 hk ⟨s2, hD2⟩
          obtain ⟨n, r0, rfl, hn, hr0, hk4⟩ : ∃ (n : Nat) (r0 : Addr), y = .int (n : Int) ∧ rs[n]? = some (.ref r0) ∧ ([.ref r1, .ref r2, .ref r3, .ref r4] : List V)[k]? = some (.ref r0) ∧ k < 4 := by
            match k, hk with
            | 0, hk => cases Option.some.inj hk; exact ⟨b1, r1, rfl, hr1, rfl, by omega⟩
            | 1, hk => cases Option.some.inj hk; exact ⟨b2, r2, rfl, hr2, rfl, by omega⟩
            | 2, hk => cases Option.some.inj hk; exact ⟨b3, r3, rfl, hr3, rfl, by omega⟩
            | 3, hk => cases Option.some.inj hk; exact ⟨b4, r4, rfl, hr4, rfl, by omega⟩
            | k + 4, hk => cases hk
          walk_at "lw go"
          refine ⟨rfl, g_yes (iteT ?_)⟩
          walk_at "lw go"
          refine g_ixL (SqL.of (s2 _ _ (st1 _ _ hl'))) (atI_nat hn) ?_
          refine ⟨_, hD2, by rw [List.length_take]; exact small1000 (by simp only [List.length_cons, List.length_nil]; omega), same_put s2 hD, ?_⟩
          rw [upd_same, List.take_add_one, hr0]
          rfl
        rintro H2 ⟨s2, hD2⟩
        have s12 := st1.trans s2
        walk_at "lw go"
        refine ⟨D, r1, r2, r3, r4, _, _, _, _, rfl, hD2, s12 _ _ hs1, s12 _ _ hs2, s12 _ _ hs3, s12 _ _ hs4, fun t2 H3 s3 h3 => ?_⟩
        walk_at "lw go"
        have s13 := s12.trans s3
        refine ⟨tyL (s13 _ _ hl'), ?_⟩
        walk_at "lw go"
        refine g_append (s13 _ _ hl') app ?_
        exact fin _ _ _ _ _ _ _ _ _ (0, 0) s13 h3
    · rintro σ H' ⟨o8, o9, o10, o11, o12, o13, o14, o15, rs, rfl, s, hl', hrs⟩
      rw [hwl, List.take_length] at hrs
      walk_at "lw go"
      exact q l H' rs s hl' hrs
abbrev N_must_ranges : List Str := ["steps", "low", "high"]
theorem sc_must_ranges : FnScope N_must_ranges ["steps"] (defScope s_must_ranges) := ⟨rfl, rfl, rfl, by decide +kernel, rfl, by decide +kernel, by decide +kernel⟩
theorem ok_must_ranges (F : FnP K "must_ranges" s_must_ranges f fd) (T : Bi mg) (G : Kn K mg) (D_ranges_of : Df P w K mg base "ranges_of" ["some", "seed", "box"] 4 (spRgs K)) : FnOk P w K mg base CX0 5 f fd ["steps"] (spMust K) := by
  refine F.ok sc_must_ranges (fun vs H Q E h => ?_) (fun cdv A outer s H vs Q E hr h => ⟨_, PSs.nox
(pss_one (ps_for PassesOwn.never rfl (pi_list (pe_df D_ranges_of (hr.mono (by first | decide | omega)) (pa_cons (pv 0) (pa_cons pe_int (pa_cons (pe_gR (by rfl) G.g_ALL_POINTS) pa_nil))))) (pg_tup (by rfl) (pgs_cons (pg_name (i := 1) sc_must_ranges.nd rfl (Or.inl rfl)) (pgs_cons (pg_name (i := 2) sc_must_ranges.nd rfl (Or.inl rfl)) pgs_nil)))
  (pss_one (ps_if (PW.pt (pw_or (pt_cmpR op_lt (pv 1) (pe_un un_neg (pe_gI (by rfl) G.c_GREATEST_VALUE)) (nomark _)) (pw_or1 (pt_cmpR op_gt (pv 2) (pe_gI (by rfl) G.c_GREATEST_VALUE) (nomark _)))))
  pss_never
  pss_nil)))), ?_⟩)
  · obtain ⟨a, ws, st, rfl, _⟩ := h
    rfl
  · obtain ⟨a, ws, st, rfl, hSq, hS, hOk, hOs, hSh, hSz, hlen, hA, q⟩ := h
    walk_at "lw i0"
    have eR := run_wide (g := 0) (x0 := -1000000) (z0 := -1000000) (x1 := 1000000) (z1 := 1000000) (by decide) (by decide) st hOs
    walk_at "lw go"
    refine ⟨a, He.ga K "ALL_POINTS", ws, st, 0, -1000000, -1000000, 1000000, 1000000, rfl, hSq, hS, hOk, hOs, G.v_ALL_POINTS H, ⟨by decide, by decide, by decide, by decide, by decide, by decide⟩, hSh, by unfold SzR; rw [eR]; exact hSz, hlen, fun l H1 vs' s1 hl hps => ?_⟩
    rw [eR] at hps
    refine ⟨l, rfl, ⟨vs', SqL.of hl⟩, for_list (xs := vs') (fun i σ H' => ∃ o1 o2 : Option V, σ = [some (.ref a), o1, o2] ∧ Same H1 H') ⟨none, none, rfl, Same.refl _⟩ (fun i σ H' _ ⟨_, _, _, s⟩ => SqL.of (s _ _ hl)) ?_ ?_⟩
    · rintro i y σ H' hy ⟨o1, o2, rfl, s⟩
      obtain ⟨ab, hab, p, rfl, hp⟩ := pairs_at hps hy
      have hi : i < st.length := by rw [← run_len (rngA wideN (-1000000) (-1000000) 1000000 1000000) st]; exact (List.getElem?_eq_some_iff.mp hab).1
      have hb := hA i hi
      have eg : ((rngA wideN (-1000000) (-1000000) 1000000 1000000).run st).getD i (0, 0) = ab := by simp [List.getD, hab]
      rw [eg] at hb
      walk_at "lw go"
      refine g_tupT (SqT.of (s _ _ hp)) rfl ?_
      walk_at "lw go"
      refine iteNo (by omega) ?_
      walk_at "lw go"
      rw [decide_eq_false (by omega)]
      walk_at "lw go"
      exact ⟨_, _, rfl, s⟩
    · rintro σ H' ⟨o1, o2, rfl, s⟩
      walk_at "lw go"
      exact q _ (s1.trans s)
abbrev N_steps_of : List Str := ["rules", "greatest", "made", "steps"]
theorem sc_steps_of : FnScope N_steps_of ["rules"] (defScope s_steps_of) := ⟨rfl, rfl, rfl, by decide +kernel, rfl, by decide +kernel, by decide +kernel⟩
theorem ok_steps_of (F : FnP K "steps_of" s_steps_of f fd) (T : Bi mg) (G : Kn K mg) (D_greatest_of : Df P w K mg base "greatest_of" ["rules"] 43 spGr) (D_placed : Df P w K mg base "placed" ["field", "dx", "dz", "lets", "made"] 61 (spPlaced 60)) (D_must_ranges : Df P w K mg base "must_ranges" ["steps"] 5 (spMust K)) : FnOk P w K mg base CX0 62 f fd ["rules"] spSteps := by
  refine F.ok sc_steps_of (fun vs H Q E h => ?_) (fun cdv A outer s H vs Q E hr h => ⟨_, PSs.nox
(pss_cons (ps_set (i := 1) sc_steps_of.nd rfl (Or.inl rfl) (pe_df D_greatest_of (hr.mono (by first | decide | omega)) (pa_cons (pv 0) pa_nil)))
  (pss_cons (ps_set (i := 2) sc_steps_of.nd rfl (Or.inl rfl) pe_dnewT)
  (pss_cons (ps_expr (pe_df D_placed (hr.mono (by first | decide | omega)) (pa_cons (pv 0) (pa_cons pe_int (pa_cons pe_int (pa_cons pe_dnewK (pa_cons (pv 2) pa_nil)))))))
  (pss_cons (ps_set (i := 3) sc_steps_of.nd rfl (Or.inl rfl) (pe_callTy (call_list_dT rfl) (by rfl) T.list (by decide +kernel) (pa_cons (pv 2) pa_nil)))
  (pss_cons (ps_if (pt_cmpR op_gt (pv 1) (pe_gI (by rfl) G.c_GREATEST_VALUE) (nomark _))
  (pss_one (ps_expr (pe_df D_must_ranges (hr.mono (by first | decide | omega)) (pa_cons (pv 3) pa_nil))))
  pss_nil)
  (pss_one (ps_ret (pv 3)))))))), ?_⟩)
  · obtain ⟨u, F, rfl, _⟩ := h
    rfl
  · obtain ⟨u, F, rfl, hF, hG, q⟩ := h
    walk_at "lw i0"
    walk_at "lw go"
    refine ⟨u, F, rfl, hF, hG, fun H1 s1 => ?_⟩
    walk_at "lw go"
    intro mk hmk
    have s2 : Same H _ := s1.trans (same_new (o := .dT []) hmk)
    walk_at "lw go"
    intro e he
    have s3 : Same H _ := s2.trans (same_new (o := .dK []) he)
    have mke : mk ≠ e := ne_of_none upd_same he
    walk_at "lw go"
    have hcn := hG.cn
    have hud := hG.ud
    refine ⟨u, F, 0, 0, e, mk, 0, [], [], [], rfl, hF.mono (same_tup s3), ⟨upd_same, rfl, rfl⟩, hG.bnd, by omega, by rw [upd_ne mke, upd_same]; rfl, by simp only [List.length_nil]; omega, by simp only [List.length_nil]; omega, fun H2 k2 h2 => ?_⟩
    have hmk0 : H mk = none := none_back (o := .dT []) (by
      cases e0 : H mk with
      | none => rfl
      | some v => rw [s1 _ _ e0] at hmk; cases hmk) (Same.refl H) (by
      cases e0 : H mk with
      | none => rfl
      | some v => rw [s1 _ _ e0] at hmk; cases hmk)
    have s4 : Same H H2 := fun a v ea => k2 _ _ (ne_of_none ea hmk0) (s3 _ _ ea)
    walk_at "lw go"
    refine ⟨mk, _, rfl, .inl h2, fun l bs hl hk => ?_⟩
    have hl0 : H l = none := none_of_same s4 hl
    have hst : StepsR H2 (bs.map V.ref) (stepsE (expand F [])) := steps_of_keys (n := 0) hk
    have s5 : Same H _ := s4.trans (same_new (o := .lst (bs.map V.ref)) hl)
    have hst5 := hst.mono (same_tup (same_new (o := .lst (bs.map V.ref)) hl))
    have io := into_ok (expand F []) 0 0 []
    have ok0 : OkE (expand F []) := ok_expand F [] hG.ok okR_nil
    walk_at "lw go"
    refine g_ite (fun hgt => ?_) (fun hgt => ?_)
    · walk_at "lw go"
      refine ⟨l, _, stepsE (expand F []), rfl, SqL.of upd_same, hst5, io.ok ok_nil, okS_into _ 0 0 [] ok0 (fun s hs => (nomatch hs)), shS_steps ok0 (by omega), ?_, ?_, ?_, fun H3 s6 => ?_⟩
      · exact all_into (expand F []) (-1000000) (-1000000) 1000000 1000000 0 0 [] ok_nil (fun p hp => (all_bits wide_ok (expand F []) (-1000000) (-1000000) 1000000 1000000 40 ok0 (by decide) ⟨by decide, by decide⟩ ⟨by decide, by decide⟩ p hp).mono hG.vb) (fun i hi => absurd hi (Nat.not_lt_zero i))
      · have := io.len
        simp only [List.length_nil] at this
        show (into (expand F []) 0 0 []).1.length ≤ 1000
        omega
      · exact all_into (expand F []) (-1000000) (-1000000) 1000000 1000000 0 0 [] ok_nil hG.rng (fun i hi => absurd hi (Nat.not_lt_zero i))
      · walk_at "lw go"
        exact q l H3 _ hl0 (s5.trans s6) (s6 _ _ upd_same) (hst5.mono (same_tup s6))
    · walk_at "lw go"
      exact q l _ _ hl0 s5 upd_same hst5
abbrev N_run_known : List Str := ["some", "seed", "x", "z", "known", "values", "step", "word", "value"]
theorem sc_run_known : FnScope N_run_known ["some", "seed", "x", "z", "known"] (defScope s_run_known) := ⟨rfl, rfl, rfl, by decide +kernel, rfl, by decide +kernel, by decide +kernel⟩
theorem ok_run_known (F : FnP K "run_known" s_run_known f fd) (T : Bi mg) (G : Kn K mg) (D_noise_value : Df P w K mg base "noise_value" ["seed", "salt", "log", "x", "z", "known"] 2 spNV) : FnOk P w K mg base CX0 3 f fd ["some", "seed", "x", "z", "known"] (spRun K) := by
  refine F.ok sc_run_known (fun vs H Q E h => ?_) (fun cdv A outer s H vs Q E hr h => ⟨_, PSs.nox
(pss_cons (ps_set (i := 5) sc_run_known.nd rfl (Or.inl rfl) (pe_lst pa_nil))
  (pss_cons (ps_for PassesOwn.never rfl (pi_list (pv 0)) (pg_name (i := 6) sc_run_known.nd rfl (Or.inl rfl))
  (pss_cons (ps_set (i := 7) sc_run_known.nd rfl (Or.inl rfl) (pe_ix ix_tup (pv 6) pe_int (fun _ _ => rfl)))
  (pss_cons (ps_if (pt_cmpR op_eq (pv 7) pe_str (nomark _))
  (pss_one (ps_set (i := 8) sc_run_known.nd rfl (Or.inl rfl) (pe_df D_noise_value (hr.mono (by first | decide | omega)) (pa_cons (pv 1) (pa_cons (pe_ix ix_tup (pv 6) pe_int (fun _ _ => rfl)) (pa_cons (pe_ix ix_tup (pv 6) pe_int (fun _ _ => rfl)) (pa_cons (pe_op op_add (pv 2) (pe_ix ix_tup (pv 6) pe_int (fun _ _ => rfl))) (pa_cons (pe_op op_add (pv 3) (pe_ix ix_tup (pv 6) pe_int (fun _ _ => rfl))) (pa_cons (pv 4) pa_nil)))))))))
  (pss_one (ps_if (pt_cmpR op_eq (pv 7) pe_str (nomark _))
  (pss_one (ps_set (i := 8) sc_run_known.nd rfl (Or.inl rfl) (pe_op op_add (pe_ix ix_list (pv 5) (pe_ix ix_tup (pv 6) pe_int (fun _ _ => rfl)) (fun _ _ => rfl)) (pe_ix ix_list (pv 5) (pe_ix ix_tup (pv 6) pe_int (fun _ _ => rfl)) (fun _ _ => rfl)))))
  (pss_one (ps_if (pt_cmpR op_eq (pv 7) pe_str (nomark _))
  (pss_one (ps_set (i := 8) sc_run_known.nd rfl (Or.inl rfl) (pe_ix ix_tup (pv 6) pe_int (fun _ _ => rfl))))
  (pss_one (ps_if (pt_cmpR op_eq (pv 7) pe_str (nomark _))
  (pss_one (ps_set (i := 8) sc_run_known.nd rfl (Or.inl rfl) (pe_op op_add (pv 2) (pe_ix ix_tup (pv 6) pe_int (fun _ _ => rfl)))))
  (pss_one (ps_if (pt_cmpR op_eq (pv 7) pe_str (nomark _))
  (pss_one (ps_set (i := 8) sc_run_known.nd rfl (Or.inl rfl) (pe_op op_add (pv 3) (pe_ix ix_tup (pv 6) pe_int (fun _ _ => rfl)))))
  (pss_one (ps_if (pt_cmpR op_eq (pv 7) pe_str (nomark _))
  (pss_one (ps_set (i := 8) sc_run_known.nd rfl (Or.inl rfl) (pe_op op_fdivW (pe_ix ix_list (pv 5) (pe_ix ix_tup (pv 6) pe_int (fun _ _ => rfl)) (fun _ _ => rfl)) (pe_ix ix_tup (pv 6) pe_int (fun _ _ => rfl)))))
  (pss_one (ps_if (pt_cmpR op_eq (pv 7) pe_str (nomark _))
  (pss_one (ps_set (i := 8) sc_run_known.nd rfl (Or.inl rfl) (pe_op op_sub (pe_ix ix_list (pv 5) (pe_ix ix_tup (pv 6) pe_int (fun _ _ => rfl)) (fun _ _ => rfl)) (pe_ix ix_list (pv 5) (pe_ix ix_tup (pv 6) pe_int (fun _ _ => rfl)) (fun _ _ => rfl)))))
  (pss_one (ps_if (pt_cmpR op_eq (pv 7) pe_str (nomark _))
  (pss_one (ps_set (i := 8) sc_run_known.nd rfl (Or.inl rfl) (pe_op op_mulW (pe_ix ix_list (pv 5) (pe_ix ix_tup (pv 6) pe_int (fun _ _ => rfl)) (fun _ _ => rfl)) (pe_ix ix_list (pv 5) (pe_ix ix_tup (pv 6) pe_int (fun _ _ => rfl)) (fun _ _ => rfl)))))
  (pss_one (ps_if (pt_cmpR op_eq (pv 7) pe_str (nomark _))
  (pss_one (ps_set (i := 8) sc_run_known.nd rfl (Or.inl rfl) (pe_callB (call_min2 rfl) (by rfl) T.min (by decide +kernel) (pa_cons (pe_ix ix_list (pv 5) (pe_ix ix_tup (pv 6) pe_int (fun _ _ => rfl)) (fun _ _ => rfl)) (pa_cons (pe_ix ix_list (pv 5) (pe_ix ix_tup (pv 6) pe_int (fun _ _ => rfl)) (fun _ _ => rfl)) pa_nil)))))
  (pss_one (ps_if (pt_cmpR op_eq (pv 7) pe_str (nomark _))
  (pss_one (ps_set (i := 8) sc_run_known.nd rfl (Or.inl rfl) (pe_callB (call_max2 rfl) (by rfl) T.max (by decide +kernel) (pa_cons (pe_ix ix_list (pv 5) (pe_ix ix_tup (pv 6) pe_int (fun _ _ => rfl)) (fun _ _ => rfl)) (pa_cons (pe_ix ix_list (pv 5) (pe_ix ix_tup (pv 6) pe_int (fun _ _ => rfl)) (fun _ _ => rfl)) pa_nil)))))
  (pss_one (ps_set (i := 8) sc_run_known.nd rfl (Or.inl rfl) (pe_ix ix_list (pv 5) (pe_ifExp (pt_cmpR op_lt (pe_ix ix_list (pv 5) (pe_ix ix_tup (pv 6) pe_int (fun _ _ => rfl)) (fun _ _ => rfl)) (pe_ix ix_list (pv 5) (pe_ix ix_tup (pv 6) pe_int (fun _ _ => rfl)) (fun _ _ => rfl)) (nomark _)) (pe_ix ix_tup (pv 6) pe_int (fun _ _ => rfl)) (pe_ix ix_tup (pv 6) pe_int (fun _ _ => rfl))) (fun _ _ => rfl)))))))))))))))))))))))
  (pss_one (ps_expr (pe_bm PySem.F.plainAttrs_list PySem.F.slot_list_append PySem.F.type_list_append mt_append (pv 5) (pa_cons (pv 8) pa_nil)))))))
  (pss_one (ps_ret (pe_ix ix_list (pv 5) (pe_un un_neg pe_int) (fun _ _ => rfl)))))), ?_⟩)
  · obtain ⟨a, ws, st, g, x, z, rfl, _⟩ := h
    rfl
  · obtain ⟨a, ws, st, g, x, z, rfl, hSq, hS, hOk, hOs, hSz, hne, hlen, q⟩ := h
    walk_at "lw i0"
    have hwl : ws.length = st.length := Paired.length hS
    walk_at "lw go"
    refine ⟨by show 0 ≤ sizeLine; decide, fun l hl => ?_⟩
    walk_at "lw go"
    refine ⟨a, rfl, ⟨ws, Same.seq (same_new hl) hSq⟩, for_list (xs := ws) (fun i σ H' => ∃ o6 o7 o8 : Option V, σ = [some (.ref a), some (.int g), some (.int x), some (.int z), some .non, some (.ref l), o6, o7, o8] ∧ Same H H' ∧ H' l = some (.lst (((valA g x z).run (st.take i)).map V.int)))
      ⟨none, none, none, rfl, same_new hl, upd_same⟩ (fun i σ H' _ ⟨_, _, _, _, s, _⟩ => Same.seq s hSq) ?_ ?_⟩
    · rintro i y σ H' hy ⟨o6, o7, o8, rfl, s, hl'⟩
      obtain ⟨t, hst, p, rfl, hp0⟩ := steps_at hS hy
      have hp := s _ _ hp0
      have hi : i < st.length := by rw [← hwl]; exact (List.getElem?_eq_some_iff.mp hy).1
      obtain ⟨vals, hvals⟩ : ∃ vals, (valA g x z).run (st.take i) = vals := ⟨_, rfl⟩
      have vlen : vals.length = i := by rw [← hvals, run_len, List.length_take]; omega
      have hnext : (valA g x z).run (st.take (i + 1)) = vals ++ [(valA g x z).step t vals] := by
        rw [List.take_add_one, hst, ← hvals]
        exact run_snoc _ _ _
      have hbits : ∀ j, j < i → (vals.getD j 0).natAbs < 2 ^ 200000 := fun j hj => by
        have e := run_get (valA g x z) (List.take_prefix i st) (i := j) (by rw [List.length_take]; omega)
        have b := hSz j (by omega)
        rw [hvals] at e
        have e' : ((valA g x z).run st).getD j 0 = vals.getD j 0 := e
        rw [e'] at b
        exact b
      have hos := hOs t (List.mem_of_getElem? hst)
      have hlt := hOk i t hst
      rw [hvals] at hl'
      have fin : ∀ (v : Int) (H2 : Hp) (u7 u8 : Option V), Same H' H2 → H2 l = some (.lst (vals.map V.int)) → v = (valA g x z).step t vals →
          ∃ o6 o7 o8 : Option V, [some (.ref a), some (.int g), some (.int x), some (.int z), some .non, some (.ref l), some (.ref p), u7, u8] = [some (.ref a), some (.int g), some (.int x), some (.int z), some .non, some (.ref l), o6, o7, o8] ∧ Same H (upd H2 l (.lst (vals.map V.int ++ [.int v]))) ∧ (upd H2 l (.lst (vals.map V.int ++ [.int v]))) l = some (.lst (((valA g x z).run (st.take (i + 1))).map V.int)) := fun v H2 u7 u8 s2 h2 ev =>
        ⟨_, _, _, rfl, same_put (s.trans s2) hl, by rw [upd_same, hnext, List.map_append, ev]; rfl⟩
      have app : (vals.map V.int).length < sizeLine := by rw [List.length_map, vlen]; exact small1000 (by omega)
      clear hvals hnext hSz hOk hOs hS q
      cases t with
      | noise s0 l0 dx dz =>
        have hl0 : 0 ≤ l0 := hos.1
        have hl8 : l0 ≤ 8 := hos.2
        walk_at "lw go"
        refine g_ixT (SqT.of hp) (v := .str "noise") rfl ?_
        walk_at "lw go"
        refine g_ixT (SqT.of hp) (v := .int s0) (atI_nat (j := 1) (by rfl)) ?_
        walk_at "lw go"
        refine g_ixT (SqT.of hp) (v := .int l0) (atI_nat (j := 2) (by rfl)) ?_
        walk_at "lw go"
        refine g_ixT (SqT.of hp) (v := .int dx) (atI_nat (j := 3) (by rfl)) ?_
        walk_at "lw go"
        refine g_ixT (SqT.of hp) (v := .int dz) (atI_nat (j := 4) (by rfl)) ?_
        walk_at "lw go"
        refine ⟨g, s0, l0, x + dx, z + dz, rfl, hl0, hl8, fun H2 s2 => ?_⟩
        walk_at "lw go"
        refine ⟨tyL (s2 _ _ hl'), ?_⟩
        walk_at "lw go"
        refine g_append (s2 _ _ hl') app ?_
        exact fin _ _ _ _ s2 (s2 _ _ hl') rfl
      | whole n =>
        walk_at "lw go"
        refine g_ixT (SqT.of hp) (v := .str "whole") rfl ?_
        walk_at "lw go"
        refine g_ixT (SqT.of hp) (v := .int n) (atI_nat (j := 1) (by rfl)) ?_
        walk_at "lw go"
        refine ⟨tyL hl', ?_⟩
        walk_at "lw go"
        refine g_append hl' app ?_
        exact fin _ _ _ _ (Same.refl _) hl' rfl
      | px d =>
        walk_at "lw go"
        refine g_ixT (SqT.of hp) (v := .str "x") rfl ?_
        walk_at "lw go"
        refine g_ixT (SqT.of hp) (v := .int d) (atI_nat (j := 1) (by rfl)) ?_
        walk_at "lw go"
        refine ⟨tyL hl', ?_⟩
        walk_at "lw go"
        refine g_append hl' app ?_
        exact fin _ _ _ _ (Same.refl _) hl' rfl
      | pz d =>
        walk_at "lw go"
        refine g_ixT (SqT.of hp) (v := .str "z") rfl ?_
        walk_at "lw go"
        refine g_ixT (SqT.of hp) (v := .int d) (atI_nat (j := 1) (by rfl)) ?_
        walk_at "lw go"
        refine ⟨tyL hl', ?_⟩
        walk_at "lw go"
        refine g_append hl' app ?_
        exact fin _ _ _ _ (Same.refl _) hl' rfl
      | over j n =>
        have hj : j < i := hlt
        have hn1 : 1 ≤ n := hos.1
        have hn2 : n ≤ 1000000000 := hos.2
        walk_at "lw go"
        refine g_ixT (SqT.of hp) (v := .str "over") rfl ?_
        walk_at "lw go"
        refine g_ixT (SqT.of hp) (v := .int (j : Int)) (atI_nat (j := 1) (by rfl)) ?_
        walk_at "lw go"
        refine g_ixL (SqL.of hl') (at_ints (by omega)) ?_
        walk_at "lw go"
        refine g_ixT (SqT.of hp) (v := .int n) (atI_nat (j := 2) (by rfl)) ?_
        walk_at "lw go"
        refine ⟨tyL hl', ?_⟩
        walk_at "lw go"
        refine g_append hl' app ?_
        exact fin _ _ _ _ (Same.refl _) hl' rfl
      | bel b1 b2 b3 b4 =>
        have hj : b1 < i ∧ b2 < i ∧ b3 < i ∧ b4 < i := hlt
        walk_at "lw go"
        refine g_ixT (SqT.of hp) (v := .str "below") rfl ?_
        walk_at "lw go"
        refine g_ixT (SqT.of hp) (v := .int (b1 : Int)) (atI_nat (j := 1) (by rfl)) ?_
        walk_at "lw go"
        refine g_ixL (SqL.of hl') (at_ints (by omega)) ?_
        walk_at "lw go"
        refine g_ixT (SqT.of hp) (v := .int (b2 : Int)) (atI_nat (j := 2) (by rfl)) ?_
        walk_at "lw go"
        refine g_ixL (SqL.of hl') (at_ints (by omega)) ?_
        walk_at "lw go"
        refine g_ite (fun hlt => ?_) (fun hlt => ?_)
        · walk_at "lw go"
          refine g_ixT (SqT.of hp) (v := .int (b3 : Int)) (atI_nat (j := 3) (by rfl)) ?_
          walk_at "lw go"
          refine g_ixL (SqL.of hl') (at_ints (by omega)) ?_
          walk_at "lw go"
          refine ⟨tyL hl', ?_⟩
          walk_at "lw go"
          refine g_append hl' app ?_
          exact fin _ _ _ _ (Same.refl _) hl' (if_pos hlt).symm
        · walk_at "lw go"
          refine g_ixT (SqT.of hp) (v := .int (b4 : Int)) (atI_nat (j := 4) (by rfl)) ?_
          walk_at "lw go"
          refine g_ixL (SqL.of hl') (at_ints (by omega)) ?_
          walk_at "lw go"
          refine ⟨tyL hl', ?_⟩
          walk_at "lw go"
          refine g_append hl' app ?_
          exact fin _ _ _ _ (Same.refl _) hl' (if_neg hlt).symm
      | two c j1 j2 =>
        have hj : j1 < i ∧ j2 < i := hlt
        have hm : CMulW (vals.getD j1 0) (vals.getD j2 0) := wide_mul (hbits j1 hj.1) (hbits j2 hj.2) (by decide) (by decide) (by decide)
        cases c with
        | plus =>
          walk_at "lw go"
          refine g_ixT (SqT.of hp) (v := .str "plus") rfl ?_
          walk_at "lw go"
          refine g_ixT (SqT.of hp) (v := .int (j1 : Int)) (atI_nat (j := 1) (by rfl)) ?_
          walk_at "lw go"
          refine g_ixL (SqL.of hl') (at_ints (by omega)) ?_
          walk_at "lw go"
          refine g_ixT (SqT.of hp) (v := .int (j2 : Int)) (atI_nat (j := 2) (by rfl)) ?_
          walk_at "lw go"
          refine g_ixL (SqL.of hl') (at_ints (by omega)) ?_
          walk_at "lw go"
          refine ⟨tyL hl', ?_⟩
          walk_at "lw go"
          refine g_append hl' app ?_
          exact fin _ _ _ _ (Same.refl _) hl' rfl
        | less =>
          walk_at "lw go"
          refine g_ixT (SqT.of hp) (v := .str "less") rfl ?_
          walk_at "lw go"
          refine g_ixT (SqT.of hp) (v := .int (j1 : Int)) (atI_nat (j := 1) (by rfl)) ?_
          walk_at "lw go"
          refine g_ixL (SqL.of hl') (at_ints (by omega)) ?_
          walk_at "lw go"
          refine g_ixT (SqT.of hp) (v := .int (j2 : Int)) (atI_nat (j := 2) (by rfl)) ?_
          walk_at "lw go"
          refine g_ixL (SqL.of hl') (at_ints (by omega)) ?_
          walk_at "lw go"
          refine ⟨tyL hl', ?_⟩
          walk_at "lw go"
          refine g_append hl' app ?_
          exact fin _ _ _ _ (Same.refl _) hl' rfl
        | times =>
          walk_at "lw go"
          refine g_ixT (SqT.of hp) (v := .str "times") rfl ?_
          walk_at "lw go"
          refine g_ixT (SqT.of hp) (v := .int (j1 : Int)) (atI_nat (j := 1) (by rfl)) ?_
          walk_at "lw go"
          refine g_ixL (SqL.of hl') (at_ints (by omega)) ?_
          walk_at "lw go"
          refine g_ixT (SqT.of hp) (v := .int (j2 : Int)) (atI_nat (j := 2) (by rfl)) ?_
          walk_at "lw go"
          refine g_ixL (SqL.of hl') (at_ints (by omega)) ?_
          refine g_I hm ?_
          walk_at "lw go"
          refine ⟨tyL hl', ?_⟩
          walk_at "lw go"
          refine g_append hl' app ?_
          exact fin _ _ _ _ (Same.refl _) hl' rfl
        | least =>
          walk_at "lw go"
          refine g_ixT (SqT.of hp) (v := .str "least") rfl ?_
          walk_at "lw go"
          refine g_ixT (SqT.of hp) (v := .int (j1 : Int)) (atI_nat (j := 1) (by rfl)) ?_
          walk_at "lw go"
          refine g_ixL (SqL.of hl') (at_ints (by omega)) ?_
          walk_at "lw go"
          refine g_ixT (SqT.of hp) (v := .int (j2 : Int)) (atI_nat (j := 2) (by rfl)) ?_
          walk_at "lw go"
          refine g_ixL (SqL.of hl') (at_ints (by omega)) ?_
          walk_at "lw go"
          refine ⟨_, _, rfl, ?_⟩
          walk_at "lw go"
          refine ⟨tyL hl', ?_⟩
          walk_at "lw go"
          refine g_append hl' app ?_
          exact fin _ _ _ _ (Same.refl _) hl' rfl
        | most =>
          walk_at "lw go"
          refine g_ixT (SqT.of hp) (v := .str "most") rfl ?_
          walk_at "lw go"
          refine g_ixT (SqT.of hp) (v := .int (j1 : Int)) (atI_nat (j := 1) (by rfl)) ?_
          walk_at "lw go"
          refine g_ixL (SqL.of hl') (at_ints (by omega)) ?_
          walk_at "lw go"
          refine g_ixT (SqT.of hp) (v := .int (j2 : Int)) (atI_nat (j := 2) (by rfl)) ?_
          walk_at "lw go"
          refine g_ixL (SqL.of hl') (at_ints (by omega)) ?_
          walk_at "lw go"
          refine ⟨_, _, rfl, ?_⟩
          walk_at "lw go"
          refine ⟨tyL hl', ?_⟩
          walk_at "lw go"
          refine g_append hl' app ?_
          exact fin _ _ _ _ (Same.refl _) hl' rfl
    · rintro σ H' ⟨o6, o7, o8, rfl, s, hl'⟩
      rw [hwl, List.take_length] at hl'
      have hpos : 0 < st.length := List.length_pos_iff.mpr hne
      walk_at "lw go"
      refine g_ixL (SqL.of hl') (at_last (n := st.length - 1) (by rw [run_len]; omega)) ?_
      exact q _ s
abbrev N_run_steps : List Str := ["some", "seed", "x", "z"]
theorem sc_run_steps : FnScope N_run_steps ["some", "seed", "x", "z"] (defScope s_run_steps) := ⟨rfl, rfl, rfl, by decide +kernel, rfl, by decide +kernel, by decide +kernel⟩
theorem ok_run_steps (F : FnP K "run_steps" s_run_steps f fd) (T : Bi mg) (G : Kn K mg) (D_run_known : Df P w K mg base "run_known" ["some", "seed", "x", "z", "known"] 3 (spRun K)) : FnOk P w K mg base CX0 4 f fd ["some", "seed", "x", "z"] (spRunS K) := by
  refine F.ok sc_run_steps (fun vs H Q E h => ?_) (fun cdv A outer s H vs Q E hr h => ⟨_, PSs.nox
(pss_one (ps_ret (pe_df D_run_known (hr.mono (by first | decide | omega)) (pa_cons (pv 0) (pa_cons (pv 1) (pa_cons (pv 2) (pa_cons (pv 3) (pa_cons pe_non pa_nil)))))))), ?_⟩)
  · obtain ⟨a, ws, st, g, x, z, rfl, _⟩ := h
    rfl
  · obtain ⟨a, ws, st, g, x, z, rfl, h1, h2, h3, h4, h5, h6, h7, q⟩ := h
    walk_at "lw i0"
    walk_at "lw go"
    exact ⟨a, ws, st, g, x, z, rfl, h1, h2, h3, h4, h5, h6, h7, q⟩
abbrev N_value_at : List Str := ["rules", "seed", "x", "z", "steps"]
theorem sc_value_at : FnScope N_value_at ["rules", "seed", "x", "z"] (defScope s_value_at) := ⟨rfl, rfl, rfl, by decide +kernel, rfl, by decide +kernel, by decide +kernel⟩
theorem ok_value_at (F : FnP K "value_at" s_value_at f fd) (T : Bi mg) (G : Kn K mg) (D_steps_of : Df P w K mg base "steps_of" ["rules"] 62 spSteps) (D_must_point : Df P w K mg base "must_point" ["x", "z"] 2 spMustPt) (D_run_steps : Df P w K mg base "run_steps" ["some", "seed", "x", "z"] 4 (spRunS K)) : FnOk P w K mg base CX0 63 f fd ["rules", "seed", "x", "z"] spVal := by
  refine F.ok sc_value_at (fun vs H Q E h => ?_) (fun cdv A outer s H vs Q E hr h => ⟨_, PSs.nox
(pss_cons (ps_set (i := 4) sc_value_at.nd rfl (Or.inl rfl) (pe_df D_steps_of (hr.mono (by first | decide | omega)) (pa_cons (pv 0) pa_nil)))
  (pss_cons (ps_expr (pe_df D_must_point (hr.mono (by first | decide | omega)) (pa_cons (pv 2) (pa_cons (pv 3) pa_nil))))
  (pss_one (ps_ret (pe_df D_run_steps (hr.mono (by first | decide | omega)) (pa_cons (pv 4) (pa_cons (pv 1) (pa_cons (pv 2) (pa_cons (pv 3) pa_nil))))))))), ?_⟩)
  · obtain ⟨u, F, g, x, z, rfl, _⟩ := h
    rfl
  · obtain ⟨u, F, g, x, z, rfl, hF, hG, x0, x1, z0, z1, q⟩ := h
    walk_at "lw i0"
    have hV := stV hG (g := g) (small_pt x0 x1) (small_pt z0 z1)
    walk_at "lw go"
    refine ⟨u, F, rfl, hF, hG, fun lf H2 w2 nlf s5 h2 hS2 => ?_⟩
    walk_at "lw go"
    refine ⟨x, z, rfl, x0, x1, z0, z1, ?_⟩
    walk_at "lw go"
    refine ⟨lf, w2, _, g, x, z, rfl, SqL.of h2, hS2, hV.ok, hV.oks, hV.szd, hV.ne, hV.len, fun H8 s8 => ?_⟩
    rw [hV.val]
    walk_at "lw go"
    exact q _ (s5.trans s8)
abbrev N_steps_range : List Str := ["steps", "seed", "box", "value"]
theorem sc_steps_range : FnScope N_steps_range ["steps", "seed", "box"] (defScope s_steps_range) := ⟨rfl, rfl, rfl, by decide +kernel, rfl, by decide +kernel, by decide +kernel⟩
theorem ok_steps_range (F : FnP K "steps_range" s_steps_range f fd) (T : Bi mg) (G : Kn K mg) (D_run_steps : Df P w K mg base "run_steps" ["some", "seed", "x", "z"] 4 (spRunS K)) (D_ranges_of : Df P w K mg base "ranges_of" ["some", "seed", "box"] 4 (spRgs K)) : FnOk P w K mg base CX0 5 f fd ["steps", "seed", "box"] (spStR K) := by
  refine F.ok sc_steps_range (fun vs H Q E h => ?_) (fun cdv A outer s H vs Q E hr h => ⟨_, PSs.nox
(pss_cons (ps_if (PW.pt (pw_and (pt_cmpR op_eq (pe_ix ix_tup (pv 2) pe_int (fun _ _ => rfl)) (pe_ix ix_tup (pv 2) pe_int (fun _ _ => rfl)) (nomark _)) (pw_and1 (pt_cmpR op_eq (pe_ix ix_tup (pv 2) pe_int (fun _ _ => rfl)) (pe_ix ix_tup (pv 2) pe_int (fun _ _ => rfl)) (nomark _)))))
  (pss_cons (ps_set (i := 3) sc_steps_range.nd rfl (Or.inl rfl) (pe_df D_run_steps (hr.mono (by first | decide | omega)) (pa_cons (pv 0) (pa_cons (pv 1) (pa_cons (pe_ix ix_tup (pv 2) pe_int (fun _ _ => rfl)) (pa_cons (pe_ix ix_tup (pv 2) pe_int (fun _ _ => rfl)) pa_nil))))))
  (pss_one (ps_ret (pe_tup (pa_cons (pv 3) (pa_cons (pv 3) pa_nil))))))
  pss_nil)
  (pss_one (ps_ret (pe_ix ix_list (pe_df D_ranges_of (hr.mono (by first | decide | omega)) (pa_cons (pv 0) (pa_cons (pv 1) (pa_cons (pv 2) pa_nil)))) (pe_un un_neg pe_int) (fun _ _ => rfl))))), ?_⟩)
  · obtain ⟨a, b, ws, st, g, x0, z0, x1, z1, rfl, _⟩ := h
    rfl
  · obtain ⟨a, b, ws, st, g, x0, z0, x1, z1, rfl, hb, h1, h2, h3, h4, hSh, hB, h5, hSz, h6, h7, q⟩ := h
    walk_at "lw i0"
    have hl0 : 0 < st.length := List.length_pos_iff.mpr h6
    walk_at "lw go"
    refine g_ixT (SqT.of hb) (v := .int x0) (atI_nat (j := 0) (by rfl)) ?_
    walk_at "lw go"
    refine g_ixT (SqT.of hb) (v := .int x1) (atI_nat (j := 2) (by rfl)) ?_
    walk_at "lw go"
    have wide : ¬ (x0 = x1 ∧ z0 = z1) → _ := fun hn => show PrTo H Q (((rngA (exactN g) x0 z0 x1 z1).run st).getD (st.length - 1) (0, 0)) by
      unfold rngOf at q
      rw [if_neg hn] at q
      exact q
    refine g_ite (fun e1 => ?_) (fun e1 => ?_)
    · obtain rfl : x0 = x1 := by injection e1
      walk_at "lw go"
      refine g_ixT (SqT.of hb) (v := .int z0) (atI_nat (j := 1) (by rfl)) ?_
      walk_at "lw go"
      refine g_ixT (SqT.of hb) (v := .int z1) (atI_nat (j := 3) (by rfl)) ?_
      walk_at "lw go"
      refine g_ite (fun e2 => ?_) (fun e2 => ?_)
      · obtain rfl : z0 = z1 := by injection e2
        have q' : PrTo H Q (((valA g x0 z0).run st).getD (st.length - 1) 0, ((valA g x0 z0).run st).getD (st.length - 1) 0) := by
          unfold rngOf at q
          rw [if_pos ⟨rfl, rfl⟩] at q
          exact q
        walk_at "lw go"
        refine g_ixT (SqT.of hb) (v := .int x0) (atI_nat (j := 0) (by rfl)) ?_
        walk_at "lw go"
        refine g_ixT (SqT.of hb) (v := .int z0) (atI_nat (j := 1) (by rfl)) ?_
        walk_at "lw go"
        refine ⟨a, ws, st, g, x0, z0, rfl, h1, h2, h3, h4, h5, h6, h7, fun H1 s1 => ?_⟩
        walk_at "lw go"
        exact q'.new rfl rfl s1
      · have q' := wide (fun e => e2 (by rw [e.2]))
        walk_at "lw go"
        refine ⟨a, b, ws, st, g, x0, z0, x0, z1, rfl, h1, h2, h3, h4, SqT.of hb, hB, hSh, hSz, h7, fun l H1 vs' s1 hl hps => ?_⟩
        obtain ⟨p, hp1, hp2⟩ := pr_last hps (run_len _ _) hl0
        walk_at "lw go"
        refine g_ixL (SqL.of hl) hp1 ?_
        exact q' p H1 s1 hp2
    · have q' := wide (fun e => e1 (by rw [e.1]))
      walk_at "lw go"
      refine ⟨a, b, ws, st, g, x0, z0, x1, z1, rfl, h1, h2, h3, h4, SqT.of hb, hB, hSh, hSz, h7, fun l H1 vs' s1 hl hps => ?_⟩
      obtain ⟨p, hp1, hp2⟩ := pr_last hps (run_len _ _) hl0
      walk_at "lw go"
      refine g_ixL (SqL.of hl) hp1 ?_
      exact q' p H1 s1 hp2
abbrev N_bounds_of : List Str := ["rules", "seed", "box", "steps"]
theorem sc_bounds_of : FnScope N_bounds_of ["rules", "seed", "box"] (defScope s_bounds_of) := ⟨rfl, rfl, rfl, by decide +kernel, rfl, by decide +kernel, by decide +kernel⟩
theorem ok_bounds_of (F : FnP K "bounds_of" s_bounds_of f fd) (T : Bi mg) (G : Kn K mg) (D_steps_of : Df P w K mg base "steps_of" ["rules"] 62 spSteps) (D_must_box : Df P w K mg base "must_box" ["box"] 3 spMustBox) (D_steps_range : Df P w K mg base "steps_range" ["steps", "seed", "box"] 5 (spStR K)) : FnOk P w K mg base CX0 63 f fd ["rules", "seed", "box"] spBnds := by
  refine F.ok (k := 62) sc_bounds_of (fun vs H Q E h => ?_) (fun cdv A outer s H vs Q E hr h => ⟨_, PSs.nox
(pss_cons (ps_set (i := 3) sc_bounds_of.nd rfl (Or.inl rfl) (pe_df D_steps_of (hr.mono (by first | decide | omega)) (pa_cons (pv 0) pa_nil)))
  (pss_cons (ps_expr (pe_df D_must_box (hr.mono (by first | decide | omega)) (pa_cons (pv 2) pa_nil)))
  (pss_one (ps_ret (pe_df D_steps_range (hr.mono (by first | decide | omega)) (pa_cons (pv 3) (pa_cons (pv 1) (pa_cons (pv 2) pa_nil)))))))), ?_⟩)
  · obtain ⟨u, F, g, x0, z0, x1, z1, b, rfl, _⟩ := h
    rfl
  · obtain ⟨u, F, g, x0, z0, x1, z1, b, rfl, hF, hG, hb, ho, q⟩ := h
    walk_at "lw i0"
    have hV := stV hG (g := g) (x := x0) (z := z0) (small_pt (by have := ho.1; omega) (by have := ho.1; omega)) (small_pt (by have := ho.2; omega) (by have := ho.2; omega))
    have hB := stB hG (g := g) ho
    walk_at "lw go"
    refine ⟨u, F, rfl, hF, hG, fun lf H2 w2 nlf s5 h2 hS2 => ?_⟩
    walk_at "lw go"
    refine ⟨b, x0, z0, x1, z1, rfl, s5 _ _ hb, ho, ?_⟩
    walk_at "lw go"
    refine ⟨lf, b, w2, _, g, x0, z0, x1, z1, rfl, s5 _ _ hb, SqL.of h2, hS2, hV.ok, hV.oks, hB.sh, hB.box, hV.szd, hB.szr, hV.ne, hV.len, fun t H3 s6 h3 => ?_⟩
    rw [hB.rng] at h3
    exact q t H3 (s5.trans s6) h3
theorem ok_bounds_ofX (F : FnP K "bounds_of" s_bounds_of f fd) (T : Bi mg) (G : Kn K mg) (D_steps_of : Df P w K mg base "steps_of" ["rules"] 62 spSteps) (DX_must_box : DfX P w K mg base "must_box" ["box"] 3 (spMustBoxX K)) (D_steps_range : Df P w K mg base "steps_range" ["steps", "seed", "box"] 5 (spStR K)) : FnOk P w K mg base (L2.CX P w) 63 f fd ["rules", "seed", "box"] (spBndsX K) := by
  refine F.ok (k := 62) sc_bounds_of (fun vs H Q E h => ?_) (fun cdv A outer s H vs Q E hr h => ⟨_,
(pss_cons (ps_set (i := 3) sc_bounds_of.nd rfl (Or.inl rfl) (pe_df D_steps_of (hr.mono (by first | decide | omega)) (pa_cons (pv 0) pa_nil)))
  (pss_cons (ps_expr (pe_dfX DX_must_box (hr.mono (by first | decide | omega)) (takes_of rfl rfl rfl rfl) (pa_cons (pv 2) pa_nil)))
  (pss_one (ps_ret (pe_df D_steps_range (hr.mono (by first | decide | omega)) (pa_cons (pv 3) (pa_cons (pv 1) (pa_cons (pv 2) pa_nil)))))))), ?_⟩)
  · obtain ⟨u, F, g, x0, z0, x1, z1, b, rfl, _⟩ := h
    rfl
  · obtain ⟨u, F, g, x0, z0, x1, z1, b, rfl, hF, hG, hb, ho, eX⟩ := h
    walk_at "lw i0"
    walk_at "lw go"
    refine ⟨u, F, rfl, hF, hG, fun lf H2 w2 nlf s5 h2 hS2 => ?_⟩
    walk_at "lw go"
    refine g_callS ?_
    walk_at "lw go"
    exact ⟨b, x0, z0, x1, z1, rfl, s5 _ _ hb, ho, eX _ s5⟩
abbrev N_law_at : List Str := ["_law_script", "_law_k"]
theorem sc_law_at : FnScope N_law_at ["_law_script", "_law_k"] (defScope s_law_at) := ⟨rfl, rfl, rfl, by decide +kernel, rfl, by decide +kernel, by decide +kernel⟩
theorem ok_law_at (F : FnP K "_law_at" s_law_at f fd) (T : Bi mg) (G : Kn K mg)  : FnOk P w K mg base CX0 1 f fd ["_law_script", "_law_k"] (spAt K) := by
  refine F.ok sc_law_at (fun vs H Q E h => ?_) (fun cdv A outer s H vs Q E hr h => ⟨_, PSs.nox
(pss_cons (ps_if (pt_cmpR op_lt (pv 1) (pe_callB call_len_seq (by rfl) T.len (by decide +kernel) (pa_cons (pv 0) pa_nil)) (nomark _))
  (pss_one (ps_ret (pe_ix ix_list (pv 0) (pv 1) (fun _ _ => rfl))))
  pss_nil)
  (pss_one (ps_ret pe_int))), ?_⟩)
  · obtain ⟨a, ns, k, rfl, _⟩ := h
    rfl
  · obtain ⟨a, ns, k, rfl, hS, hk, q⟩ := h
    walk_at "lw i0"
    walk_at "lw go"
    refine ⟨_, _, rfl, .inl hS, ?_⟩
    walk_at "lw go"
    refine g_ite (fun h => ?_) (fun h => ?_)
    · walk_at "lw go"
      rw [List.length_map] at h
      obtain ⟨m, rfl⟩ : ∃ m : Nat, k = (m : Int) := ⟨k.toNat, by omega⟩
      refine g_ixL hS (v := .int (ns[m]'(by omega))) (atI_nat ?_) (q _)
      rw [List.getElem?_map, List.getElem?_eq_getElem (by omega)]
      rfl
    · walk_at "lw go"
      exact q 0
abbrev N_law_mixed : List Str := ["_law_cell", "_law_k", "_law_number_here"]
theorem sc_law_mixed : FnScope N_law_mixed ["_law_cell", "_law_k"] (defScope s_law_mixed) := ⟨rfl, rfl, rfl, by decide +kernel, rfl, by decide +kernel, by decide +kernel⟩
theorem ok_law_mixed (F : FnP K "_law_mixed" s_law_mixed f fd) (T : Bi mg) (G : Kn K mg)  : FnOk P w K mg base CX0 1 f fd ["_law_cell", "_law_k"] spMixed := by
  refine F.ok sc_law_mixed (fun vs H Q E h => ?_) (fun cdv A outer s H vs Q E hr h => ⟨_, PSs.nox
(pss_cons (ps_set (i := 2) sc_law_mixed.nd rfl (Or.inl rfl) (pe_op op_mod (pe_op op_add (pe_op op_add (pe_op op_add (pe_op op_mul (pv 0) pe_int) (pe_op op_mul (pe_op op_mul pe_int (pv 1)) (pv 1))) (pv 1)) pe_int) pe_int))
  (pss_cons (ps_set (i := 2) sc_law_mixed.nd rfl (Or.inl rfl) (pe_op op_mod (pe_op op_add (pe_op op_mul (pv 2) (pv 2)) pe_int) pe_int))
  (pss_one (ps_ret (pe_op op_mod (pe_op op_mul (pv 2) pe_int) pe_int))))), ?_⟩)
  · obtain ⟨a, k, rfl, _⟩ := h
    rfl
  · obtain ⟨a, k, rfl, h0, h1, q⟩ := h
    walk_at "lw i0"
    walk_at "lw go"
    exact q _
abbrev N_law_purse : List Str := ["_law_script", "_law_at_here", "_law_cell"]
theorem sc_law_purse : FnScope N_law_purse ["_law_script", "_law_at_here"] (defScope s_law_purse) := ⟨rfl, rfl, rfl, by decide +kernel, rfl, by decide +kernel, by decide +kernel⟩
theorem ok_law_purse (F : FnP K "_law_purse" s_law_purse f fd) (T : Bi mg) (G : Kn K mg) (D_law_at : Df P w K mg base "_law_at" ["_law_script", "_law_k"] 1 (spAt K)) : FnOk P w K mg base CX0 2 f fd ["_law_script", "_law_at_here"] (spPurse K) := by
  refine F.ok sc_law_purse (fun vs H Q E h => ?_) (fun cdv A outer s H vs Q E hr h => ⟨_, PSs.nox
(pss_cons (ps_set (i := 2) sc_law_purse.nd rfl (Or.inl rfl) (pe_df D_law_at (hr.mono (by first | decide | omega)) (pa_cons (pv 0) (pa_cons (pv 1) pa_nil))))
  (pss_one (ps_ret (pe_lst (pa_cons (pe_op op_mod (pe_callB (call_max2 rfl) (by rfl) T.max (by decide +kernel) (pa_cons (pe_op op_sub (pv 2) (pe_op op_pow pe_int pe_int)) (pa_cons pe_int pa_nil))) (pe_op op_powW (pe_op op_pow pe_int pe_int) pe_int)) (pa_cons (pe_op op_mod (pv 2) pe_int) (pa_cons (pe_op op_mul pe_int (pv 1)) pa_nil))))))), ?_⟩)
  · obtain ⟨a, ns, k, rfl, _⟩ := h
    rfl
  · obtain ⟨a, ns, k, rfl, hS, hk, hk2, q⟩ := h
    walk_at "lw i0"
    walk_at "lw go"
    refine ⟨a, ns, k, rfl, hS, hk, fun n => ?_⟩
    walk_at "lw go"
    refine ⟨_, _, rfl, ?_⟩
    walk_at "lw go"
    refine ⟨by show 3 ≤ sizeLine; decide, fun p hp => q p _ hp ⟨_, _, _, rfl, by omega, by omega⟩⟩
abbrev N_law_draw : List Str := ["_law_purse_here", "_law_out_of", "_law_drawn", "_law_number_here", "_law_k"]
theorem sc_law_draw : FnScope N_law_draw ["_law_purse_here", "_law_out_of"] (defScope s_law_draw) := ⟨rfl, rfl, rfl, by decide +kernel, rfl, by decide +kernel, by decide +kernel⟩
theorem ok_law_draw (F : FnP K "_law_draw" s_law_draw f fd) (T : Bi mg) (G : Kn K mg) (D_law_mixed : Df P w K mg base "_law_mixed" ["_law_cell", "_law_k"] 1 spMixed) : FnOk P w K mg base CX0 2 f fd ["_law_purse_here", "_law_out_of"] spDraw := by
  refine F.ok sc_law_draw (fun vs H Q E h => ?_) (fun cdv A outer s H vs Q E hr h => ⟨_, PSs.nox
(pss_cons (ps_if (pt_cmpR op_gt (pe_ix ix_list (pv 0) pe_int (fun _ _ => rfl)) pe_int (nomark _))
  (pss_cons (ps_set (i := 2) sc_law_draw.nd rfl (Or.inl rfl) (pe_op op_mod (pe_ix ix_list (pv 0) pe_int (fun _ _ => rfl)) (pv 1)))
  (pss_cons (ps_asg (pe_op op_fdivW (pe_ix ix_list (pv 0) pe_int (fun _ _ => rfl)) (pv 1)) (pg_sub (pv 0) pe_int set_list))
  (pss_one (ps_ret (pv 2)))))
  pss_nil)
  (pss_cons (ps_set (i := 3) sc_law_draw.nd rfl (Or.inl rfl) pe_int)
  (pss_cons (ps_for PassesOwn.never rfl (pi_range1 (by rfl) T.range (pa_cons (pe_op op_add pe_int (pe_op op_fdiv (pe_bits (pv 1)) pe_int)) pa_nil)) (pg_name (i := 4) sc_law_draw.nd rfl (Or.inl rfl))
  (pss_cons (ps_asg (pe_op op_add (pe_ix ix_list (pv 0) pe_int (fun _ _ => rfl)) pe_int) (pg_sub (pv 0) pe_int set_list))
  (pss_one (ps_set (i := 3) sc_law_draw.nd rfl (Or.inl rfl) (pe_op op_add (pe_op op_mul (pv 3) pe_int) (pe_df D_law_mixed (hr.mono (by first | decide | omega)) (pa_cons (pe_ix ix_list (pv 0) pe_int (fun _ _ => rfl)) (pa_cons (pe_ix ix_list (pv 0) pe_int (fun _ _ => rfl)) pa_nil))))))))
  (pss_one (ps_ret (pe_op op_mod (pv 3) (pv 1))))))), ?_⟩)
  · obtain ⟨p, n, m, o, rfl, _⟩ := h
    rfl
  · obtain ⟨p, n, m, o, rfl, hp, ⟨a, b, c, rfl, c0, c1⟩, hm, hn, hn2, q⟩ := h
    walk_at "lw i0"
    walk_at "lw go"
    refine g_ixL (SqL.of hp) (v := .int a) rfl ?_
    walk_at "lw go"
    refine g_ite (fun h => ?_) (fun h => ?_)
    · walk_at "lw go"
      refine g_ixL (SqL.of hp) (v := .int a) rfl ?_
      walk_at "lw go"
      refine g_ixL (SqL.of hp) (v := .int a) rfl ?_
      walk_at "lw go"
      refine g_setL (m := 0) hp (by rfl) ?_
      walk_at "lw go"
      exact q _ _ (Int.emod_nonneg _ (by omega)) (Int.emod_lt_of_pos _ hn) ⟨_, _, _, rfl, c0, by omega⟩
    · have hb := bits_le (n := n) (by omega) hn2
      walk_at "lw go"
      refine ⟨_, rfl, by omega, by omega, for_range (fun i σ H' => ∃ (num c' : Int) (v4 : Option V), σ = [some (.ref p), some (.int n), none, some (.int num), v4] ∧ H' p = some (.lst [.int a, .int b, .int c']) ∧ 0 ≤ c' ∧ c' ≤ c + i ∧ (∀ x, upd H' p x = upd H p x) ∧ upd H p (.lst [.int a, .int b, .int c']) = H')
        ⟨0, c, none, rfl, hp, c0, by omega, fun _ => rfl, upd_self hp⟩ ?_ ?_⟩
      · rintro i σ H' hi ⟨num, c', v4, rfl, hp', d0, d1, hu, he⟩
        walk_at "lw go"
        refine g_ixL (SqL.of hp') (v := .int c') rfl ?_
        walk_at "lw go"
        refine g_setL (m := 2) hp' (by rfl) ?_
        walk_at "lw go"
        refine g_ixL (SqL.of upd_same) (v := .int b) rfl ?_
        walk_at "lw go"
        refine g_ixL (SqL.of upd_same) (v := .int (c' + 1)) rfl ?_
        walk_at "lw go"
        refine ⟨b, c' + 1, rfl, by omega, by omega, fun x => ?_⟩
        walk_at "lw go"
        refine ⟨_, c' + 1, _, rfl, upd_same, by omega, by omega, fun x => ?_, ?_⟩
        · rw [upd_upd]; exact hu x
        · exact (hu _).symm
      · rintro σ H' ⟨num, c', v4, rfl, hp', d0, d1, hu, he⟩
        walk_at "lw go"
        rw [← he]
        exact q _ _ (Int.emod_nonneg _ (by omega)) (Int.emod_lt_of_pos _ hn) ⟨_, _, _, rfl, d0, by omega⟩
abbrev N_law_whole : List Str := ["_law_found"]
theorem sc_law_whole : FnScope N_law_whole ["_law_found"] (defScope s_law_whole) := ⟨rfl, rfl, rfl, by decide +kernel, rfl, by decide +kernel, by decide +kernel⟩
theorem ok_law_whole (F : FnP K "_law_whole" s_law_whole f fd) (T : Bi mg) (G : Kn K mg)  : FnOk P w K mg base CX0 1 f fd ["_law_found"] spWhole := by
  refine F.ok sc_law_whole (fun vs H Q E h => ?_) (fun cdv A outer s H vs Q E hr h => ⟨_, PSs.nox
(pss_one (ps_ret (pe_and (pe_callB call_isi (by rfl) T.isinstance (by decide +kernel) (pa_cons (pv 0) (pa_cons (pe_bltn (v := .ty "int") (by rfl) T.int boot_int rfl) pa_nil))) (pe_one (pe_not (pe_callB call_isi (by rfl) T.isinstance (by decide +kernel) (pa_cons (pv 0) (pa_cons (pe_bltn (v := .ty "bool") (by rfl) T.bool boot_bool rfl) pa_nil)))))))), ?_⟩)
  · obtain ⟨n, rfl, _⟩ := h
    rfl
  · obtain ⟨n, rfl, q⟩ := h
    walk_at "lw i0"
    walk_at "lw go"
    refine ⟨_, _, _, _, true, rfl, .ty "int", .base (.int _), kit_ty (by decide +kernel), ?_⟩
    walk_at "lw go"
    refine ⟨_, _, _, _, false, rfl, .ty "bool", .base (.int _), kit_ty (by decide +kernel), ?_⟩
    walk_at "lw go"
    exact q
abbrev N_law_knot : List Str := ["_law_grain_here", "_law_salted", "_law_left", "_law_right_here", "_law_one", "_law_two_here", "_law_three"]
theorem sc_law_knot : FnScope N_law_knot ["_law_grain_here", "_law_salted", "_law_left", "_law_right_here"] (defScope s_law_knot) := ⟨rfl, rfl, rfl, by decide +kernel, rfl, by decide +kernel, by decide +kernel⟩
theorem ok_law_knot (F : FnP K "_law_knot" s_law_knot f fd) (T : Bi mg) (G : Kn K mg)  : FnOk P w K mg base CX0 1 f fd ["_law_grain_here", "_law_salted", "_law_left", "_law_right_here"] spKnot := by
  refine F.ok sc_law_knot (fun vs H Q E h => ?_) (fun cdv A outer s H vs Q E hr h => ⟨_, PSs.nox
(pss_cons (ps_set (i := 4) sc_law_knot.nd rfl (Or.inl rfl) (pe_op op_mod (pe_op op_add (pe_op op_add (pv 0) (pe_op op_mul pe_int (pv 1))) pe_int) pe_int))
  (pss_cons (ps_set (i := 5) sc_law_knot.nd rfl (Or.inl rfl) (pe_op op_mod (pe_op op_add (pe_op op_add (pe_op op_mul (pv 4) (pv 4)) (pe_op op_mul pe_int (pv 2))) pe_int) pe_int))
  (pss_cons (ps_set (i := 6) sc_law_knot.nd rfl (Or.inl rfl) (pe_op op_mod (pe_op op_add (pe_op op_add (pe_op op_mul (pv 5) (pv 5)) (pe_op op_mul pe_int (pv 3))) pe_int) pe_int))
  (pss_one (ps_ret (pe_op op_mod (pe_op op_mod (pe_op op_add (pe_op op_mul (pv 6) (pv 6)) (pv 6)) pe_int) pe_int)))))), ?_⟩)
  · obtain ⟨a, b, c, d, rfl, _⟩ := h
    rfl
  · obtain ⟨a, b, c, d, rfl, q⟩ := h
    walk_at "lw i0"
    walk_at "lw go"
    exact q
abbrev N_law_noise : List Str := ["_law_field_here", "_law_grain_here", "_law_x", "_law_z", "_law_wide", "_law_p", "_law_q", "_law_i", "_law_j", "_law_whole_sum"]
theorem sc_law_noise : FnScope N_law_noise ["_law_field_here", "_law_grain_here", "_law_x", "_law_z"] (defScope s_law_noise) := ⟨rfl, rfl, rfl, by decide +kernel, rfl, by decide +kernel, by decide +kernel⟩
theorem ok_law_noise (F : FnP K "_law_noise" s_law_noise f fd) (T : Bi mg) (G : Kn K mg) (D_law_knot : Df P w K mg base "_law_knot" ["_law_grain_here", "_law_salted", "_law_left", "_law_right_here"] 1 spKnot) : FnOk P w K mg base CX0 2 f fd ["_law_field_here", "_law_grain_here", "_law_x", "_law_z"] spNoise := by
  refine F.ok sc_law_noise (fun vs H Q E h => ?_) (fun cdv A outer s H vs Q E hr h => ⟨_, PSs.nox
(pss_cons (ps_set (i := 4) sc_law_noise.nd rfl (Or.inl rfl) (pe_op op_shl pe_int (pe_ix ix_tup (pv 0) pe_int (fun _ _ => rfl))))
  (pss_cons (ps_set (i := 5) sc_law_noise.nd rfl (Or.inl rfl) (pe_op op_mod (pv 2) (pv 4)))
  (pss_cons (ps_set (i := 6) sc_law_noise.nd rfl (Or.inl rfl) (pe_op op_mod (pv 3) (pv 4)))
  (pss_cons (ps_set (i := 7) sc_law_noise.nd rfl (Or.inl rfl) (pe_op op_fdivW (pe_op op_sub (pv 2) (pv 5)) (pv 4)))
  (pss_cons (ps_set (i := 8) sc_law_noise.nd rfl (Or.inl rfl) (pe_op op_fdivW (pe_op op_sub (pv 3) (pv 6)) (pv 4)))
  (pss_cons (ps_set (i := 9) sc_law_noise.nd rfl (Or.inl rfl) (pe_op op_mul (pe_op op_mul (pe_op op_sub (pv 4) (pv 5)) (pe_op op_sub (pv 4) (pv 6))) (pe_df D_law_knot (hr.mono (by first | decide | omega)) (pa_cons (pv 1) (pa_cons (pe_ix ix_tup (pv 0) pe_int (fun _ _ => rfl)) (pa_cons (pv 7) (pa_cons (pv 8) pa_nil)))))))
  (pss_cons (ps_set (i := 9) sc_law_noise.nd rfl (Or.inl rfl) (pe_op op_add (pv 9) (pe_op op_mul (pe_op op_mul (pv 5) (pe_op op_sub (pv 4) (pv 6))) (pe_df D_law_knot (hr.mono (by first | decide | omega)) (pa_cons (pv 1) (pa_cons (pe_ix ix_tup (pv 0) pe_int (fun _ _ => rfl)) (pa_cons (pe_op op_add (pv 7) pe_int) (pa_cons (pv 8) pa_nil))))))))
  (pss_cons (ps_set (i := 9) sc_law_noise.nd rfl (Or.inl rfl) (pe_op op_add (pv 9) (pe_op op_mul (pe_op op_mul (pe_op op_sub (pv 4) (pv 5)) (pv 6)) (pe_df D_law_knot (hr.mono (by first | decide | omega)) (pa_cons (pv 1) (pa_cons (pe_ix ix_tup (pv 0) pe_int (fun _ _ => rfl)) (pa_cons (pv 7) (pa_cons (pe_op op_add (pv 8) pe_int) pa_nil))))))))
  (pss_one (ps_ret (pe_op op_fdivW (pe_op op_add (pv 9) (pe_op op_mul (pe_op op_mul (pv 5) (pv 6)) (pe_df D_law_knot (hr.mono (by first | decide | omega)) (pa_cons (pv 1) (pa_cons (pe_ix ix_tup (pv 0) pe_int (fun _ _ => rfl)) (pa_cons (pe_op op_add (pv 7) pe_int) (pa_cons (pe_op op_add (pv 8) pe_int) pa_nil))))))) (pe_op op_mul (pv 4) (pv 4))))))))))))), ?_⟩)
  · obtain ⟨p, w, s, l, g, x, z, r, rfl, _⟩ := h
    rfl
  · obtain ⟨p, w, s0, l, g, x, z, r, rfl, hp, h0, h8, q⟩ := h
    walk_at "lw i0"
    obtain ⟨S, e1, e2, S0, S1, SS0, SS1⟩ := log_pow h0 h8
    have hq : noiseL g s0 l x z = ((S - x % S) * (S - z % S) * knotL g s0 ((x - x % S) / S) ((z - z % S) / S) + x % S * (S - z % S) * knotL g s0 ((x - x % S) / S + 1) ((z - z % S) / S) + (S - x % S) * (z % S) * knotL g s0 ((x - x % S) / S) ((z - z % S) / S + 1) + x % S * (z % S) * knotL g s0 ((x - x % S) / S + 1) ((z - z % S) / S + 1)) / (S * S) := by
      rw [← e2]; rfl
    rw [hq] at q
    have p0 := Int.emod_nonneg x (show S ≠ 0 by omega)
    have p1 := Int.emod_lt_of_pos x S0
    have q0 := Int.emod_nonneg z (show S ≠ 0 by omega)
    have q1 := Int.emod_lt_of_pos z S0
    walk_at "lw go"
    refine g_ixT (SqT.of hp) (v := .int l) (atI_nat (j := 2) (by rfl)) ?_
    walk_at "lw go"
    refine g_I ⟨h0, by omega, by decide⟩ ?_
    rw [e1]
    walk_at "lw go"
    refine g_ixT (SqT.of hp) (v := .int s0) (atI_nat (j := 1) (by rfl)) ?_
    walk_at "lw go"
    refine ⟨_, _, _, _, rfl, ?_⟩
    walk_at "lw go"
    refine g_ixT (SqT.of hp) (v := .int s0) (atI_nat (j := 1) (by rfl)) ?_
    walk_at "lw go"
    refine ⟨_, _, _, _, rfl, ?_⟩
    walk_at "lw go"
    refine g_ixT (SqT.of hp) (v := .int s0) (atI_nat (j := 1) (by rfl)) ?_
    walk_at "lw go"
    refine ⟨_, _, _, _, rfl, ?_⟩
    walk_at "lw go"
    refine g_ixT (SqT.of hp) (v := .int s0) (atI_nat (j := 1) (by rfl)) ?_
    walk_at "lw go"
    refine ⟨_, _, _, _, rfl, ?_⟩
    walk_at "lw go"
    exact q
abbrev N_law_two : List Str := ["_law_word", "_law_a", "_law_b"]
theorem sc_law_two : FnScope N_law_two ["_law_word", "_law_a", "_law_b"] (defScope s_law_two) := ⟨rfl, rfl, rfl, by decide +kernel, rfl, by decide +kernel, by decide +kernel⟩
theorem ok_law_two (F : FnP K "_law_two" s_law_two f fd) (T : Bi mg) (G : Kn K mg)  : FnOk P w K mg base CX0 1 f fd ["_law_word", "_law_a", "_law_b"] spTwo := by
  refine F.ok sc_law_two (fun vs H Q E h => ?_) (fun cdv A outer s H vs Q E hr h => ⟨_, PSs.nox
(pss_cons (ps_if (pt_cmpR op_eq (pv 0) pe_str (nomark _))
  (pss_one (ps_ret (pe_op op_add (pv 1) (pv 2))))
  pss_nil)
  (pss_cons (ps_if (pt_cmpR op_eq (pv 0) pe_str (nomark _))
  (pss_one (ps_ret (pe_op op_sub (pv 1) (pv 2))))
  pss_nil)
  (pss_cons (ps_if (pt_cmpR op_eq (pv 0) pe_str (nomark _))
  (pss_one (ps_ret (pe_op op_mulW (pv 1) (pv 2))))
  pss_nil)
  (pss_cons (ps_if (pt_cmpR op_eq (pv 0) pe_str (nomark _))
  (pss_one (ps_ret (pe_callB (call_min2 rfl) (by rfl) T.min (by decide +kernel) (pa_cons (pv 1) (pa_cons (pv 2) pa_nil)))))
  pss_nil)
  (pss_one (ps_ret (pe_callB (call_max2 rfl) (by rfl) T.max (by decide +kernel) (pa_cons (pv 1) (pa_cons (pv 2) pa_nil))))))))), ?_⟩)
  · obtain ⟨w, a, b, rfl, _⟩ := h
    rfl
  · obtain ⟨w, a, b, rfl, hm, q⟩ := h
    walk_at "lw i0"
    cases w with
    | plus => walk_at "lw go"; exact q
    | less => walk_at "lw go"; exact q
    | times =>
      have hm' := hm rfl
      walk_at "lw go"
      exact q
    | least => walk_at "lw go"; exact ⟨_, _, rfl, q⟩
    | most => walk_at "lw go"; exact ⟨_, _, rfl, q⟩
abbrev N_law_value : List Str := ["_law_field_here", "_law_grain_here", "_law_x", "_law_z", "_law_bound", "_law_word", "_law_inner", "_law_lower"]
theorem sc_law_value : FnScope N_law_value ["_law_field_here", "_law_grain_here", "_law_x", "_law_z", "_law_bound"] (defScope s_law_value) := ⟨rfl, rfl, rfl, by decide +kernel, rfl, by decide +kernel, by decide +kernel⟩
theorem ok_law_value (F : FnP K "_law_value" s_law_value f fd) (T : Bi mg) (G : Kn K mg) (D_law_two : Df P w K mg base "_law_two" ["_law_word", "_law_a", "_law_b"] 1 spTwo) (D_law_noise : Df P w K mg base "_law_noise" ["_law_field_here", "_law_grain_here", "_law_x", "_law_z"] 2 spNoise) (gm : mg "_law_value" = some (.ref f)) (kp : PySem.W.keepIn K (.ref f) = true) (bb : Binds K fd ["_law_field_here", "_law_grain_here", "_law_x", "_law_z", "_law_bound"] []) : ∀ n : Nat, FnOk P w K mg base CX0 (n + 3) f fd ["_law_field_here", "_law_grain_here", "_law_x", "_law_z", "_law_bound"] (spValue n)
  | 0 => by
    refine F.ok sc_law_value (fun vs H Q E h => ?_) (fun cdv A outer s H vs Q E hr h => ?_)
    · obtain ⟨u, F, g, x, z, d, m, k, r, δ, rfl, _⟩ := h
      rfl
    · exact (spValue_zero h).elim
  | n + 1 => by
    have D_law_value : Df P w K mg base "_law_value" ["_law_field_here", "_law_grain_here", "_law_x", "_law_z", "_law_bound"] (n + 3) (spValue n) := ⟨f, fd, gm, kp, bb, ok_law_value F T G D_law_two D_law_noise gm kp bb n⟩
    refine F.ok (k := n + 3) sc_law_value (fun vs H Q E h => ?_) (fun cdv A outer s H vs Q E hr h => ⟨_, PSs.nox
(pss_cons (ps_set (i := 5) sc_law_value.nd rfl (Or.inl rfl) (pe_ix ix_tup (pv 0) pe_int (fun _ _ => rfl)))
  (pss_cons (ps_if (pt_cmpR op_eq (pv 5) pe_str (nomark _))
  (pss_one (ps_ret (pe_ix ix_tup (pv 0) pe_int (fun _ _ => rfl))))
  pss_nil)
  (pss_cons (ps_if (pt_cmpR op_eq (pv 5) pe_str (nomark _))
  (pss_one (ps_ret (pv 2)))
  pss_nil)
  (pss_cons (ps_if (pt_cmpR op_eq (pv 5) pe_str (nomark _))
  (pss_one (ps_ret (pv 3)))
  pss_nil)
  (pss_cons (ps_if (pt_cmpR op_eq (pv 5) pe_str (nomark _))
  (pss_one (ps_ret (pe_df D_law_noise (hr.mono (by first | decide | omega)) (pa_cons (pv 0) (pa_cons (pv 1) (pa_cons (pv 2) (pa_cons (pv 3) pa_nil)))))))
  pss_nil)
  (pss_cons (ps_if (pt_cmpR op_eq (pv 5) pe_str (nomark _))
  (pss_one (ps_ret (pe_df D_law_value (hr.mono (by first | decide | omega)) (pa_cons (pe_ix ix_tup (pe_dget (hu_of hr) (pv 4) (pe_ix ix_tup (pv 0) pe_int (fun _ _ => rfl)) (fun _ _ => rfl)) pe_int (fun _ _ => rfl)) (pa_cons (pv 1) (pa_cons (pv 2) (pa_cons (pv 3) (pa_cons (pe_ix ix_tup (pe_dget (hu_of hr) (pv 4) (pe_ix ix_tup (pv 0) pe_int (fun _ _ => rfl)) (fun _ _ => rfl)) pe_int (fun _ _ => rfl)) pa_nil))))))))
  pss_nil)
  (pss_cons (ps_if (pt_cmpR op_eq (pv 5) pe_str (nomark _))
  (pss_cons (ps_set (i := 6) sc_law_value.nd rfl (Or.inl rfl) (pe_callTy call_dictD (by rfl) T.dict (by decide +kernel) (pa_cons (pv 4) pa_nil)))
  (pss_cons (ps_dput (hu_of hr) (pv 6) (pe_ix ix_tup (pv 0) pe_int (fun _ _ => rfl)) (pe_tup (pa_cons (pe_ix ix_tup (pv 0) pe_int (fun _ _ => rfl)) (pa_cons (pv 4) pa_nil))) rfl)
  (pss_one (ps_ret (pe_df D_law_value (hr.mono (by first | decide | omega)) (pa_cons (pe_ix ix_tup (pv 0) pe_int (fun _ _ => rfl)) (pa_cons (pv 1) (pa_cons (pv 2) (pa_cons (pv 3) (pa_cons (pv 6) pa_nil))))))))))
  pss_nil)
  (pss_cons (ps_if (pt_cmpR op_eq (pv 5) pe_str (nomark _))
  (pss_one (ps_ret (pe_df D_law_value (hr.mono (by first | decide | omega)) (pa_cons (pe_ix ix_tup (pv 0) pe_int (fun _ _ => rfl)) (pa_cons (pv 1) (pa_cons (pe_op op_add (pv 2) (pe_ix ix_tup (pv 0) pe_int (fun _ _ => rfl))) (pa_cons (pe_op op_add (pv 3) (pe_ix ix_tup (pv 0) pe_int (fun _ _ => rfl))) (pa_cons (pv 4) pa_nil))))))))
  pss_nil)
  (pss_cons (ps_if (pt_cmpR op_eq (pv 5) pe_str (nomark _))
  (pss_one (ps_ret (pe_op op_fdivW (pe_df D_law_value (hr.mono (by first | decide | omega)) (pa_cons (pe_ix ix_tup (pv 0) pe_int (fun _ _ => rfl)) (pa_cons (pv 1) (pa_cons (pv 2) (pa_cons (pv 3) (pa_cons (pv 4) pa_nil)))))) (pe_ix ix_tup (pv 0) pe_int (fun _ _ => rfl)))))
  pss_nil)
  (pss_cons (ps_if (pt_cmpR op_eq (pv 5) pe_str (nomark _))
  (pss_cons (ps_set (i := 7) sc_law_value.nd rfl (Or.inl rfl) (pe_cmpR op_lt (pe_df D_law_value (hr.mono (by first | decide | omega)) (pa_cons (pe_ix ix_tup (pv 0) pe_int (fun _ _ => rfl)) (pa_cons (pv 1) (pa_cons (pv 2) (pa_cons (pv 3) (pa_cons (pv 4) pa_nil)))))) (pe_df D_law_value (hr.mono (by first | decide | omega)) (pa_cons (pe_ix ix_tup (pv 0) pe_int (fun _ _ => rfl)) (pa_cons (pv 1) (pa_cons (pv 2) (pa_cons (pv 3) (pa_cons (pv 4) pa_nil)))))) (nomark _)))
  (pss_one (ps_ret (pe_df D_law_value (hr.mono (by first | decide | omega)) (pa_cons (pe_ix ix_tup (pv 0) (pe_op op_sub pe_int (pe_callTy call_int1 (by rfl) T.int (by decide +kernel) (pa_cons (pv 7) pa_nil))) (fun _ _ => rfl)) (pa_cons (pv 1) (pa_cons (pv 2) (pa_cons (pv 3) (pa_cons (pv 4) pa_nil)))))))))
  pss_nil)
  (pss_one (ps_ret (pe_df D_law_two (hr.mono (by first | decide | omega)) (pa_cons (pv 5) (pa_cons (pe_df D_law_value (hr.mono (by first | decide | omega)) (pa_cons (pe_ix ix_tup (pv 0) pe_int (fun _ _ => rfl)) (pa_cons (pv 1) (pa_cons (pv 2) (pa_cons (pv 3) (pa_cons (pv 4) pa_nil)))))) (pa_cons (pe_df D_law_value (hr.mono (by first | decide | omega)) (pa_cons (pe_ix ix_tup (pv 0) pe_int (fun _ _ => rfl)) (pa_cons (pv 1) (pa_cons (pv 2) (pa_cons (pv 3) (pa_cons (pv 4) pa_nil)))))) pa_nil)))))))))))))))), ?_⟩)
    · obtain ⟨u, F, g, x, z, d, m, k, r, δ, rfl, _⟩ := h
      rfl
    · obtain ⟨u, F, g, x, z, d, m, k, r, δ, rfl, hF, hE, hB, hn, hO, hv, hk, hx, hz, hr2, q⟩ := h
      walk_at "lw i0"
      cases F with
      | whole v =>
        obtain ⟨p, rfl, hp⟩ := hF
        walk_at "lw go"
        refine g_ixT (SqT.of hp) (v := .str "whole") rfl ?_
        walk_at "lw go"
        refine g_ixT (SqT.of hp) (v := .int v) rfl ?_
        exact q H (Same.refl H)
      | px =>
        obtain ⟨p, rfl, hp⟩ := hF
        walk_at "lw go"
        refine g_ixT (SqT.of hp) (v := .str "x") rfl ?_
        walk_at "lw go"
        exact q H (Same.refl H)
      | pz =>
        obtain ⟨p, rfl, hp⟩ := hF
        walk_at "lw go"
        refine g_ixT (SqT.of hp) (v := .str "z") rfl ?_
        walk_at "lw go"
        exact q H (Same.refl H)
      | noise s l =>
        obtain ⟨p, rfl, hp⟩ := hF
        walk_at "lw go"
        refine g_ixT (SqT.of hp) (v := .str "noise") rfl ?_
        walk_at "lw go"
        refine ⟨p, _, s, l, g, x, z, [], rfl, hp, hO.2.1, hO.2.2, ?_⟩
        exact q H (Same.refl H)
      | two w a b =>
        obtain ⟨p, u1, u2, rfl, hp, hF1, hF2⟩ := hF
        have hn' : 1 + max (udep a δ) (udep b δ) ≤ n + 1 := hn
        have hvt : vb (.two w (expand a r) (expand b r)) k ≤ 400000 := hv
        have hv2 := vb_two w (expand a r) (expand b r) k
        walk_at "lw go"
        refine g_ixT (SqT.of hp) (v := .str w.word) rfl ?_
        walk_at "lw go"
        refine g_ixT (SqT.of hp) (v := u1) (atI_nat (j := 1) (by rfl)) ?_
        walk_at "lw go"
        refine ⟨u1, a, g, x, z, d, m, k, r, δ, rfl, hF1, hE, hB.1, by omega, hO.1, by omega, hk, hx, hz, by omega, fun H1 s1 => ?_⟩
        walk_at "lw go"
        refine g_ixT (SqT.of (s1 _ _ hp)) (v := u2) (atI_nat (j := 2) (by rfl)) ?_
        walk_at "lw go"
        refine ⟨u2, b, g, x, z, d, m, k, r, δ, rfl, hF2.mono (same_tup s1), hE.mono s1, hB.2, by omega, hO.2, by omega, hk, hx, hz, by omega, fun H2 s2 => ?_⟩
        walk_at "lw go"
        refine ⟨w, _, _, rfl, fun e => ?_, q H2 (s1.trans s2)⟩
        subst e
        exact mul_ok hO.1 hO.2 hk hx hz hvt
      | over a v =>
        obtain ⟨p, u1, rfl, hp, hF1⟩ := hF
        have hn' : 1 + udep a δ ≤ n + 1 := hn
        have hO1 : 1 ≤ v := hO.2.1
        have hO2 : v ≤ 1000000000 := hO.2.2
        walk_at "lw go"
        refine g_ixT (SqT.of hp) (v := .str "over") rfl ?_
        walk_at "lw go"
        refine g_ixT (SqT.of hp) (v := u1) (atI_nat (j := 1) (by rfl)) ?_
        walk_at "lw go"
        refine ⟨u1, a, g, x, z, d, m, k, r, δ, rfl, hF1, hE, hB, by omega, hO.1, hv, hk, hx, hz, by omega, fun H1 s1 => ?_⟩
        walk_at "lw go"
        refine g_ixT (SqT.of (s1 _ _ hp)) (v := .int v) (atI_nat (j := 2) (by rfl)) ?_
        walk_at "lw go"
        exact q H1 s1
      | bel a b c e =>
        obtain ⟨p, u1, u2, u3, u4, rfl, hp, hF1, hF2, hF3, hF4⟩ := hF
        have hn' : 1 + max (max (udep a δ) (udep b δ)) (max (udep c δ) (udep e δ)) ≤ n + 1 := hn
        have hvt : max (max (vb (expand a r) k) (vb (expand b r) k)) (max (vb (expand c r) k) (vb (expand e r) k)) ≤ 400000 := hv
        walk_at "lw go"
        refine g_ixT (SqT.of hp) (v := .str "below") rfl ?_
        walk_at "lw go"
        refine g_ixT (SqT.of hp) (v := u1) (atI_nat (j := 1) (by rfl)) ?_
        walk_at "lw go"
        refine ⟨u1, a, g, x, z, d, m, k, r, δ, rfl, hF1, hE, hB.1, by omega, hO.1, by omega, hk, hx, hz, by omega, fun H1 s1 => ?_⟩
        walk_at "lw go"
        refine g_ixT (SqT.of (s1 _ _ hp)) (v := u2) (atI_nat (j := 2) (by rfl)) ?_
        walk_at "lw go"
        refine ⟨u2, b, g, x, z, d, m, k, r, δ, rfl, hF2.mono (same_tup s1), hE.mono s1, hB.2.1, by omega, hO.2.1, by omega, hk, hx, hz, by omega, fun H2 s2 => ?_⟩
        walk_at "lw go"
        have s12 := s1.trans s2
        refine .inr ⟨_, rfl, ?_⟩
        walk_at "lw go"
        by_cases hlt : valE (expand a r) g x z < valE (expand b r) g x z
        · rw [decide_eq_true hlt]
          refine g_ixT (SqT.of (s12 _ _ hp)) (v := u3) (atI_nat (j := 3) (by rfl)) ?_
          walk_at "lw go"
          refine ⟨u3, c, g, x, z, d, m, k, r, δ, rfl, hF3.mono (same_tup s12), hE.mono s12, hB.2.2.1, by omega, hO.2.2.1, by omega, hk, hx, hz, by omega, fun H3 s3 => ?_⟩
          have hq := q H3 (s12.trans s3)
          have e1 : valE (expand (.bel a b c e) r) g x z = valE (expand c r) g x z := if_pos hlt
          rw [e1] at hq
          exact hq
        · rw [decide_eq_false hlt]
          refine g_ixT (SqT.of (s12 _ _ hp)) (v := u4) (atI_nat (j := 4) (by rfl)) ?_
          walk_at "lw go"
          refine ⟨u4, e, g, x, z, d, m, k, r, δ, rfl, hF4.mono (same_tup s12), hE.mono s12, hB.2.2.2, by omega, hO.2.2.2, by omega, hk, hx, hz, by omega, fun H3 s3 => ?_⟩
          have hq := q H3 (s12.trans s3)
          have e1 : valE (expand (.bel a b c e) r) g x z = valE (expand e r) g x z := if_neg hlt
          rw [e1] at hq
          exact hq
      | shift dx dz a =>
        obtain ⟨p, u1, rfl, hp, hF1⟩ := hF
        have hn' : 1 + udep a δ ≤ n + 1 := hn
        walk_at "lw go"
        refine g_ixT (SqT.of hp) (v := .str "shift") rfl ?_
        walk_at "lw go"
        refine g_ixT (SqT.of hp) (v := u1) (atI_nat (j := 3) (by rfl)) ?_
        walk_at "lw go"
        refine g_ixT (SqT.of hp) (v := .int dx) (atI_nat (j := 1) (by rfl)) ?_
        walk_at "lw go"
        refine g_ixT (SqT.of hp) (v := .int dz) (atI_nat (j := 2) (by rfl)) ?_
        walk_at "lw go"
        exact ⟨u1, a, g, x + dx, z + dz, d, m, k + 1, r, δ, rfl, hF1, hE, hB, by omega, hO.2.2, hv, by omega, shift_bits hO.1 hk hx, shift_bits hO.2.1 hk hz, by omega, q⟩
      | lt y a b =>
        obtain ⟨p, u1, u2, rfl, hp, hF1, hF2⟩ := hF
        have hn' : 1 + udep b ((y, udep a δ) :: δ) ≤ n + 1 := hn
        obtain ⟨kvs, hd, hkl⟩ := hE.dict
        walk_at "lw go"
        refine g_ixT (SqT.of hp) (v := .str "let") rfl ?_
        walk_at "lw go"
        refine ⟨d, kvs, rfl, .inl hd, fun i hi => ?_⟩
        walk_at "lw go"
        have s1 := same_new (o := .dK kvs) hi
        refine g_ixT (SqT.of (s1 _ _ hp)) (v := u1) (atI_nat (j := 2) (by rfl)) ?_
        walk_at "lw go"
        refine ⟨by show 2 ≤ sizeLine; decide, fun t ht => ?_⟩
        have s2 := s1.trans (same_new (o := .tup [u1, .ref d]) ht)
        have nti : i ≠ t := ne_of_none upd_same ht
        walk_at "lw go"
        refine g_ixT (SqT.of (s2 _ _ hp)) (v := .str y) (atI_nat (j := 1) (by rfl)) ?_
        refine ⟨i, _, rfl, DPut.k (k := Sum.inr y) (by rw [upd_ne nti, upd_same]) (small1000 (by omega)), ?_⟩
        have s3 : Same H (upd (upd (upd H i (.dK kvs)) t (.tup [u1, .ref d])) i (.dK (putK kvs (Sum.inr y) (.ref t)))) := same_put s2 hi
        walk_at "lw go"
        refine g_ixT (SqT.of (s3 _ _ hp)) (v := u2) (atI_nat (j := 3) (by rfl)) ?_
        walk_at "lw go"
        refine ⟨u2, b, g, x, z, i, m + 1, k, (y, expand a r) :: r, (y, udep a δ) :: δ, rfl, hF2.mono (same_tup s3), hE.let_ hd s3 upd_same (by rw [upd_ne nti.symm, upd_same]) hF1 hB.1, hB.2, by omega, hO, hv, hk, hx, hz, by simp only [List.length_cons]; omega, fun H1 s4 => ?_⟩
        exact q H1 (s3.trans s4)
      | nm y =>
        obtain ⟨p, rfl, hp⟩ := hF
        have hn' : 1 + (δ.lookup y).getD 0 ≤ n + 1 := hn
        obtain ⟨m', rfl⟩ : ∃ m', m = m' + 1 := by
          cases m with
          | zero =>
            obtain ⟨_, e1, _⟩ := hE
            subst e1
            cases hB
          | succ m' => exact ⟨m', rfl⟩
        obtain ⟨kvs, hd, hkl, hq⟩ := hE
        obtain ⟨t, u', d', F', r', δ', a1, a2, a3, a4, a5, a6, a7, a8⟩ := hq y hB
        walk_at "lw go"
        refine g_ixT (SqT.of hp) (v := .str "name") rfl ?_
        walk_at "lw go"
        refine g_ixT (SqT.of hp) (v := .str y) (atI_nat (j := 1) (by rfl)) ?_
        refine ⟨d, .ref t, rfl, a1 ▸ DGet.k (k := Sum.inr y) hd, ?_⟩
        walk_at "lw go"
        refine g_ixT (SqT.of a2) (v := u') (atI_nat (j := 0) (by rfl)) ?_
        walk_at "lw go"
        refine g_ixT (SqT.of hp) (v := .str y) (atI_nat (j := 1) (by rfl)) ?_
        refine ⟨d, .ref t, rfl, a1 ▸ DGet.k (k := Sum.inr y) hd, ?_⟩
        walk_at "lw go"
        refine g_ixT (SqT.of a2) (v := .ref d') (atI_nat (j := 1) (by rfl)) ?_
        walk_at "lw go"
        have hO' : OkE (look r y) := hO
        have hv' : vb (look r y) k ≤ 400000 := hv
        refine ⟨u', F', g, x, z, d', m', k, r', δ', rfl, a3, a4, a5, by omega, by rw [a6]; exact hO', by rw [a6]; exact hv', hk, hx, hz, by omega, fun H1 s1 => ?_⟩
        rw [a6]
        exact q H1 s1
abbrev N_law_noise_range : List Str := ["_law_field_here", "_law_grain_here", "_law_area_here", "_law_wide", "_law_left", "_law_low", "_law_right_here", "_law_high", "_law_columns", "_law_lines", "_law_some", "_law_i", "_law_j", "_law_x"]
theorem sc_law_noise_range : FnScope N_law_noise_range ["_law_field_here", "_law_grain_here", "_law_area_here"] (defScope s_law_noise_range) := ⟨rfl, rfl, rfl, by decide +kernel, rfl, by decide +kernel, by decide +kernel⟩
theorem ok_law_noise_range (F : FnP K "_law_noise_range" s_law_noise_range f fd) (T : Bi mg) (G : Kn K mg) (D_law_noise : Df P w K mg base "_law_noise" ["_law_field_here", "_law_grain_here", "_law_x", "_law_z"] 2 spNoise) : FnOk P w K mg base CX0 3 f fd ["_law_field_here", "_law_grain_here", "_law_area_here"] spNR := by
  refine F.ok sc_law_noise_range (fun vs H Q E h => ?_) (fun cdv A outer s H vs Q E hr h => ⟨_, PSs.nox
(pss_cons (ps_set (i := 3) sc_law_noise_range.nd rfl (Or.inl rfl) (pe_op op_shl pe_int (pe_ix ix_tup (pv 0) pe_int (fun _ _ => rfl))))
  (pss_cons (ps_asg (pv 2) (pg_tup (by rfl) (pgs_cons (pg_name (i := 4) sc_law_noise_range.nd rfl (Or.inl rfl)) (pgs_cons (pg_name (i := 5) sc_law_noise_range.nd rfl (Or.inl rfl)) (pgs_cons (pg_name (i := 6) sc_law_noise_range.nd rfl (Or.inl rfl)) (pgs_cons (pg_name (i := 7) sc_law_noise_range.nd rfl (Or.inl rfl)) pgs_nil))))))
  (pss_cons (ps_set (i := 8) sc_law_noise_range.nd rfl (Or.inl rfl) (pe_op op_add (pe_op op_sub (pe_op op_fdivW (pv 6) (pv 3)) (pe_op op_fdivW (pv 4) (pv 3))) pe_int))
  (pss_cons (ps_set (i := 9) sc_law_noise_range.nd rfl (Or.inl rfl) (pe_op op_add (pe_op op_sub (pe_op op_fdivW (pv 7) (pv 3)) (pe_op op_fdivW (pv 5) (pv 3))) pe_int))
  (pss_cons (ps_if (pt_cmpR op_gt (pe_op op_mul (pv 8) (pv 9)) pe_int (nomark _))
  (pss_one (ps_ret (pe_tup (pa_cons pe_int (pa_cons pe_int pa_nil)))))
  pss_nil)
  (pss_cons (ps_set (i := 10) sc_law_noise_range.nd rfl (Or.inl rfl) (pe_lst pa_nil))
  (pss_cons (ps_for PassesOwn.never rfl (pi_range2 (by rfl) T.range (pa_cons (pe_op op_fdivW (pv 4) (pv 3)) (pa_cons (pe_op op_add (pe_op op_fdivW (pv 6) (pv 3)) pe_int) pa_nil))) (pg_name (i := 11) sc_law_noise_range.nd rfl (Or.inl rfl))
  (pss_one (ps_for PassesOwn.never rfl (pi_range2 (by rfl) T.range (pa_cons (pe_op op_fdivW (pv 5) (pv 3)) (pa_cons (pe_op op_add (pe_op op_fdivW (pv 7) (pv 3)) pe_int) pa_nil))) (pg_name (i := 12) sc_law_noise_range.nd rfl (Or.inl rfl))
  (pss_one (ps_for PassesOwn.never rfl (pi_list (pe_lst (pa_cons (pe_callB (call_max2 rfl) (by rfl) T.max (by decide +kernel) (pa_cons (pv 4) (pa_cons (pe_op op_mul (pv 11) (pv 3)) pa_nil))) (pa_cons (pe_callB (call_min2 rfl) (by rfl) T.min (by decide +kernel) (pa_cons (pv 6) (pa_cons (pe_op op_sub (pe_op op_add (pe_op op_mul (pv 11) (pv 3)) (pv 3)) pe_int) pa_nil))) pa_nil)))) (pg_name (i := 13) sc_law_noise_range.nd rfl (Or.inl rfl))
  (pss_cons (ps_expr (pe_bm PySem.F.plainAttrs_list PySem.F.slot_list_append PySem.F.type_list_append mt_append (pv 10) (pa_cons (pe_df D_law_noise (hr.mono (by first | decide | omega)) (pa_cons (pv 0) (pa_cons (pv 1) (pa_cons (pv 13) (pa_cons (pe_callB (call_max2 rfl) (by rfl) T.max (by decide +kernel) (pa_cons (pv 5) (pa_cons (pe_op op_mul (pv 12) (pv 3)) pa_nil))) pa_nil))))) pa_nil)))
  (pss_one (ps_expr (pe_bm PySem.F.plainAttrs_list PySem.F.slot_list_append PySem.F.type_list_append mt_append (pv 10) (pa_cons (pe_df D_law_noise (hr.mono (by first | decide | omega)) (pa_cons (pv 0) (pa_cons (pv 1) (pa_cons (pv 13) (pa_cons (pe_callB (call_min2 rfl) (by rfl) T.min (by decide +kernel) (pa_cons (pv 7) (pa_cons (pe_op op_sub (pe_op op_add (pe_op op_mul (pv 12) (pv 3)) (pv 3)) pe_int) pa_nil))) pa_nil))))) pa_nil))))))))))
  (pss_one (ps_ret (pe_tup (pa_cons (pe_callB (cr_min rfl) (by rfl) T.min (by decide +kernel) (pa_cons (pv 10) pa_nil)) (pa_cons (pe_callB (cr_max rfl) (by rfl) T.max (by decide +kernel) (pa_cons (pv 10) pa_nil)) pa_nil)))))))))))), ?_⟩)
  · obtain ⟨p, ar, w, s0, l, g, x0, z0, x1, z1, r, rfl, _⟩ := h
    rfl
  · obtain ⟨p, ar, w, s0, l, g, x0, z0, x1, z1, r, rfl, hp, har, h0, h8, hx, hz, bx0, bx1, bz0, bz1, q⟩ := h
    walk_at "lw i0"
    obtain ⟨S, e1, e2, S0, S1, SS0, SS1⟩ := log_pow h0 h8
    have b1 := natAbs_div_le x0 (show 1 ≤ S by omega)
    have b2 := natAbs_div_le x1 (show 1 ≤ S by omega)
    have b3 := natAbs_div_le z0 (show 1 ≤ S by omega)
    have b4 := natAbs_div_le z1 (show 1 ≤ S by omega)
    have lx : x0 / S ≤ x1 / S := Int.ediv_le_ediv S0 hx
    have lz : z0 / S ≤ z1 / S := Int.ediv_le_ediv S0 hz
    walk_at "lw go"
    refine g_ixT (SqT.of hp) (v := .int l) (atI_nat (j := 2) (by rfl)) ?_
    walk_at "lw go"
    refine g_I ⟨h0, by omega, by decide⟩ ?_
    rw [e1]
    walk_at "lw go"
    refine g_tupT (SqT.of har) rfl ?_
    walk_at "lw go"
    refine g_ite (fun c => ?_) (fun c => ?_)
    · have ex : exactN g s0 l x0 z0 x1 z1 = (0, 65535) := by
        unfold exactN
        simp only
        rw [e2]
        exact if_pos c
      walk_at "lw go"
      exact q.new (by rw [ex]) (by rw [ex]) (Same.refl H)
    · have few : sqs (2 ^ l.toNat) x0 z0 x1 z1 ≤ 64 := by rw [e2]; unfold sqs; omega
      walk_at "lw go"
      refine ⟨by show 0 ≤ sizeLine; decide, fun ls hls => ?_⟩
      obtain ⟨nc, hnc⟩ : ∃ nc : Nat, (x1 / S + 1 - x0 / S).toNat = nc := ⟨_, rfl⟩
      obtain ⟨nl, hnl⟩ : ∃ nl : Nat, (z1 / S + 1 - z0 / S).toNat = nl := ⟨_, rfl⟩
      have cnt : nc * nl ≤ 64 := by
        have e : ((nc * nl : Nat) : Int) = (x1 / S - x0 / S + 1) * (z1 / S - z0 / S + 1) := by
          rw [Int.natCast_mul, show (nc : Int) = x1 / S - x0 / S + 1 by omega, show (nl : Int) = z1 / S - z0 / S + 1 by omega]
        omega
      have c1 : 1 ≤ nc := by omega
      have c2 : 1 ≤ nl := by omega
      have cl : nl ≤ 64 := Nat.le_trans (Nat.le_mul_of_pos_left _ c1) cnt
      walk_at "lw go"
      refine g_rng2 ?_
      walk_at "lw go"
      refine ⟨_, _, rfl, ⟨by omega, by omega, by omega, by omega⟩, ?_⟩
      rw [hnc]
      refine for_range (n := nc) (fun i σ H' => ∃ o11 o12 o13 : Option V, σ = [some (.ref p), some (.int g), some (.ref ar), some (.int S), some (.int x0), some (.int z0), some (.int x1), some (.int z1), some (.int (x1 / S - x0 / S + 1)), some (.int (z1 / S - z0 / S + 1)), some (.ref ls), o11, o12, o13] ∧ Same H H' ∧ H' ls = some (.lst ((gridV g s0 l x0 z0 x1 z1 S i nl).map V.int)))
        ⟨none, none, none, rfl, same_new hls, upd_same⟩ ?_ ?_
      · rintro i σ H1 hi ⟨o11, o12, o13, rfl, s1, f1⟩
        have gi : (gridV g s0 l x0 z0 x1 z1 S i nl).length + 4 * nl ≤ 256 := by
          have e1 := gridV_len g s0 l x0 z0 x1 z1 S i nl
          have e2 : (i + 1) * nl ≤ nc * nl := Nat.mul_le_mul_right _ hi
          rw [Nat.succ_mul] at e2
          omega
        walk_at "lw go"
        refine g_rng2 ?_
        walk_at "lw go"
        refine ⟨_, _, rfl, ⟨by omega, by omega, by omega, by omega⟩, ?_⟩
        rw [hnl]
        refine for_range (n := nl) (fun j σ H' => ∃ o12 o13 : Option V, σ = [some (.ref p), some (.int g), some (.ref ar), some (.int S), some (.int x0), some (.int z0), some (.int x1), some (.int z1), some (.int (x1 / S - x0 / S + 1)), some (.int (z1 / S - z0 / S + 1)), some (.ref ls), some (.int (x0 / S + i)), o12, o13] ∧ Same H H' ∧ H' ls = some (.lst ((gridV g s0 l x0 z0 x1 z1 S i nl ++ lineV g s0 l x0 z0 x1 z1 S (x0 / S + i) j).map V.int)))
          ⟨_, _, rfl, s1, by rw [show lineV g s0 l x0 z0 x1 z1 S (x0 / S + i) 0 = [] from rfl, List.append_nil]; exact f1⟩ ?_ ?_
        · rintro j σ H2 hj ⟨o12, o13, rfl, s2, f2⟩
          have lj := lineV_len g s0 l x0 z0 x1 z1 S (x0 / S + i) j
          obtain ⟨A, hA⟩ : ∃ A, gridV g s0 l x0 z0 x1 z1 S i nl ++ lineV g s0 l x0 z0 x1 z1 S (x0 / S + i) j = A := ⟨_, rfl⟩
          have lA : A.length + 4 ≤ 256 := by rw [← hA, List.length_append]; omega
          rw [hA] at f2
          have hstep : gridV g s0 l x0 z0 x1 z1 S i nl ++ lineV g s0 l x0 z0 x1 z1 S (x0 / S + i) (j + 1) = A ++ sqV g s0 l x0 z0 x1 z1 S (x0 / S + i) (z0 / S + j) := by
            rw [lineV_succ, ← List.append_assoc, hA]
          rw [hstep]
          obtain ⟨I, hI⟩ : ∃ I : Int, x0 / S + i = I := ⟨_, rfl⟩
          obtain ⟨J, hJ⟩ : ∃ J : Int, z0 / S + j = J := ⟨_, rfl⟩
          rw [hI, hJ]
          walk_at "lw go"
          refine ⟨_, _, rfl, ?_⟩
          rw [max_if]
          walk_at "lw go"
          refine ⟨_, _, rfl, ?_⟩
          rw [min_if]
          walk_at "lw go"
          refine ⟨by show 2 ≤ sizeLine; decide, fun l2 hl2 => ?_⟩
          obtain ⟨H3, e3⟩ : ∃ H3, upd H2 l2 (.lst [.int (max x0 (I * S)), .int (min x1 (I * S + S - 1))]) = H3 := ⟨_, rfl⟩
          have s3 : Same H2 H3 := e3 ▸ same_new hl2
          have f3 : H3 l2 = some (.lst (([max x0 (I * S), min x1 (I * S + S - 1)] : List Int).map V.int)) := e3 ▸ upd_same
          rw [e3]
          clear e3
          have ne : l2 ≠ ls := (ne_of_none f2 hl2).symm
          refine ⟨l2, rfl, ⟨_, SqL.of f3⟩, for_list (xs := ([max x0 (I * S), min x1 (I * S + S - 1)] : List Int).map V.int) (fun k σ H' => ∃ o13 : Option V, σ = [some (.ref p), some (.int g), some (.ref ar), some (.int S), some (.int x0), some (.int z0), some (.int x1), some (.int z1), some (.int (x1 / S - x0 / S + 1)), some (.int (z1 / S - z0 / S + 1)), some (.ref ls), some (.int I), some (.int J), o13] ∧ Same H H' ∧ H' l2 = some (.lst (([max x0 (I * S), min x1 (I * S + S - 1)] : List Int).map V.int)) ∧
            H' ls = some (.lst ((A ++ (([max x0 (I * S), min x1 (I * S + S - 1)] : List Int).take k).flatMap fun x => [noiseL g s0 l x (max z0 (J * S)), noiseL g s0 l x (min z1 (J * S + S - 1))]).map V.int)))
            ⟨_, rfl, s2.trans s3, f3, by rw [List.take_zero, List.flatMap_nil, List.append_nil]; exact s3 _ _ f2⟩ (fun k σ H' _ ⟨_, _, _, h, _⟩ => SqL.of h) ?_ ?_⟩
          · rintro k y σ H4 hk ⟨o13, rfl, s4, g4, f4⟩
            obtain ⟨x, hx2, rfl, hk2⟩ := int_at hk
            rw [take_at hx2, List.flatMap_append, ← List.append_assoc]
            obtain ⟨B, hB⟩ : ∃ B, A ++ (([max x0 (I * S), min x1 (I * S + S - 1)] : List Int).take k).flatMap (fun x => [noiseL g s0 l x (max z0 (J * S)), noiseL g s0 l x (min z1 (J * S + S - 1))]) = B := ⟨_, rfl⟩
            have lB : B.length + 2 ≤ 1000 := by
              rw [← hB, List.length_append]
              have h2 : k < 2 := hk2
              rcases (show k = 0 ∨ k = 1 by omega) with rfl | rfl <;> simp <;> omega
            rw [hB] at f4 ⊢
            walk_at "lw go"
            refine ⟨tyL f4, ?_⟩
            walk_at "lw go"
            refine ⟨_, _, rfl, ?_⟩
            rw [max_if]
            walk_at "lw go"
            refine ⟨p, w, s0, l, g, x, _, r, rfl, s4 _ _ hp, h0, h8, ?_⟩
            walk_at "lw go"
            refine g_append f4 (by rw [List.length_map]; exact small1000 (by omega)) ?_
            walk_at "lw go"
            refine ⟨tyL upd_same, ?_⟩
            walk_at "lw go"
            refine ⟨_, _, rfl, ?_⟩
            rw [min_if]
            walk_at "lw go"
            refine ⟨p, w, s0, l, g, x, _, r, rfl, (same_put s4 hls) _ _ hp, h0, h8, ?_⟩
            walk_at "lw go"
            refine g_append upd_same (by rw [List.length_append, List.length_map]; exact small1000 (by simp only [List.length_cons, List.length_nil]; omega)) ?_
            walk_at "lw go"
            refine ⟨_, rfl, same_put (same_put s4 hls) hls, by rw [upd_ne ne, upd_ne ne]; exact g4, ?_⟩
            rw [upd_same]
            simp
          · rintro σ H4 ⟨o13, rfl, s4, g4, f4⟩
            walk_at "lw go"
            exact ⟨_, _, rfl, s4, by rw [f4]; simp [sqV]⟩
        · rintro σ H2 ⟨o12, o13, rfl, s2, f2⟩
          walk_at "lw go"
          exact ⟨_, _, _, rfl, s2, by rw [gridV_succ]; exact f2⟩
      · rintro σ H1 ⟨o11, o12, o13, rfl, s1, f1⟩
        have ex := gridV_exact (g := g) (s := s0) (n := nc) (m := nl) S0 e2 hx hz few (by omega) (by omega)
        have ne : 0 < (gridV g s0 l x0 z0 x1 z1 S nc nl).length := by
          have := Nat.mul_pos c1 c2
          rw [gridV_len]
          omega
        walk_at "lw go"
        refine ⟨ls, _, rfl, SqL.of f1, ne, fun m hm hm2 => ?_⟩
        walk_at "lw go"
        refine ⟨ls, _, rfl, SqL.of f1, ne, fun m' hm' hm2' => ?_⟩
        walk_at "lw go"
        exact q.new (by rw [ex]; exact (lMin_eq hm hm2).symm) (by rw [ex]; exact (lMax_eq hm' hm2').symm) s1
abbrev N_law_two_range : List Str := ["_law_word", "_law_a", "_law_b", "_law_some"]
theorem sc_law_two_range : FnScope N_law_two_range ["_law_word", "_law_a", "_law_b"] (defScope s_law_two_range) := ⟨rfl, rfl, rfl, by decide +kernel, rfl, by decide +kernel, by decide +kernel⟩
theorem ok_law_two_range (F : FnP K "_law_two_range" s_law_two_range f fd) (T : Bi mg) (G : Kn K mg)  : FnOk P w K mg base CX0 1 f fd ["_law_word", "_law_a", "_law_b"] spTwoR := by
  refine F.ok sc_law_two_range (fun vs H Q E h => ?_) (fun cdv A outer s H vs Q E hr h => ⟨_, PSs.nox
(pss_cons (ps_if (pt_cmpR op_eq (pv 0) pe_str (nomark _))
  (pss_one (ps_ret (pe_tup (pa_cons (pe_op op_add (pe_ix ix_tup (pv 1) pe_int (fun _ _ => rfl)) (pe_ix ix_tup (pv 2) pe_int (fun _ _ => rfl))) (pa_cons (pe_op op_add (pe_ix ix_tup (pv 1) pe_int (fun _ _ => rfl)) (pe_ix ix_tup (pv 2) pe_int (fun _ _ => rfl))) pa_nil)))))
  pss_nil)
  (pss_cons (ps_if (pt_cmpR op_eq (pv 0) pe_str (nomark _))
  (pss_one (ps_ret (pe_tup (pa_cons (pe_op op_sub (pe_ix ix_tup (pv 1) pe_int (fun _ _ => rfl)) (pe_ix ix_tup (pv 2) pe_int (fun _ _ => rfl))) (pa_cons (pe_op op_sub (pe_ix ix_tup (pv 1) pe_int (fun _ _ => rfl)) (pe_ix ix_tup (pv 2) pe_int (fun _ _ => rfl))) pa_nil)))))
  pss_nil)
  (pss_cons (ps_if (pt_cmpR op_eq (pv 0) pe_str (nomark _))
  (pss_cons (ps_set (i := 3) sc_law_two_range.nd rfl (Or.inl rfl) (pe_lst (pa_cons (pe_op op_mulW (pe_ix ix_tup (pv 1) pe_int (fun _ _ => rfl)) (pe_ix ix_tup (pv 2) pe_int (fun _ _ => rfl))) (pa_cons (pe_op op_mulW (pe_ix ix_tup (pv 1) pe_int (fun _ _ => rfl)) (pe_ix ix_tup (pv 2) pe_int (fun _ _ => rfl))) (pa_cons (pe_op op_mulW (pe_ix ix_tup (pv 1) pe_int (fun _ _ => rfl)) (pe_ix ix_tup (pv 2) pe_int (fun _ _ => rfl))) (pa_cons (pe_op op_mulW (pe_ix ix_tup (pv 1) pe_int (fun _ _ => rfl)) (pe_ix ix_tup (pv 2) pe_int (fun _ _ => rfl))) pa_nil))))))
  (pss_one (ps_ret (pe_tup (pa_cons (pe_callB (cr_min rfl) (by rfl) T.min (by decide +kernel) (pa_cons (pv 3) pa_nil)) (pa_cons (pe_callB (cr_max rfl) (by rfl) T.max (by decide +kernel) (pa_cons (pv 3) pa_nil)) pa_nil))))))
  pss_nil)
  (pss_cons (ps_if (pt_cmpR op_eq (pv 0) pe_str (nomark _))
  (pss_one (ps_ret (pe_tup (pa_cons (pe_callB (call_min2 rfl) (by rfl) T.min (by decide +kernel) (pa_cons (pe_ix ix_tup (pv 1) pe_int (fun _ _ => rfl)) (pa_cons (pe_ix ix_tup (pv 2) pe_int (fun _ _ => rfl)) pa_nil))) (pa_cons (pe_callB (call_min2 rfl) (by rfl) T.min (by decide +kernel) (pa_cons (pe_ix ix_tup (pv 1) pe_int (fun _ _ => rfl)) (pa_cons (pe_ix ix_tup (pv 2) pe_int (fun _ _ => rfl)) pa_nil))) pa_nil)))))
  pss_nil)
  (pss_one (ps_ret (pe_tup (pa_cons (pe_callB (call_max2 rfl) (by rfl) T.max (by decide +kernel) (pa_cons (pe_ix ix_tup (pv 1) pe_int (fun _ _ => rfl)) (pa_cons (pe_ix ix_tup (pv 2) pe_int (fun _ _ => rfl)) pa_nil))) (pa_cons (pe_callB (call_max2 rfl) (by rfl) T.max (by decide +kernel) (pa_cons (pe_ix ix_tup (pv 1) pe_int (fun _ _ => rfl)) (pa_cons (pe_ix ix_tup (pv 2) pe_int (fun _ _ => rfl)) pa_nil))) pa_nil))))))))), ?_⟩)
  · obtain ⟨w, p1, p2, a, b, rfl, _⟩ := h
    rfl
  · obtain ⟨w, p1, p2, a, b, rfl, h1, h2, hm, q⟩ := h
    walk_at "lw i0"
    cases w with
    | plus =>
      walk_at "lw go"
      refine g_ixT (SqT.of h1) (v := .int a.1) rfl ?_
      walk_at "lw go"
      refine g_ixT (SqT.of h2) (v := .int b.1) rfl ?_
      walk_at "lw go"
      refine g_ixT (SqT.of h1) (v := .int a.2) (atI_nat (j := 1) (by rfl)) ?_
      walk_at "lw go"
      refine g_ixT (SqT.of h2) (v := .int b.2) (atI_nat (j := 1) (by rfl)) ?_
      walk_at "lw go"
      exact q.new rfl rfl (Same.refl H)
    | less =>
      walk_at "lw go"
      refine g_ixT (SqT.of h1) (v := .int a.1) rfl ?_
      walk_at "lw go"
      refine g_ixT (SqT.of h2) (v := .int b.2) (atI_nat (j := 1) (by rfl)) ?_
      walk_at "lw go"
      refine g_ixT (SqT.of h1) (v := .int a.2) (atI_nat (j := 1) (by rfl)) ?_
      walk_at "lw go"
      refine g_ixT (SqT.of h2) (v := .int b.1) rfl ?_
      walk_at "lw go"
      exact q.new rfl rfl (Same.refl H)
    | times =>
      obtain ⟨m1, m2, m3, m4⟩ := hm rfl
      walk_at "lw go"
      refine g_ixT (SqT.of h1) (v := .int a.1) rfl ?_
      walk_at "lw go"
      refine g_ixT (SqT.of h2) (v := .int b.1) rfl ?_
      walk_at "lw go"
      refine g_ixT (SqT.of h1) (v := .int a.1) rfl ?_
      walk_at "lw go"
      refine g_ixT (SqT.of h2) (v := .int b.2) (atI_nat (j := 1) (by rfl)) ?_
      walk_at "lw go"
      refine g_ixT (SqT.of h1) (v := .int a.2) (atI_nat (j := 1) (by rfl)) ?_
      walk_at "lw go"
      refine g_ixT (SqT.of h2) (v := .int b.1) rfl ?_
      walk_at "lw go"
      refine g_ixT (SqT.of h1) (v := .int a.2) (atI_nat (j := 1) (by rfl)) ?_
      walk_at "lw go"
      refine g_ixT (SqT.of h2) (v := .int b.2) (atI_nat (j := 1) (by rfl)) ?_
      walk_at "lw go"
      refine ⟨by show 4 ≤ sizeLine; decide, fun l hl => ?_⟩
      walk_at "lw go"
      refine ⟨l, [a.1 * b.1, a.1 * b.2, a.2 * b.1, a.2 * b.2], rfl, SqL.of upd_same, by show 0 < 4; decide, fun m hm hle => ?_⟩
      walk_at "lw go"
      refine ⟨l, [a.1 * b.1, a.1 * b.2, a.2 * b.1, a.2 * b.2], rfl, SqL.of upd_same, by show 0 < 4; decide, fun m' hm' hle' => ?_⟩
      walk_at "lw go"
      exact q.new (mn4_of hm hle) (mx4_of hm' hle') (same_new hl)
    | least =>
      walk_at "lw go"
      refine g_ixT (SqT.of h1) (v := .int a.1) rfl ?_
      walk_at "lw go"
      refine g_ixT (SqT.of h2) (v := .int b.1) rfl ?_
      walk_at "lw go"
      refine ⟨_, _, rfl, ?_⟩
      walk_at "lw go"
      refine g_ixT (SqT.of h1) (v := .int a.2) (atI_nat (j := 1) (by rfl)) ?_
      walk_at "lw go"
      refine g_ixT (SqT.of h2) (v := .int b.2) (atI_nat (j := 1) (by rfl)) ?_
      walk_at "lw go"
      refine ⟨_, _, rfl, ?_⟩
      walk_at "lw go"
      exact q.new (min_if _ _) (min_if _ _) (Same.refl H)
    | most =>
      walk_at "lw go"
      refine g_ixT (SqT.of h1) (v := .int a.1) rfl ?_
      walk_at "lw go"
      refine g_ixT (SqT.of h2) (v := .int b.1) rfl ?_
      walk_at "lw go"
      refine ⟨_, _, rfl, ?_⟩
      walk_at "lw go"
      refine g_ixT (SqT.of h1) (v := .int a.2) (atI_nat (j := 1) (by rfl)) ?_
      walk_at "lw go"
      refine g_ixT (SqT.of h2) (v := .int b.2) (atI_nat (j := 1) (by rfl)) ?_
      walk_at "lw go"
      refine ⟨_, _, rfl, ?_⟩
      walk_at "lw go"
      exact q.new (max_if _ _) (max_if _ _) (Same.refl H)
abbrev N_law_below_range : List Str := ["_law_a", "_law_b", "_law_yes", "_law_no"]
theorem sc_law_below_range : FnScope N_law_below_range ["_law_a", "_law_b", "_law_yes", "_law_no"] (defScope s_law_below_range) := ⟨rfl, rfl, rfl, by decide +kernel, rfl, by decide +kernel, by decide +kernel⟩
theorem ok_law_below_range (F : FnP K "_law_below_range" s_law_below_range f fd) (T : Bi mg) (G : Kn K mg)  : FnOk P w K mg base CX0 1 f fd ["_law_a", "_law_b", "_law_yes", "_law_no"] spBelR := by
  refine F.ok sc_law_below_range (fun vs H Q E h => ?_) (fun cdv A outer s H vs Q E hr h => ⟨_, PSs.nox
(pss_cons (ps_if (pt_cmpR op_lt (pe_ix ix_tup (pv 0) pe_int (fun _ _ => rfl)) (pe_ix ix_tup (pv 1) pe_int (fun _ _ => rfl)) (nomark _))
  (pss_one (ps_ret (pv 2)))
  pss_nil)
  (pss_cons (ps_if (pt_cmpR op_ge (pe_ix ix_tup (pv 0) pe_int (fun _ _ => rfl)) (pe_ix ix_tup (pv 1) pe_int (fun _ _ => rfl)) (nomark _))
  (pss_one (ps_ret (pv 3)))
  pss_nil)
  (pss_one (ps_ret (pe_tup (pa_cons (pe_callB (call_min2 rfl) (by rfl) T.min (by decide +kernel) (pa_cons (pe_ix ix_tup (pv 2) pe_int (fun _ _ => rfl)) (pa_cons (pe_ix ix_tup (pv 3) pe_int (fun _ _ => rfl)) pa_nil))) (pa_cons (pe_callB (call_max2 rfl) (by rfl) T.max (by decide +kernel) (pa_cons (pe_ix ix_tup (pv 2) pe_int (fun _ _ => rfl)) (pa_cons (pe_ix ix_tup (pv 3) pe_int (fun _ _ => rfl)) pa_nil))) pa_nil))))))), ?_⟩)
  · obtain ⟨p1, p2, p3, p4, a, b, c, d, rfl, _⟩ := h
    rfl
  · obtain ⟨p1, p2, p3, p4, a, b, c, d, rfl, h1, h2, h3, h4, q⟩ := h
    walk_at "lw i0"
    walk_at "lw go"
    refine g_ixT (SqT.of h1) (v := .int a.2) (atI_nat (j := 1) (by rfl)) ?_
    walk_at "lw go"
    refine g_ixT (SqT.of h2) (v := .int b.1) rfl ?_
    walk_at "lw go"
    refine g_ite (fun hlt => ?_) (fun hlt => ?_)
    · walk_at "lw go"
      have e : belR a b c d = c := if_pos hlt
      rw [e] at q
      exact q _ _ (Same.refl H) h3
    · walk_at "lw go"
      refine g_ixT (SqT.of h1) (v := .int a.1) rfl ?_
      walk_at "lw go"
      refine g_ixT (SqT.of h2) (v := .int b.2) (atI_nat (j := 1) (by rfl)) ?_
      walk_at "lw go"
      refine g_ite (fun hge => ?_) (fun hge => ?_)
      · walk_at "lw go"
        have e : belR a b c d = d := by unfold belR; rw [if_neg hlt, if_pos hge]
        rw [e] at q
        exact q _ _ (Same.refl H) h4
      · walk_at "lw go"
        refine g_ixT (SqT.of h3) (v := .int c.1) rfl ?_
        walk_at "lw go"
        refine g_ixT (SqT.of h4) (v := .int d.1) rfl ?_
        walk_at "lw go"
        refine ⟨_, _, rfl, ?_⟩
        walk_at "lw go"
        refine g_ixT (SqT.of h3) (v := .int c.2) (atI_nat (j := 1) (by rfl)) ?_
        walk_at "lw go"
        refine g_ixT (SqT.of h4) (v := .int d.2) (atI_nat (j := 1) (by rfl)) ?_
        walk_at "lw go"
        refine ⟨_, _, rfl, ?_⟩
        walk_at "lw go"
        have e : belR a b c d = (min c.1 d.1, max c.2 d.2) := by unfold belR; rw [if_neg hlt, if_neg hge]
        rw [e] at q
        exact q.new (min_if _ _) (max_if _ _) (Same.refl H)
abbrev N_law_range : List Str := ["_law_field_here", "_law_grain_here", "_law_area_here", "_law_bound", "_law_word", "_law_inner", "_law_far", "_law_a", "_law_b", "_law_yes"]
theorem sc_law_range : FnScope N_law_range ["_law_field_here", "_law_grain_here", "_law_area_here", "_law_bound"] (defScope s_law_range) := ⟨rfl, rfl, rfl, by decide +kernel, rfl, by decide +kernel, by decide +kernel⟩
theorem ok_law_range (F : FnP K "_law_range" s_law_range f fd) (T : Bi mg) (G : Kn K mg) (D_law_two_range : Df P w K mg base "_law_two_range" ["_law_word", "_law_a", "_law_b"] 1 spTwoR) (D_law_noise_range : Df P w K mg base "_law_noise_range" ["_law_field_here", "_law_grain_here", "_law_area_here"] 3 spNR) (D_law_below_range : Df P w K mg base "_law_below_range" ["_law_a", "_law_b", "_law_yes", "_law_no"] 1 spBelR) (gm : mg "_law_range" = some (.ref f)) (kp : PySem.W.keepIn K (.ref f) = true) (bb : Binds K fd ["_law_field_here", "_law_grain_here", "_law_area_here", "_law_bound"] []) : ∀ n : Nat, FnOk P w K mg base CX0 (n + 4) f fd ["_law_field_here", "_law_grain_here", "_law_area_here", "_law_bound"] (spRange n)
  | 0 => by
    refine F.ok sc_law_range (fun vs H Q E h => ?_) (fun cdv A outer s H vs Q E hr h => ?_)
    · obtain ⟨u, F, g, x0, z0, x1, z1, ar, d, m, k, r, δ, rfl, _⟩ := h
      rfl
    · exact (spRange_zero h).elim
  | n + 1 => by
    have D_law_range : Df P w K mg base "_law_range" ["_law_field_here", "_law_grain_here", "_law_area_here", "_law_bound"] (n + 4) (spRange n) := ⟨f, fd, gm, kp, bb, ok_law_range F T G D_law_two_range D_law_noise_range D_law_below_range gm kp bb n⟩
    refine F.ok (k := n + 4) sc_law_range (fun vs H Q E h => ?_) (fun cdv A outer s H vs Q E hr h => ⟨_, PSs.nox
(pss_cons (ps_set (i := 4) sc_law_range.nd rfl (Or.inl rfl) (pe_ix ix_tup (pv 0) pe_int (fun _ _ => rfl)))
  (pss_cons (ps_if (pt_cmpR op_eq (pv 4) pe_str (nomark _))
  (pss_one (ps_ret (pe_tup (pa_cons (pe_ix ix_tup (pv 0) pe_int (fun _ _ => rfl)) (pa_cons (pe_ix ix_tup (pv 0) pe_int (fun _ _ => rfl)) pa_nil)))))
  pss_nil)
  (pss_cons (ps_if (pt_cmpR op_eq (pv 4) pe_str (nomark _))
  (pss_one (ps_ret (pe_tup (pa_cons (pe_ix ix_tup (pv 2) pe_int (fun _ _ => rfl)) (pa_cons (pe_ix ix_tup (pv 2) pe_int (fun _ _ => rfl)) pa_nil)))))
  pss_nil)
  (pss_cons (ps_if (pt_cmpR op_eq (pv 4) pe_str (nomark _))
  (pss_one (ps_ret (pe_tup (pa_cons (pe_ix ix_tup (pv 2) pe_int (fun _ _ => rfl)) (pa_cons (pe_ix ix_tup (pv 2) pe_int (fun _ _ => rfl)) pa_nil)))))
  pss_nil)
  (pss_cons (ps_if (pt_cmpR op_eq (pv 4) pe_str (nomark _))
  (pss_one (ps_ret (pe_df D_law_noise_range (hr.mono (by first | decide | omega)) (pa_cons (pv 0) (pa_cons (pv 1) (pa_cons (pv 2) pa_nil))))))
  pss_nil)
  (pss_cons (ps_if (pt_cmpR op_eq (pv 4) pe_str (nomark _))
  (pss_one (ps_ret (pe_df D_law_range (hr.mono (by first | decide | omega)) (pa_cons (pe_ix ix_tup (pe_dget (hu_of hr) (pv 3) (pe_ix ix_tup (pv 0) pe_int (fun _ _ => rfl)) (fun _ _ => rfl)) pe_int (fun _ _ => rfl)) (pa_cons (pv 1) (pa_cons (pv 2) (pa_cons (pe_ix ix_tup (pe_dget (hu_of hr) (pv 3) (pe_ix ix_tup (pv 0) pe_int (fun _ _ => rfl)) (fun _ _ => rfl)) pe_int (fun _ _ => rfl)) pa_nil)))))))
  pss_nil)
  (pss_cons (ps_if (pt_cmpR op_eq (pv 4) pe_str (nomark _))
  (pss_cons (ps_set (i := 5) sc_law_range.nd rfl (Or.inl rfl) (pe_callTy call_dictD (by rfl) T.dict (by decide +kernel) (pa_cons (pv 3) pa_nil)))
  (pss_cons (ps_dput (hu_of hr) (pv 5) (pe_ix ix_tup (pv 0) pe_int (fun _ _ => rfl)) (pe_tup (pa_cons (pe_ix ix_tup (pv 0) pe_int (fun _ _ => rfl)) (pa_cons (pv 3) pa_nil))) rfl)
  (pss_one (ps_ret (pe_df D_law_range (hr.mono (by first | decide | omega)) (pa_cons (pe_ix ix_tup (pv 0) pe_int (fun _ _ => rfl)) (pa_cons (pv 1) (pa_cons (pv 2) (pa_cons (pv 5) pa_nil)))))))))
  pss_nil)
  (pss_cons (ps_if (pt_cmpR op_eq (pv 4) pe_str (nomark _))
  (pss_cons (ps_set (i := 6) sc_law_range.nd rfl (Or.inl rfl) (pe_tup (pa_cons (pe_op op_add (pe_ix ix_tup (pv 2) pe_int (fun _ _ => rfl)) (pe_ix ix_tup (pv 0) pe_int (fun _ _ => rfl))) (pa_cons (pe_op op_add (pe_ix ix_tup (pv 2) pe_int (fun _ _ => rfl)) (pe_ix ix_tup (pv 0) pe_int (fun _ _ => rfl))) (pa_cons (pe_op op_add (pe_ix ix_tup (pv 2) pe_int (fun _ _ => rfl)) (pe_ix ix_tup (pv 0) pe_int (fun _ _ => rfl))) (pa_cons (pe_op op_add (pe_ix ix_tup (pv 2) pe_int (fun _ _ => rfl)) (pe_ix ix_tup (pv 0) pe_int (fun _ _ => rfl))) pa_nil))))))
  (pss_one (ps_ret (pe_df D_law_range (hr.mono (by first | decide | omega)) (pa_cons (pe_ix ix_tup (pv 0) pe_int (fun _ _ => rfl)) (pa_cons (pv 1) (pa_cons (pv 6) (pa_cons (pv 3) pa_nil))))))))
  pss_nil)
  (pss_cons (ps_set (i := 7) sc_law_range.nd rfl (Or.inl rfl) (pe_df D_law_range (hr.mono (by first | decide | omega)) (pa_cons (pe_ix ix_tup (pv 0) pe_int (fun _ _ => rfl)) (pa_cons (pv 1) (pa_cons (pv 2) (pa_cons (pv 3) pa_nil))))))
  (pss_cons (ps_if (pt_cmpR op_eq (pv 4) pe_str (nomark _))
  (pss_one (ps_ret (pe_tup (pa_cons (pe_op op_fdivW (pe_ix ix_tup (pv 7) pe_int (fun _ _ => rfl)) (pe_ix ix_tup (pv 0) pe_int (fun _ _ => rfl))) (pa_cons (pe_op op_fdivW (pe_ix ix_tup (pv 7) pe_int (fun _ _ => rfl)) (pe_ix ix_tup (pv 0) pe_int (fun _ _ => rfl))) pa_nil)))))
  pss_nil)
  (pss_cons (ps_set (i := 8) sc_law_range.nd rfl (Or.inl rfl) (pe_df D_law_range (hr.mono (by first | decide | omega)) (pa_cons (pe_ix ix_tup (pv 0) pe_int (fun _ _ => rfl)) (pa_cons (pv 1) (pa_cons (pv 2) (pa_cons (pv 3) pa_nil))))))
  (pss_cons (ps_if (pt_cmpR op_eq (pv 4) pe_str (nomark _))
  (pss_cons (ps_set (i := 9) sc_law_range.nd rfl (Or.inl rfl) (pe_df D_law_range (hr.mono (by first | decide | omega)) (pa_cons (pe_ix ix_tup (pv 0) pe_int (fun _ _ => rfl)) (pa_cons (pv 1) (pa_cons (pv 2) (pa_cons (pv 3) pa_nil))))))
  (pss_one (ps_ret (pe_df D_law_below_range (hr.mono (by first | decide | omega)) (pa_cons (pv 7) (pa_cons (pv 8) (pa_cons (pv 9) (pa_cons (pe_df D_law_range (hr.mono (by first | decide | omega)) (pa_cons (pe_ix ix_tup (pv 0) pe_int (fun _ _ => rfl)) (pa_cons (pv 1) (pa_cons (pv 2) (pa_cons (pv 3) pa_nil))))) pa_nil))))))))
  pss_nil)
  (pss_one (ps_ret (pe_df D_law_two_range (hr.mono (by first | decide | omega)) (pa_cons (pv 4) (pa_cons (pv 7) (pa_cons (pv 8) pa_nil)))))))))))))))))), ?_⟩)
    · obtain ⟨u, F, g, x0, z0, x1, z1, ar, d, m, k, r, δ, rfl, _⟩ := h
      rfl
    · obtain ⟨u, F, g, x0, z0, x1, z1, ar, d, m, k, r, δ, rfl, hF, har, hE, hB, hn, hO, hv, hk, hx, hz, hW, hr2, q⟩ := h
      walk_at "lw i0"
      cases F with
      | whole v =>
        obtain ⟨p, rfl, hp⟩ := hF
        walk_at "lw go"
        refine g_ixT (SqT.of hp) (v := .str "whole") rfl ?_
        walk_at "lw go"
        refine g_ixT (SqT.of hp) (v := .int v) (atI_nat (j := 1) (by rfl)) ?_
        walk_at "lw go"
        refine g_ixT (SqT.of hp) (v := .int v) (atI_nat (j := 1) (by rfl)) ?_
        walk_at "lw go"
        exact q.new rfl rfl (Same.refl H)
      | px =>
        obtain ⟨p, rfl, hp⟩ := hF
        walk_at "lw go"
        refine g_ixT (SqT.of hp) (v := .str "x") rfl ?_
        walk_at "lw go"
        refine g_ixT (SqT.of har) (v := .int x0) (atI_nat (j := 0) (by rfl)) ?_
        walk_at "lw go"
        refine g_ixT (SqT.of har) (v := .int x1) (atI_nat (j := 2) (by rfl)) ?_
        walk_at "lw go"
        exact q.new rfl rfl (Same.refl H)
      | pz =>
        obtain ⟨p, rfl, hp⟩ := hF
        walk_at "lw go"
        refine g_ixT (SqT.of hp) (v := .str "z") rfl ?_
        walk_at "lw go"
        refine g_ixT (SqT.of har) (v := .int z0) (atI_nat (j := 1) (by rfl)) ?_
        walk_at "lw go"
        refine g_ixT (SqT.of har) (v := .int z1) (atI_nat (j := 3) (by rfl)) ?_
        walk_at "lw go"
        exact q.new rfl rfl (Same.refl H)
      | noise s l =>
        obtain ⟨p, rfl, hp⟩ := hF
        obtain ⟨w1, w2, w3, w4, w5, w6⟩ := hW
        walk_at "lw go"
        refine g_ixT (SqT.of hp) (v := .str "noise") rfl ?_
        walk_at "lw go"
        exact ⟨p, ar, _, s, l, g, x0, z0, x1, z1, [], rfl, hp, har, hO.2.1, hO.2.2, w1, w2, by omega, by omega, by omega, by omega, q⟩
      | two w a b =>
        obtain ⟨p, u1, u2, rfl, hp, hF1, hF2⟩ := hF
        have hn' : 1 + max (udep a δ) (udep b δ) ≤ n + 1 := hn
        have hvt : vb (.two w (expand a r) (expand b r)) k ≤ 400000 := hv
        have hv2 := vb_two w (expand a r) (expand b r) k
        have W' := hW.le (n' := n) (by omega)
        walk_at "lw go"
        refine g_ixT (SqT.of hp) (v := .str w.word) rfl ?_
        walk_at "lw go"
        refine g_ixT (SqT.of hp) (v := u1) (atI_nat (j := 1) (by rfl)) ?_
        walk_at "lw go"
        refine ⟨u1, a, g, x0, z0, x1, z1, ar, d, m, k, r, δ, rfl, hF1, har, hE, hB.1, by omega, hO.1, by omega, hk, hx, hz, W', by omega, fun pa H1 s1 hpa => ?_⟩
        walk_at "lw go"
        refine g_ixT (SqT.of (s1 _ _ hp)) (v := u2) (atI_nat (j := 2) (by rfl)) ?_
        walk_at "lw go"
        refine ⟨u2, b, g, x0, z0, x1, z1, ar, d, m, k, r, δ, rfl, hF2.mono (same_tup s1), s1 _ _ har, hE.mono s1, hB.2, by omega, hO.2, by omega, hk, hx, hz, W', by omega, fun pb H2 s2 hpb => ?_⟩
        walk_at "lw go"
        have ra := range_bits (exact_ok g) (expand a r) x0 z0 x1 z1 k hO.1 hk hx hz
        have rb := range_bits (exact_ok g) (expand b r) x0 z0 x1 z1 k hO.2 hk hx hz
        refine ⟨w, pa, pb, _, _, rfl, s2 _ _ hpa, hpb, fun e => ?_, q.later (s1.trans s2)⟩
        subst e
        have hvs : vb (expand a r) k + vb (expand b r) k ≤ 400000 := hvt
        have ra' := ra.mono (Nat.le_succ _)
        have rb' := rb.mono (Nat.le_succ _)
        have wm : ∀ {i j : Int}, i.natAbs < 2 ^ (vb (expand a r) k + 1) → j.natAbs < 2 ^ (vb (expand b r) k + 1) → CMulW i j := fun h1 h2 => wide_mul h1 h2 (Nat.succ_pos _) (Nat.succ_pos _) (by omega)
        exact ⟨wm ra'.1 rb'.1, wm ra'.1 rb'.2, wm ra'.2 rb'.1, wm ra'.2 rb'.2⟩
      | over a v =>
        obtain ⟨p, u1, rfl, hp, hF1⟩ := hF
        have hn' : 1 + udep a δ ≤ n + 1 := hn
        have hO1 : 1 ≤ v := hO.2.1
        have hO2 : v ≤ 1000000000 := hO.2.2
        walk_at "lw go"
        refine g_ixT (SqT.of hp) (v := .str "over") rfl ?_
        walk_at "lw go"
        refine g_ixT (SqT.of hp) (v := u1) (atI_nat (j := 1) (by rfl)) ?_
        walk_at "lw go"
        refine ⟨u1, a, g, x0, z0, x1, z1, ar, d, m, k, r, δ, rfl, hF1, har, hE, hB, by omega, hO.1, hv, hk, hx, hz, hW.le (by omega), by omega, fun pa H1 s1 hpa => ?_⟩
        walk_at "lw go"
        refine g_ixT (SqT.of hpa) (v := .int (rangeG (exactN g) (expand a r) x0 z0 x1 z1).1) (atI_nat (j := 0) (by rfl)) ?_
        walk_at "lw go"
        refine g_ixT (SqT.of (s1 _ _ hp)) (v := .int v) (atI_nat (j := 2) (by rfl)) ?_
        walk_at "lw go"
        refine g_ixT (SqT.of hpa) (v := .int (rangeG (exactN g) (expand a r) x0 z0 x1 z1).2) (atI_nat (j := 1) (by rfl)) ?_
        walk_at "lw go"
        refine g_ixT (SqT.of (s1 _ _ hp)) (v := .int v) (atI_nat (j := 2) (by rfl)) ?_
        walk_at "lw go"
        exact q.new rfl rfl s1
      | bel a b c e =>
        obtain ⟨p, u1, u2, u3, u4, rfl, hp, hF1, hF2, hF3, hF4⟩ := hF
        have hn' : 1 + max (max (udep a δ) (udep b δ)) (max (udep c δ) (udep e δ)) ≤ n + 1 := hn
        have hvt : max (max (vb (expand a r) k) (vb (expand b r) k)) (max (vb (expand c r) k) (vb (expand e r) k)) ≤ 400000 := hv
        have W' := hW.le (n' := n) (by omega)
        walk_at "lw go"
        refine g_ixT (SqT.of hp) (v := .str "below") rfl ?_
        walk_at "lw go"
        refine g_ixT (SqT.of hp) (v := u1) (atI_nat (j := 1) (by rfl)) ?_
        walk_at "lw go"
        refine ⟨u1, a, g, x0, z0, x1, z1, ar, d, m, k, r, δ, rfl, hF1, har, hE, hB.1, by omega, hO.1, by omega, hk, hx, hz, W', by omega, fun pa H1 s1 hpa => ?_⟩
        walk_at "lw go"
        refine g_ixT (SqT.of (s1 _ _ hp)) (v := u2) (atI_nat (j := 2) (by rfl)) ?_
        walk_at "lw go"
        refine ⟨u2, b, g, x0, z0, x1, z1, ar, d, m, k, r, δ, rfl, hF2.mono (same_tup s1), s1 _ _ har, hE.mono s1, hB.2.1, by omega, hO.2.1, by omega, hk, hx, hz, W', by omega, fun pb H2 s2 hpb => ?_⟩
        walk_at "lw go"
        have s12 := s1.trans s2
        refine g_ixT (SqT.of (s12 _ _ hp)) (v := u3) (atI_nat (j := 3) (by rfl)) ?_
        walk_at "lw go"
        refine ⟨u3, c, g, x0, z0, x1, z1, ar, d, m, k, r, δ, rfl, hF3.mono (same_tup s12), s12 _ _ har, hE.mono s12, hB.2.2.1, by omega, hO.2.2.1, by omega, hk, hx, hz, W', by omega, fun pc H3 s3 hpc => ?_⟩
        walk_at "lw go"
        have s13 := s12.trans s3
        refine g_ixT (SqT.of (s13 _ _ hp)) (v := u4) (atI_nat (j := 4) (by rfl)) ?_
        walk_at "lw go"
        refine ⟨u4, e, g, x0, z0, x1, z1, ar, d, m, k, r, δ, rfl, hF4.mono (same_tup s13), s13 _ _ har, hE.mono s13, hB.2.2.2, by omega, hO.2.2.2, by omega, hk, hx, hz, W', by omega, fun pd H4 s4 hpd => ?_⟩
        walk_at "lw go"
        exact ⟨pa, pb, pc, pd, _, _, _, _, rfl, s4 _ _ (s3 _ _ (s2 _ _ hpa)), s4 _ _ (s3 _ _ hpb), s4 _ _ hpc, hpd, q.later (s13.trans s4)⟩
      | shift dx dz a =>
        obtain ⟨p, u1, rfl, hp, hF1⟩ := hF
        have hn' : 1 + udep a δ ≤ n + 1 := hn
        walk_at "lw go"
        refine g_ixT (SqT.of hp) (v := .str "shift") rfl ?_
        walk_at "lw go"
        refine g_ixT (SqT.of har) (v := .int x0) (atI_nat (j := 0) (by rfl)) ?_
        walk_at "lw go"
        refine g_ixT (SqT.of hp) (v := .int dx) (atI_nat (j := 1) (by rfl)) ?_
        walk_at "lw go"
        refine g_ixT (SqT.of har) (v := .int z0) (atI_nat (j := 1) (by rfl)) ?_
        walk_at "lw go"
        refine g_ixT (SqT.of hp) (v := .int dz) (atI_nat (j := 2) (by rfl)) ?_
        walk_at "lw go"
        refine g_ixT (SqT.of har) (v := .int x1) (atI_nat (j := 2) (by rfl)) ?_
        walk_at "lw go"
        refine g_ixT (SqT.of hp) (v := .int dx) (atI_nat (j := 1) (by rfl)) ?_
        walk_at "lw go"
        refine g_ixT (SqT.of har) (v := .int z1) (atI_nat (j := 3) (by rfl)) ?_
        walk_at "lw go"
        refine g_ixT (SqT.of hp) (v := .int dz) (atI_nat (j := 2) (by rfl)) ?_
        walk_at "lw go"
        refine ⟨by show 4 ≤ sizeLine; decide, fun fa hfa => ?_⟩
        have s1 := same_new (o := .tup [.int (x0 + dx), .int (z0 + dz), .int (x1 + dx), .int (z1 + dz)]) hfa
        walk_at "lw go"
        refine g_ixT (SqT.of (s1 _ _ hp)) (v := u1) (atI_nat (j := 3) (by rfl)) ?_
        walk_at "lw go"
        exact ⟨u1, a, g, x0 + dx, z0 + dz, x1 + dx, z1 + dz, fa, d, m, k + 1, r, δ, rfl, hF1.mono (same_tup s1), upd_same, hE.mono s1, hB, by omega, hO.2.2, hv, by omega, ⟨shift_bits hO.1 hk hx.1, shift_bits hO.1 hk hx.2⟩, ⟨shift_bits hO.2.1 hk hz.1, shift_bits hO.2.1 hk hz.2⟩, hW.shift hO.1 hO.2.1, by omega, q.later s1⟩
      | lt y a b =>
        obtain ⟨p, u1, u2, rfl, hp, hF1, hF2⟩ := hF
        have hn' : 1 + udep b ((y, udep a δ) :: δ) ≤ n + 1 := hn
        obtain ⟨kvs, hd, hkl⟩ := hE.dict
        walk_at "lw go"
        refine g_ixT (SqT.of hp) (v := .str "let") rfl ?_
        walk_at "lw go"
        refine ⟨d, kvs, rfl, .inl hd, fun i hi => ?_⟩
        walk_at "lw go"
        have s1 := same_new (o := .dK kvs) hi
        refine g_ixT (SqT.of (s1 _ _ hp)) (v := u1) (atI_nat (j := 2) (by rfl)) ?_
        walk_at "lw go"
        refine ⟨by show 2 ≤ sizeLine; decide, fun t ht => ?_⟩
        have s2 := s1.trans (same_new (o := .tup [u1, .ref d]) ht)
        have nti : i ≠ t := ne_of_none upd_same ht
        walk_at "lw go"
        refine g_ixT (SqT.of (s2 _ _ hp)) (v := .str y) (atI_nat (j := 1) (by rfl)) ?_
        refine ⟨i, _, rfl, DPut.k (k := Sum.inr y) (by rw [upd_ne nti, upd_same]) (small1000 (by omega)), ?_⟩
        have s3 : Same H (upd (upd (upd H i (.dK kvs)) t (.tup [u1, .ref d])) i (.dK (putK kvs (Sum.inr y) (.ref t)))) := same_put s2 hi
        walk_at "lw go"
        refine g_ixT (SqT.of (s3 _ _ hp)) (v := u2) (atI_nat (j := 3) (by rfl)) ?_
        walk_at "lw go"
        exact ⟨u2, b, g, x0, z0, x1, z1, ar, i, m + 1, k, (y, expand a r) :: r, (y, udep a δ) :: δ, rfl, hF2.mono (same_tup s3), s3 _ _ har, hE.let_ hd s3 upd_same (by rw [upd_ne nti.symm, upd_same]) hF1 hB.1, hB.2, by omega, hO, hv, hk, hx, hz, hW.le (by omega), by simp only [List.length_cons]; omega, q.later s3⟩
      | nm y =>
        obtain ⟨p, rfl, hp⟩ := hF
        have hn' : 1 + (δ.lookup y).getD 0 ≤ n + 1 := hn
        obtain ⟨m', rfl⟩ : ∃ m', m = m' + 1 := by
          cases m with
          | zero =>
            obtain ⟨_, e1, _⟩ := hE
            subst e1
            cases hB
          | succ m' => exact ⟨m', rfl⟩
        obtain ⟨kvs, hd, hkl, hq⟩ := hE
        obtain ⟨t, u', d', F', r', δ', a1, a2, a3, a4, a5, a6, a7, a8⟩ := hq y hB
        walk_at "lw go"
        refine g_ixT (SqT.of hp) (v := .str "name") rfl ?_
        walk_at "lw go"
        refine g_ixT (SqT.of hp) (v := .str y) (atI_nat (j := 1) (by rfl)) ?_
        refine ⟨d, .ref t, rfl, a1 ▸ DGet.k (k := Sum.inr y) hd, ?_⟩
        walk_at "lw go"
        refine g_ixT (SqT.of a2) (v := u') (atI_nat (j := 0) (by rfl)) ?_
        walk_at "lw go"
        refine g_ixT (SqT.of hp) (v := .str y) (atI_nat (j := 1) (by rfl)) ?_
        refine ⟨d, .ref t, rfl, a1 ▸ DGet.k (k := Sum.inr y) hd, ?_⟩
        walk_at "lw go"
        refine g_ixT (SqT.of a2) (v := .ref d') (atI_nat (j := 1) (by rfl)) ?_
        walk_at "lw go"
        have hO' : OkE (look r y) := hO
        have hv' : vb (look r y) k ≤ 400000 := hv
        refine ⟨u', F', g, x0, z0, x1, z1, ar, d', m', k, r', δ', rfl, a3, har, a4, a5, by omega, by rw [a6]; exact hO', by rw [a6]; exact hv', hk, hx, hz, hW.le (by omega), by omega, ?_⟩
        rw [a6]
        exact q
abbrev N_law_number : List Str := ["_law_purse_here", "_law_most", "_law_sign"]
theorem sc_law_number : FnScope N_law_number ["_law_purse_here", "_law_most"] (defScope s_law_number) := ⟨rfl, rfl, rfl, by decide +kernel, rfl, by decide +kernel, by decide +kernel⟩
theorem ok_law_number (F : FnP K "_law_number" s_law_number f fd) (T : Bi mg) (G : Kn K mg) (D_law_draw : Df P w K mg base "_law_draw" ["_law_purse_here", "_law_out_of"] 2 spDraw) : FnOk P w K mg base CX0 3 f fd ["_law_purse_here", "_law_most"] spNumber := by
  refine F.ok sc_law_number (fun vs H Q E h => ?_) (fun cdv A outer s H vs Q E hr h => ⟨_, PSs.nox
(pss_cons (ps_set (i := 2) sc_law_number.nd rfl (Or.inl rfl) (pe_op op_sub pe_int (pe_op op_mul pe_int (pe_df D_law_draw (hr.mono (by first | decide | omega)) (pa_cons (pv 0) (pa_cons pe_int pa_nil))))))
  (pss_one (ps_ret (pe_op op_mul (pv 2) (pe_df D_law_draw (hr.mono (by first | decide | omega)) (pa_cons (pv 0) (pa_cons (pe_ix ix_list (pe_lst (pa_cons pe_int (pa_cons pe_int (pa_cons pe_int (pa_cons (pv 1) pa_nil))))) (pe_df D_law_draw (hr.mono (by first | decide | omega)) (pa_cons (pv 0) (pa_cons pe_int pa_nil))) (fun _ _ => rfl)) pa_nil))))))), ?_⟩)
  · obtain ⟨p, n, m, o, rfl, _⟩ := h
    rfl
  · obtain ⟨p, n, m, o, rfl, hp, hP, hm, hn, hn2, q⟩ := h
    walk_at "lw i0"
    walk_at "lw go"
    refine ⟨p, 2, m, o, rfl, hp, hP, by omega, by decide, by decide, fun g o1 g0 g1 hP1 => ?_⟩
    walk_at "lw go"
    refine ⟨by show 4 ≤ sizeLine; decide, fun l hl => ?_⟩
    have npl : p ≠ l := ne_of_none upd_same hl
    walk_at "lw go"
    refine ⟨p, 4, _, o1, rfl, by rw [upd_ne npl, upd_same], hP1, by omega, by decide, by decide, fun e o2 e0 e1 hP2 => ?_⟩
    have at_ : (upd (upd (upd H p o1) l (.lst [.int 10, .int 100, .int 1000, .int n])) p o2) l = some (.lst [.int 10, .int 100, .int 1000, .int n]) := by
      rw [upd_ne npl.symm, upd_same]
    obtain ⟨v, hv, hv2⟩ := four_at (a := V.int 10) (b := V.int 100) (c := V.int 1000) (d := V.int n) e0 e1
    obtain ⟨k, rfl, k0, k1⟩ : ∃ k : Int, v = .int k ∧ 0 < k ∧ k ≤ max n 1000 := by
      rcases hv2 with rfl | rfl | rfl | rfl
      · exact ⟨10, rfl, by omega, by omega⟩
      · exact ⟨100, rfl, by omega, by omega⟩
      · exact ⟨1000, rfl, by omega, by omega⟩
      · exact ⟨n, rfl, by omega, by omega⟩
    refine g_ixL (SqL.of at_) hv ?_
    walk_at "lw go"
    refine ⟨p, k, _, o2, rfl, upd_same, hP2, by omega, k0, by omega, fun j o3 j0 j1 hP3 => ?_⟩
    rcases (show g = 0 ∨ g = 1 by omega) with rfl | rfl <;>
      (walk_at "lw go"; exact q _ o3 _ (by omega) (by omega) ((Keep.refl.put.new hl).put).put upd_same (hP3.mono (by omega)))
abbrev N_law_leaf : List Str := ["_law_purse_here", "_law_known", "_law_way"]
theorem sc_law_leaf : FnScope N_law_leaf ["_law_purse_here", "_law_known"] (defScope s_law_leaf) := ⟨rfl, rfl, rfl, by decide +kernel, rfl, by decide +kernel, by decide +kernel⟩
theorem ok_law_leaf (F : FnP K "_law_leaf" s_law_leaf f fd) (T : Bi mg) (G : Kn K mg) (D_law_draw : Df P w K mg base "_law_draw" ["_law_purse_here", "_law_out_of"] 2 spDraw) (D_law_number : Df P w K mg base "_law_number" ["_law_purse_here", "_law_most"] 3 spNumber) : FnOk P w K mg base CX0 4 f fd ["_law_purse_here", "_law_known"] spLeaf := by
  refine F.ok sc_law_leaf (fun vs H Q E h => ?_) (fun cdv A outer s H vs Q E hr h => ⟨_, PSs.nox
(pss_cons (ps_set (i := 2) sc_law_leaf.nd rfl (Or.inl rfl) (pe_df D_law_draw (hr.mono (by first | decide | omega)) (pa_cons (pv 0) (pa_cons pe_int pa_nil))))
  (pss_cons (ps_if (pt_cmpR op_eq (pv 2) pe_int (nomark _))
  (pss_one (ps_ret (pe_tup (pa_cons pe_str (pa_cons (pe_df D_law_number (hr.mono (by first | decide | omega)) (pa_cons (pv 0) (pa_cons pe_int pa_nil))) pa_nil)))))
  pss_nil)
  (pss_cons (ps_if (pt_cmpR op_eq (pv 2) pe_int (nomark _))
  (pss_one (ps_ret (pe_ix ix_list (pe_lst (pa_cons (pe_tup (pa_cons pe_str pa_nil)) (pa_cons (pe_tup (pa_cons pe_str pa_nil)) pa_nil))) (pe_df D_law_draw (hr.mono (by first | decide | omega)) (pa_cons (pv 0) (pa_cons pe_int pa_nil))) (fun _ _ => rfl))))
  pss_nil)
  (pss_cons (ps_if (PW.pt (pw_and (pt_cmpR op_eq (pv 2) pe_int (nomark _)) (pw_and1 (pt_cmpR (op_neD hr.units) (pv 1) (pe_lst pa_nil) (nomark _)))))
  (pss_one (ps_ret (pe_tup (pa_cons pe_str (pa_cons (pe_ix ix_list (pv 1) (pe_df D_law_draw (hr.mono (by first | decide | omega)) (pa_cons (pv 0) (pa_cons (pe_callB call_len_seq (by rfl) T.len (by decide +kernel) (pa_cons (pv 1) pa_nil)) pa_nil))) (fun _ _ => rfl)) pa_nil)))))
  pss_nil)
  (pss_one (ps_ret (pe_tup (pa_cons pe_str (pa_cons (pe_ix ix_list (pe_lst (pa_cons pe_int (pa_cons pe_int (pa_cons pe_int (pa_cons (pe_op op_pow pe_int pe_int) pa_nil))))) (pe_df D_law_draw (hr.mono (by first | decide | omega)) (pa_cons (pv 0) (pa_cons pe_int pa_nil))) (fun _ _ => rfl)) (pa_cons (pe_df D_law_draw (hr.mono (by first | decide | omega)) (pa_cons (pv 0) (pa_cons pe_int pa_nil))) pa_nil)))))))))), ?_⟩)
  · obtain ⟨p, kl, ks, m, o, rfl, _⟩ := h
    rfl
  · obtain ⟨p, kl, ks, m, o, rfl, hp, hP, hm, hkl, hkn, hks, q⟩ := h
    walk_at "lw i0"
    have nk := purse_ne hp hP hkl
    walk_at "lw go"
    refine ⟨p, 6, m, o, rfl, hp, hP, by omega, by decide, by decide, fun g o1 g0 g1 hP1 => ?_⟩
    have K1 : Keep p H (upd H p o1) := Keep.refl.put
    walk_at "lw go"
    refine g_ite (fun h => ?_) (fun h => ?_)
    · walk_at "lw go"
      refine ⟨p, 100000, _, o1, rfl, upd_same, hP1, by omega, by decide, by decide, fun n o2 H2 n0 n1 k2 hp2 hP2 => ?_⟩
      walk_at "lw go"
      refine ⟨by show 2 ≤ sizeLine; decide, fun t ht => ?_⟩
      have npt : p ≠ t := ne_of_none hp2 ht
      exact q _ (.whole n) _ o2 ⟨t, rfl, upd_same⟩ (Nat.le_refl 0) (by show -999999999 ≤ n ∧ n ≤ 999999999; omega) True.intro ((K1.trans k2).new ht) (by rw [upd_ne npt]; exact hp2) (hP2.mono (by omega))
    walk_at "lw go"
    refine g_ite (fun h => ?_) (fun h => ?_)
    · walk_at "lw go"
      refine ⟨by show 1 ≤ sizeLine; decide, fun t1 ht1 => ?_⟩
      walk_at "lw go"
      refine ⟨by show 1 ≤ sizeLine; decide, fun t2 ht2 => ?_⟩
      walk_at "lw go"
      refine ⟨by show 2 ≤ sizeLine; decide, fun l hl => ?_⟩
      have n1 : p ≠ t1 := ne_of_none upd_same ht1
      have n2 : p ≠ t2 := ne_of_none (by rw [upd_ne n1, upd_same]) ht2
      have n3 : p ≠ l := ne_of_none (by rw [upd_ne n2, upd_ne n1, upd_same]) hl
      have n12 : t1 ≠ t2 := ne_of_none upd_same ht2
      have n1l : t1 ≠ l := ne_of_none (by rw [upd_ne n12, upd_same]) hl
      have n2l : t2 ≠ l := ne_of_none upd_same hl
      walk_at "lw go"
      refine ⟨p, 2, _, o1, rfl, by rw [upd_ne n3, upd_ne n2, upd_ne n1, upd_same], hP1, by omega, by decide, by decide, fun e o2 e0 e1 hP2 => ?_⟩
      have k3 := (((K1.new (o := .tup [.str "x"]) ht1).new (o := .tup [.str "z"]) ht2).new (o := .lst [.ref t1, .ref t2]) hl).put (o := o2)
      rcases (show e = 0 ∨ e = 1 by omega) with rfl | rfl
      · refine g_ixL (SqL.of (by rw [upd_ne n3.symm, upd_same])) (v := .ref t1) rfl ?_
        exact q _ .px _ o2 ⟨t1, rfl, by rw [upd_ne n1.symm, upd_ne n1l, upd_ne n12, upd_same]⟩ (Nat.le_refl 0) True.intro True.intro k3 upd_same (hP2.mono (by omega))
      · refine g_ixL (SqL.of (by rw [upd_ne n3.symm, upd_same])) (v := .ref t2) (atI_nat (j := 1) (by rfl)) ?_
        exact q _ .pz _ o2 ⟨t2, rfl, by rw [upd_ne n2.symm, upd_ne n2l, upd_same]⟩ (Nat.le_refl 0) True.intro True.intro k3 upd_same (hP2.mono (by omega))
    have noise : ∀ (σ : L2.St) (D : Ends) (H3 : Hp), σ[0]? = some (some (.ref p)) → D.rt = Q → Keep p H H3 → H3 p = some o1 → 
        tRet (tTup (tCons (tC (.str "noise")) (tCons (tOp (rIxL K) (tLst (tCons (tC (.int 0)) (tCons (tC (.int 1)) (tCons (tC (.int 7)) (tCons (tOp (rI CPow fun i j => V.int (i ^ j.toNat)) (tC (.int 10)) (tC (.int 9))) tNil))))) (tCall spDraw [] E0 (tCons (tVar 0) (tCons (tC (.int 4)) tNil)))) (tCons (tCall spDraw [] E0 (tCons (tVar 0) (tCons (tC (.int 9)) tNil))) tNil)))) D σ H3 := by
      intro σ D H3 hσ hD k3 hp3
      walk_at "lw go"
      refine ⟨by show 4 ≤ sizeLine; decide, fun l hl => ?_⟩
      have npl : p ≠ l := ne_of_none hp3 hl
      walk_at "lw go"
      refine g_var hσ ?_
      walk_at "lw go"
      refine ⟨p, 4, _, o1, rfl, by rw [upd_ne npl]; exact hp3, hP1, by omega, by decide, by decide, fun e o2 e0 e1 hP2 => ?_⟩
      obtain ⟨v, hv, hv2⟩ := four_at (a := V.int 0) (b := V.int 1) (c := V.int 7) (d := V.int (10 ^ Int.toNat 9)) e0 e1
      obtain ⟨k, rfl, k0, k1⟩ : ∃ k : Int, v = .int k ∧ 0 ≤ k ∧ k ≤ 1000000000 := by
        rcases hv2 with rfl | rfl | rfl | rfl
        · exact ⟨0, rfl, by omega, by omega⟩
        · exact ⟨1, rfl, by omega, by omega⟩
        · exact ⟨7, rfl, by omega, by omega⟩
        · exact ⟨_, rfl, by decide +kernel, by decide +kernel⟩
      refine g_ixL (SqL.of (by rw [upd_ne npl.symm, upd_same])) hv ?_
      walk_at "lw go"
      refine g_var hσ ?_
      walk_at "lw go"
      refine ⟨p, 9, _, o2, rfl, upd_same, hP2, by omega, by decide, by decide, fun e' o3 e0' e1' hP3 => ?_⟩
      walk_at "lw go"
      refine ⟨by show 3 ≤ sizeLine; decide, fun t ht => ?_⟩
      have npt : p ≠ t := ne_of_none upd_same ht
      rw [hD]
      exact q _ (.noise k e') _ o3 ⟨t, rfl, upd_same⟩ (Nat.le_refl 0) (by show (0 ≤ k ∧ k ≤ 1000000000) ∧ 0 ≤ e' ∧ e' ≤ 8; omega) True.intro (((k3.new hl).put.put).new ht) (by rw [upd_ne npt, upd_same]) (hP3.mono (by omega))
    walk_at "lw go"
    refine g_ite (fun h => ?_) (fun h => ?_)
    · walk_at "lw go"
      refine ⟨by show 0 ≤ sizeLine; decide, fun l hl => ?_⟩
      have npl : p ≠ l := ne_of_none upd_same hl
      have hkl1 : (upd (upd H p o1) l (.lst [])) kl = some (.lst (ks.map V.str)) := by
        have e1 : (upd H p o1) kl = some (.lst (ks.map V.str)) := by rw [upd_ne nk]; exact hkl
        rw [upd_ne (ne_of_none e1 hl)]
        exact e1
      have k2 := K1.new (o := .lst []) hl
      have hp2 : (upd (upd H p o1) l (.lst [])) p = some o1 := by rw [upd_ne npl, upd_same]
      refine ⟨_, _, .lst (SqL.of hkl1) (dpAll_strs ks), .lst (SqL.of upd_same) .nil, shaped_strs ks hks, by decide, ?_⟩
      rw [eqv_strs_nil]
      walk_at "lw go"
      refine g_iteN (fun hne => ?_) (fun he => ?_)
      · walk_at "lw go"
        refine ⟨kl, _, rfl, .inl (SqL.of hkl1), ?_⟩
        have hpos : 0 < ks.length := List.length_pos_iff.mpr hne
        walk_at "lw go"
        refine ⟨p, _, _, o1, rfl, hp2, hP1, by omega, by rw [List.length_map]; omega, by rw [List.length_map]; omega, fun e o2 e0 e1 hP2 => ?_⟩
        rw [List.length_map] at e1
        obtain ⟨j, rfl⟩ : ∃ j : Nat, e = (j : Int) := ⟨e.toNat, by omega⟩
        have hj : j < ks.length := by omega
        refine g_ixL (SqL.of (by rw [upd_ne nk]; exact hkl1)) (v := .str ks[j]) (atI_nat (by rw [List.getElem?_map, List.getElem?_eq_getElem hj]; rfl)) ?_
        walk_at "lw go"
        refine ⟨by show 2 ≤ sizeLine; decide, fun t ht => ?_⟩
        have npt : p ≠ t := ne_of_none upd_same ht
        exact q _ (.nm ks[j]) _ o2 ⟨t, rfl, upd_same⟩ (Nat.le_refl 0) (hks _ (List.getElem_mem hj)) (List.getElem_mem hj) ((k2.put).new ht) (by rw [upd_ne npt, upd_same]) (hP2.mono (by omega))
      · refine g_next ?_
        exact noise _ _ _ (by rfl) (by rfl) k2 hp2
    · refine iteF (g_next ?_)
      exact noise _ _ _ (by rfl) (by rfl) K1 upd_same
abbrev N_law_field : List Str := ["_law_purse_here", "_law_deep", "_law_known", "_law_way", "_law_one", "_law_name", "_law_other"]
theorem sc_law_field : FnScope N_law_field ["_law_purse_here", "_law_deep", "_law_known"] (defScope s_law_field) := ⟨rfl, rfl, rfl, by decide +kernel, rfl, by decide +kernel, by decide +kernel⟩
theorem ok_law_field (F : FnP K "_law_field" s_law_field f fd) (T : Bi mg) (G : Kn K mg) (D_law_draw : Df P w K mg base "_law_draw" ["_law_purse_here", "_law_out_of"] 2 spDraw) (D_law_leaf : Df P w K mg base "_law_leaf" ["_law_purse_here", "_law_known"] 4 spLeaf) (D_law_number : Df P w K mg base "_law_number" ["_law_purse_here", "_law_most"] 3 spNumber) (gm : mg "_law_field" = some (.ref f)) (kp : PySem.W.keepIn K (.ref f) = true) (bb : Binds K fd ["_law_purse_here", "_law_deep", "_law_known"] []) : ∀ n : Nat, FnOk P w K mg base CX0 (n + 5) f fd ["_law_purse_here", "_law_deep", "_law_known"] (spField n)
  | 0 => by
    refine F.ok sc_law_field (fun vs H Q E h => ?_) (fun cdv A outer s H vs Q E hr h => ?_)
    · obtain ⟨p, kl, ks, dn, m, o, rfl, _⟩ := h
      rfl
    · exact (spField_zero h).elim
  | n + 1 => by
    have D_law_field : Df P w K mg base "_law_field" ["_law_purse_here", "_law_deep", "_law_known"] (n + 5) (spField n) := ⟨f, fd, gm, kp, bb, ok_law_field F T G D_law_draw D_law_leaf D_law_number gm kp bb n⟩
    refine F.ok (k := n + 5) sc_law_field (fun vs H Q E h => ?_) (fun cdv A outer s H vs Q E hr h => ⟨_, PSs.nox
(pss_cons (ps_if (pt_cmpR op_eq (pv 1) pe_int (nomark _))
  (pss_one (ps_ret (pe_df D_law_leaf (hr.mono (by first | decide | omega)) (pa_cons (pv 0) (pa_cons (pv 2) pa_nil)))))
  pss_nil)
  (pss_cons (ps_set (i := 3) sc_law_field.nd rfl (Or.inl rfl) (pe_df D_law_draw (hr.mono (by first | decide | omega)) (pa_cons (pv 0) (pa_cons pe_int pa_nil))))
  (pss_cons (ps_set (i := 4) sc_law_field.nd rfl (Or.inl rfl) (pe_df D_law_field (hr.mono (by first | decide | omega)) (pa_cons (pv 0) (pa_cons (pe_op op_sub (pv 1) pe_int) (pa_cons (pv 2) pa_nil)))))
  (pss_cons (ps_if (pt_cmpR op_eq (pv 3) pe_int (nomark _))
  (pss_one (ps_ret (pe_tup (pa_cons pe_str (pa_cons (pv 4) (pa_cons (pe_op op_add pe_int (pe_df D_law_draw (hr.mono (by first | decide | omega)) (pa_cons (pv 0) (pa_cons (pe_ix ix_list (pe_lst (pa_cons pe_int (pa_cons pe_int (pa_cons (pe_op op_pow pe_int pe_int) pa_nil)))) (pe_df D_law_draw (hr.mono (by first | decide | omega)) (pa_cons (pv 0) (pa_cons pe_int pa_nil))) (fun _ _ => rfl)) pa_nil)))) pa_nil))))))
  pss_nil)
  (pss_cons (ps_if (pt_cmpR op_eq (pv 3) pe_int (nomark _))
  (pss_one (ps_ret (pe_tup (pa_cons pe_str (pa_cons (pe_df D_law_number (hr.mono (by first | decide | omega)) (pa_cons (pv 0) (pa_cons pe_int pa_nil))) (pa_cons (pe_df D_law_number (hr.mono (by first | decide | omega)) (pa_cons (pv 0) (pa_cons pe_int pa_nil))) (pa_cons (pv 4) pa_nil)))))))
  pss_nil)
  (pss_cons (ps_if (pt_cmpR op_eq (pv 3) pe_int (nomark _))
  (pss_cons (ps_set (i := 5) sc_law_field.nd rfl (Or.inl rfl) (pe_ix ix_list (pe_lst (pa_cons pe_str (pa_cons pe_str (pa_cons pe_str (pa_cons pe_str pa_nil))))) (pe_df D_law_draw (hr.mono (by first | decide | omega)) (pa_cons (pv 0) (pa_cons pe_int pa_nil))) (fun _ _ => rfl)))
  (pss_one (ps_ret (pe_tup (pa_cons pe_str (pa_cons (pv 5) (pa_cons (pv 4) (pa_cons (pe_df D_law_field (hr.mono (by first | decide | omega)) (pa_cons (pv 0) (pa_cons (pe_op op_sub (pv 1) pe_int) (pa_cons (pe_op op_cat (pv 2) (pe_lst (pa_cons (pv 5) pa_nil))) pa_nil)))) pa_nil))))))))
  pss_nil)
  (pss_cons (ps_set (i := 6) sc_law_field.nd rfl (Or.inl rfl) (pe_df D_law_field (hr.mono (by first | decide | omega)) (pa_cons (pv 0) (pa_cons (pe_op op_sub (pv 1) pe_int) (pa_cons (pv 2) pa_nil)))))
  (pss_cons (ps_if (pt_cmpR op_eq (pv 3) pe_int (nomark _))
  (pss_one (ps_ret (pe_tup (pa_cons pe_str (pa_cons (pv 4) (pa_cons (pv 6) (pa_cons (pe_df D_law_leaf (hr.mono (by first | decide | omega)) (pa_cons (pv 0) (pa_cons (pv 2) pa_nil))) (pa_cons (pe_df D_law_field (hr.mono (by first | decide | omega)) (pa_cons (pv 0) (pa_cons (pe_op op_sub (pv 1) pe_int) (pa_cons (pv 2) pa_nil)))) pa_nil))))))))
  pss_nil)
  (pss_one (ps_ret (pe_tup (pa_cons (pe_ix ix_list (pe_lst (pa_cons pe_str (pa_cons pe_str (pa_cons pe_str (pa_cons pe_str (pa_cons pe_str (pa_cons pe_str pa_nil))))))) (pe_df D_law_draw (hr.mono (by first | decide | omega)) (pa_cons (pv 0) (pa_cons pe_int pa_nil))) (fun _ _ => rfl)) (pa_cons (pv 4) (pa_cons (pv 6) pa_nil)))))))))))))), ?_⟩)
    · obtain ⟨p, kl, ks, dn, m, o, rfl, _⟩ := h
      rfl
    · obtain ⟨p, kl, ks, dn, m, o, rfl, hdn, hp, hP, hm, hkl, hkn, hks, q⟩ := h
      walk_at "lw i0"
      have nk := purse_ne hp hP hkl
      cases dn with
      | zero =>
        have c0 : costF 0 = 100 := rfl
        walk_at "lw go"
        refine iteS rfl ?_
        walk_at "lw go"
        exact ⟨p, kl, ks, m, o, rfl, hp, hP, by omega, hkl, by omega, hks, fun u F H' o' h1 h2 h3 h4 h5 h6 h7 => q u F H' o' h1 h2 h3 h4 h5 h6 (h7.mono (by omega))⟩
      | succ dn =>
        have cd : costF (dn + 1) = 5 * costF dn := rfl
        have cp := costF_pos dn
        walk_at "lw go"
        refine iteNo (fun e => by have := V.int.inj e; omega) ?_
        walk_at "lw go"
        refine ⟨p, 10, m, o, rfl, hp, hP, by omega, by decide, by decide, fun way o1 w0 w1 hP1 => ?_⟩
        have k1 : Keep p H (upd H p o1) := Keep.refl.put
        walk_at "lw go"
        refine ⟨p, kl, ks, dn, m + 4, o1, by rw [show ((dn + 1 : Nat) : Int) - 1 = (dn : Int) by omega], by omega, upd_same, hP1, by omega, (keep_l k1 nk hkl), by omega, hks, fun u1 A H2 o2 hA dA oA bA kA hp2 hP2 => ?_⟩
        have k2 := k1.trans kA
        walk_at "lw go"
        refine g_ite (fun h => ?_) (fun h => ?_)
        · walk_at "lw go"
          refine ⟨by show 3 ≤ sizeLine; decide, fun l hl => ?_⟩
          have npl : p ≠ l := ne_of_none hp2 hl
          walk_at "lw go"
          refine ⟨p, 3, _, o2, rfl, by rw [upd_ne npl]; exact hp2, hP2, by omega, by decide, by decide, fun e o3 e0 e1 hP3 => ?_⟩
          obtain ⟨v, hv, hv2⟩ := three_at (a := V.int 3) (b := V.int 100) (c := V.int (10 ^ Int.toNat 9)) e0 e1
          obtain ⟨k, rfl, k0, k9⟩ : ∃ k : Int, v = .int k ∧ 0 < k ∧ k ≤ 1000000000 := by
            rcases hv2 with rfl | rfl | rfl
            · exact ⟨3, rfl, by omega, by omega⟩
            · exact ⟨100, rfl, by omega, by omega⟩
            · exact ⟨_, rfl, by decide +kernel, by decide +kernel⟩
          refine g_ixL (SqL.of (by rw [upd_ne npl.symm, upd_same])) hv ?_
          walk_at "lw go"
          refine ⟨p, k, _, o3, rfl, upd_same, hP3, by omega, k0, by omega, fun j o4 j0 j1 hP4 => ?_⟩
          walk_at "lw go"
          refine ⟨by show 3 ≤ sizeLine; decide, fun t ht => ?_⟩
          have npt : p ≠ t := ne_of_none upd_same ht
          have k3 : Keep p H2 _ := ((Keep.refl.new (o := .lst [.int 3, .int 100, .int (10 ^ Int.toNat 9)]) hl).put (o := o3)).put (o := o4)
          have k4 := k3.new (o := .tup [.str "over", u1, .int (1 + j)]) ht
          exact q _ (.over A (1 + j)) _ o4 ⟨t, u1, rfl, upd_same, keep_rep k4 hp2 hP2 hA⟩ (by simp only [dep]; omega) ⟨oA, by omega, by omega⟩ bA (k2.trans k4) (by rw [upd_ne npt, upd_same]) (hP4.mono (by omega))
        walk_at "lw go"
        refine g_ite (fun h => ?_) (fun h => ?_)
        · walk_at "lw go"
          refine ⟨p, 1001, _, o2, rfl, hp2, hP2, by omega, by decide, by decide, fun dx o3 H3 x0 x1 k3 hp3 hP3 => ?_⟩
          walk_at "lw go"
          refine ⟨p, 1001, _, o3, rfl, hp3, hP3, by omega, by decide, by decide, fun dz o4 H4 z0 z1 k4 hp4 hP4 => ?_⟩
          walk_at "lw go"
          refine ⟨by show 4 ≤ sizeLine; decide, fun t ht => ?_⟩
          have npt : p ≠ t := ne_of_none hp4 ht
          have k5 := (k3.trans k4).new (o := .tup [.str "shift", .int dx, .int dz, u1]) ht
          exact q _ (.shift dx dz A) _ o4 ⟨t, u1, rfl, upd_same, keep_rep k5 hp2 hP2 hA⟩ (by simp only [dep]; omega) ⟨⟨by omega, by omega⟩, ⟨by omega, by omega⟩, oA⟩ bA (k2.trans k5) (by rw [upd_ne npt]; exact hp4) (hP4.mono (by omega))
        walk_at "lw go"
        refine g_ite (fun h => ?_) (fun h => ?_)
        · walk_at "lw go"
          refine ⟨by show 4 ≤ sizeLine; decide, fun l hl => ?_⟩
          have npl : p ≠ l := ne_of_none hp2 hl
          walk_at "lw go"
          refine ⟨p, 4, _, o2, rfl, by rw [upd_ne npl]; exact hp2, hP2, by omega, by decide, by decide, fun e o3 e0 e1 hP3 => ?_⟩
          obtain ⟨v, hv, hv2⟩ := four_at (a := V.str "a") (b := V.str "b") (c := V.str "ab") (d := V.str "abcdefgh") e0 e1
          obtain ⟨x, rfl, hx⟩ : ∃ x : Str, v = .str x ∧ NameOk x := by
            rcases hv2 with rfl | rfl | rfl | rfl
            · exact ⟨_, rfl, names4.1⟩
            · exact ⟨_, rfl, names4.2.1⟩
            · exact ⟨_, rfl, names4.2.2.1⟩
            · exact ⟨_, rfl, names4.2.2.2⟩
          refine g_ixL (SqL.of (by rw [upd_ne npl.symm, upd_same])) hv ?_
          walk_at "lw go"
          have k3 : Keep p H2 _ := (Keep.refl.new (o := .lst [.str "a", .str "b", .str "ab", .str "abcdefgh"]) hl).put (o := o3)
          refine ⟨by show 1 ≤ sizeLine; decide, fun l1 hl1 => ?_⟩
          have k4 := k3.new (o := .lst [.str x]) hl1
          have np1 : p ≠ l1 := ne_of_none upd_same hl1
          have hkl4 := keep_l (k2.trans k4) nk hkl
          refine ⟨kl, l1, ks.map V.str, [.str x], rfl, rfl, hkl4, upd_same, by rw [List.length_map]; exact Nat.le_of_lt (small1000 (by simp only [List.length_cons, List.length_nil]; omega)), fun l2 hl2 => ?_⟩
          have k5 := k4.new (o := .lst (ks.map V.str ++ [.str x])) hl2
          have np2 : p ≠ l2 := ne_of_none (by rw [upd_ne np1, upd_same]) hl2
          walk_at "lw go"
          refine ⟨p, l2, ks ++ [x], dn, _, o3, by rw [show ((dn + 1 : Nat) : Int) - 1 = (dn : Int) by omega], by omega, by rw [upd_ne np2, upd_ne np1, upd_same], hP3, by omega, by rw [upd_same, List.map_append]; rfl, by simp only [List.length_append, List.length_cons, List.length_nil]; omega, ?_, fun u2 B H4 o4 hB dB oB bB kB hp4 hP4 => ?_⟩
          · intro y hy
            rcases List.mem_append.mp hy with hy | hy
            · exact hks y hy
            · rw [List.mem_singleton.mp hy]; exact hx
          walk_at "lw go"
          refine ⟨by show 4 ≤ sizeLine; decide, fun t ht => ?_⟩
          have npt : p ≠ t := ne_of_none hp4 ht
          have k6 := (k5.trans kB).new (o := .tup [.str "let", .str x, u1, u2]) ht
          have k7 := (Keep.refl (H := H4)).new (p := p) (o := .tup [.str "let", .str x, u1, u2]) ht
          refine q _ (.lt x A B) _ o4 ⟨t, u1, u2, rfl, upd_same, keep_rep k6 hp2 hP2 hA, keep_rep k7 hp4 hP4 hB⟩ (by simp only [dep]; omega) ⟨hx, oA, oB⟩ ⟨bA, ?_⟩ (k2.trans k6) (by rw [upd_ne npt]; exact hp4) (hP4.mono (by omega))
          exact bnd_perm (fun y => by simp [or_comm]) B bB
        walk_at "lw go"
        refine ⟨p, kl, ks, dn, _, o2, by rw [show ((dn + 1 : Nat) : Int) - 1 = (dn : Int) by omega], by omega, hp2, hP2, by omega, (keep_l k2 nk hkl), by omega, hks, fun u2 B H3 o3 hB dB oB bB kB hp3 hP3 => ?_⟩
        walk_at "lw go"
        refine g_ite (fun h => ?_) (fun h => ?_)
        · walk_at "lw go"
          refine ⟨p, kl, ks, _, o3, rfl, hp3, hP3, by omega, (keep_l (k2.trans kB) nk hkl), by omega, hks, fun u3 C H4 o4 hC dC oC bC kC hp4 hP4 => ?_⟩
          walk_at "lw go"
          refine ⟨p, kl, ks, dn, _, o4, by rw [show ((dn + 1 : Nat) : Int) - 1 = (dn : Int) by omega], by omega, hp4, hP4, by omega, (keep_l ((k2.trans kB).trans kC) nk hkl), by omega, hks, fun u4 D H5 o5 hD dD oD bD kD hp5 hP5 => ?_⟩
          walk_at "lw go"
          refine ⟨by show 5 ≤ sizeLine; decide, fun t ht => ?_⟩
          have npt : p ≠ t := ne_of_none hp5 ht
          have k9 := (Keep.refl (H := H5)).new (p := p) (o := .tup [.str "below", u1, u2, u3, u4]) ht
          have k8 := kD.trans k9
          have k7 := kC.trans k8
          have k6 := kB.trans k7
          exact q _ (.bel A B C D) _ o5 ⟨t, u1, u2, u3, u4, rfl, upd_same, keep_rep k6 hp2 hP2 hA, keep_rep k7 hp3 hP3 hB, keep_rep k8 hp4 hP4 hC, keep_rep k9 hp5 hP5 hD⟩ (by simp only [dep]; omega) ⟨oA, oB, oC, oD⟩ ⟨bA, bB, bC, bD⟩ (k2.trans k6) (by rw [upd_ne npt]; exact hp5) (hP5.mono (by omega))
        · walk_at "lw go"
          refine ⟨by show 6 ≤ sizeLine; decide, fun l hl => ?_⟩
          have npl : p ≠ l := ne_of_none hp3 hl
          walk_at "lw go"
          refine ⟨p, 6, _, o3, rfl, by rw [upd_ne npl]; exact hp3, hP3, by omega, by decide, by decide, fun e o4 e0 e1 hP4 => ?_⟩
          obtain ⟨w, hw⟩ := six_word e0 e1
          refine g_ixL (SqL.of (by rw [upd_ne npl.symm, upd_same])) hw ?_
          walk_at "lw go"
          refine ⟨by show 3 ≤ sizeLine; decide, fun t ht => ?_⟩
          have npt : p ≠ t := ne_of_none upd_same ht
          have k9 := ((Keep.refl (H := H3)).new (p := p) (o := .lst [V.str "plus", .str "less", .str "times", .str "least", .str "most", .str "plus"]) hl).put (o := o4) |>.new (o := .tup [.str w.word, u1, u2]) ht
          have k6 := kB.trans k9
          exact q _ (.two w A B) _ o4 ⟨t, u1, u2, rfl, upd_same, keep_rep k6 hp2 hP2 hA, keep_rep k9 hp3 hP3 hB⟩ (by simp only [dep]; omega) ⟨oA, oB⟩ ⟨bA, bB⟩ (k2.trans k6) (by rw [upd_ne npt, upd_same]) (hP4.mono (by omega))
abbrev N_law_all_ranges : List Str := ["_law_field_here", "_law_area_here", "_law_bound", "_law_word", "_law_inner", "_law_found", "_law_far", "_law_part"]
theorem sc_law_all_ranges : FnScope N_law_all_ranges ["_law_field_here", "_law_area_here", "_law_bound"] (defScope s_law_all_ranges) := ⟨rfl, rfl, rfl, by decide +kernel, rfl, by decide +kernel, by decide +kernel⟩
theorem ok_law_all_ranges (F : FnP K "_law_all_ranges" s_law_all_ranges f fd) (T : Bi mg) (G : Kn K mg) (D_law_range : Df P w K mg base "_law_range" ["_law_field_here", "_law_grain_here", "_law_area_here", "_law_bound"] 64 (spRange 60)) (gm : mg "_law_all_ranges" = some (.ref f)) (kp : PySem.W.keepIn K (.ref f) = true) (bb : Binds K fd ["_law_field_here", "_law_area_here", "_law_bound"] []) : ∀ n : Nat, FnOk P w K mg base CX0 (n + 65) f fd ["_law_field_here", "_law_area_here", "_law_bound"] (spAllR n)
  | 0 => by
    refine F.ok sc_law_all_ranges (fun vs H Q E h => ?_) (fun cdv A outer s H vs Q E hr h => ?_)
    · obtain ⟨u, F, x0, z0, x1, z1, ar, d, m, k, r, δ, rfl, _⟩ := h
      rfl
    · exact (spAllR_zero h).elim
  | n + 1 => by
    have D_law_all_ranges : Df P w K mg base "_law_all_ranges" ["_law_field_here", "_law_area_here", "_law_bound"] (n + 65) (spAllR n) := ⟨f, fd, gm, kp, bb, ok_law_all_ranges F T G D_law_range gm kp bb n⟩
    refine F.ok (k := n + 65) sc_law_all_ranges (fun vs H Q E h => ?_) (fun cdv A outer s H vs Q E hr h => ⟨_, PSs.nox
(pss_cons (ps_set (i := 3) sc_law_all_ranges.nd rfl (Or.inl rfl) (pe_ix ix_tup (pv 0) pe_int (fun _ _ => rfl)))
  (pss_cons (ps_if (pt_cmpR op_eq (pv 3) pe_str (nomark _))
  (pss_one (ps_ret (pe_df D_law_all_ranges (hr.mono (by first | decide | omega)) (pa_cons (pe_ix ix_tup (pe_dget (hu_of hr) (pv 2) (pe_ix ix_tup (pv 0) pe_int (fun _ _ => rfl)) (fun _ _ => rfl)) pe_int (fun _ _ => rfl)) (pa_cons (pv 1) (pa_cons (pe_ix ix_tup (pe_dget (hu_of hr) (pv 2) (pe_ix ix_tup (pv 0) pe_int (fun _ _ => rfl)) (fun _ _ => rfl)) pe_int (fun _ _ => rfl)) pa_nil))))))
  pss_nil)
  (pss_cons (ps_if (pt_cmpR op_eq (pv 3) pe_str (nomark _))
  (pss_cons (ps_set (i := 4) sc_law_all_ranges.nd rfl (Or.inl rfl) (pe_callTy call_dictD (by rfl) T.dict (by decide +kernel) (pa_cons (pv 2) pa_nil)))
  (pss_cons (ps_dput (hu_of hr) (pv 4) (pe_ix ix_tup (pv 0) pe_int (fun _ _ => rfl)) (pe_tup (pa_cons (pe_ix ix_tup (pv 0) pe_int (fun _ _ => rfl)) (pa_cons (pv 2) pa_nil))) rfl)
  (pss_one (ps_ret (pe_df D_law_all_ranges (hr.mono (by first | decide | omega)) (pa_cons (pe_ix ix_tup (pv 0) pe_int (fun _ _ => rfl)) (pa_cons (pv 1) (pa_cons (pv 4) pa_nil))))))))
  pss_nil)
  (pss_cons (ps_set (i := 5) sc_law_all_ranges.nd rfl (Or.inl rfl) (pe_lst (pa_cons (pe_df D_law_range (hr.mono (by first | decide | omega)) (pa_cons (pv 0) (pa_cons pe_int (pa_cons (pv 1) (pa_cons (pv 2) pa_nil))))) pa_nil)))
  (pss_cons (ps_if (pt_cmpR op_eq (pv 3) pe_str (nomark _))
  (pss_cons (ps_set (i := 6) sc_law_all_ranges.nd rfl (Or.inl rfl) (pe_tup (pa_cons (pe_op op_add (pe_ix ix_tup (pv 1) pe_int (fun _ _ => rfl)) (pe_ix ix_tup (pv 0) pe_int (fun _ _ => rfl))) (pa_cons (pe_op op_add (pe_ix ix_tup (pv 1) pe_int (fun _ _ => rfl)) (pe_ix ix_tup (pv 0) pe_int (fun _ _ => rfl))) (pa_cons (pe_op op_add (pe_ix ix_tup (pv 1) pe_int (fun _ _ => rfl)) (pe_ix ix_tup (pv 0) pe_int (fun _ _ => rfl))) (pa_cons (pe_op op_add (pe_ix ix_tup (pv 1) pe_int (fun _ _ => rfl)) (pe_ix ix_tup (pv 0) pe_int (fun _ _ => rfl))) pa_nil))))))
  (pss_one (ps_ret (pe_op op_cat (pv 5) (pe_df D_law_all_ranges (hr.mono (by first | decide | omega)) (pa_cons (pe_ix ix_tup (pv 0) pe_int (fun _ _ => rfl)) (pa_cons (pv 6) (pa_cons (pv 2) pa_nil))))))))
  pss_nil)
  (pss_cons (ps_for PassesOwn.never rfl (pi_tup (pe_slice sl_tup (pv 0) (po_some pe_int) po_none)) (pg_name (i := 7) sc_law_all_ranges.nd rfl (Or.inl rfl))
  (pss_one (ps_if (pt_val (pe_callB call_isi (by rfl) T.isinstance (by decide +kernel) (pa_cons (pv 7) (pa_cons (pe_bltn (v := .ty "tuple") (by rfl) T.tuple boot_tuple rfl) pa_nil))))
  (pss_one (ps_set (i := 5) sc_law_all_ranges.nd rfl (Or.inl rfl) (pe_op op_cat (pv 5) (pe_df D_law_all_ranges (hr.mono (by first | decide | omega)) (pa_cons (pv 7) (pa_cons (pv 1) (pa_cons (pv 2) pa_nil)))))))
  pss_nil)))
  (pss_one (ps_ret (pv 5))))))))), ?_⟩)
    · obtain ⟨u, F, x0, z0, x1, z1, ar, d, m, k, r, δ, rfl, _⟩ := h
      rfl
    · obtain ⟨u, F, x0, z0, x1, z1, ar, d, m, k, r, δ, rfl, hF, har, hE, hB, hn, hO, hv, hcn, hk, hx, hz, hW, hr2, hn5, q⟩ := h
      walk_at "lw i0"
      rcases kinds F with ⟨y, rfl⟩ | ⟨y, a, b, rfl⟩ | ⟨dx, dz, a, rfl⟩ | ⟨hk1, hk2, hk3⟩
      · show _
        obtain ⟨p, rfl, hp⟩ := hF
        have hn' : 1 + (δ.lookup y).getD 0 ≤ n + 1 := hn
        obtain ⟨m', rfl⟩ : ∃ m', m = m' + 1 := by
          cases m with
          | zero =>
            obtain ⟨_, e1, _⟩ := hE
            subst e1
            cases hB
          | succ m' => exact ⟨m', rfl⟩
        obtain ⟨kvs, hd, hkl, hq⟩ := hE
        obtain ⟨t, u', d', F', r', δ', a1, a2, a3, a4, a5, a6, a7, a8⟩ := hq y hB
        walk_at "lw go"
        refine g_ixT (SqT.of hp) (v := .str "name") rfl ?_
        walk_at "lw go"
        refine g_ixT (SqT.of hp) (v := .str y) (atI_nat (j := 1) (by rfl)) ?_
        refine ⟨d, .ref t, rfl, a1 ▸ DGet.k (k := Sum.inr y) hd, ?_⟩
        walk_at "lw go"
        refine g_ixT (SqT.of a2) (v := u') (atI_nat (j := 0) (by rfl)) ?_
        walk_at "lw go"
        refine g_ixT (SqT.of hp) (v := .str y) (atI_nat (j := 1) (by rfl)) ?_
        refine ⟨d, .ref t, rfl, a1 ▸ DGet.k (k := Sum.inr y) hd, ?_⟩
        walk_at "lw go"
        refine g_ixT (SqT.of a2) (v := .ref d') (atI_nat (j := 1) (by rfl)) ?_
        walk_at "lw go"
        have hO' : OkE (look r y) := hO
        have hv' : vb (look r y) k ≤ 400000 := hv
        have hcn' : cn (look r y) ≤ 1000000 := hcn
        refine ⟨u', F', x0, z0, x1, z1, ar, d', m', k, r', δ', rfl, a3, har, a4, a5, by omega, by rw [a6]; exact hO', by rw [a6]; exact hv', by rw [a6]; exact hcn', hk, hx, hz, hW.le (by omega), by omega, by omega, ?_⟩
        rw [a6]
        exact q
      · show _
        obtain ⟨p, u1, u2, rfl, hp, hF1, hF2⟩ := hF
        have hn' : 1 + udep b ((y, udep a δ) :: δ) ≤ n + 1 := hn
        obtain ⟨kvs, hd, hkl⟩ := hE.dict
        walk_at "lw go"
        refine g_ixT (SqT.of hp) (v := .str "let") rfl ?_
        walk_at "lw go"
        refine ⟨d, kvs, rfl, .inl hd, fun i hi => ?_⟩
        walk_at "lw go"
        have s1 := same_new (o := .dK kvs) hi
        refine g_ixT (SqT.of (s1 _ _ hp)) (v := u1) (atI_nat (j := 2) (by rfl)) ?_
        walk_at "lw go"
        refine ⟨by show 2 ≤ sizeLine; decide, fun t ht => ?_⟩
        have s2 := s1.trans (same_new (o := .tup [u1, .ref d]) ht)
        have nti : i ≠ t := ne_of_none upd_same ht
        walk_at "lw go"
        refine g_ixT (SqT.of (s2 _ _ hp)) (v := .str y) (atI_nat (j := 1) (by rfl)) ?_
        refine ⟨i, _, rfl, DPut.k (k := Sum.inr y) (by rw [upd_ne nti, upd_same]) (small1000 (by omega)), ?_⟩
        have s3 : Same H (upd (upd (upd H i (.dK kvs)) t (.tup [u1, .ref d])) i (.dK (putK kvs (Sum.inr y) (.ref t)))) := same_put s2 hi
        walk_at "lw go"
        refine g_ixT (SqT.of (s3 _ _ hp)) (v := u2) (atI_nat (j := 3) (by rfl)) ?_
        walk_at "lw go"
        exact ⟨u2, b, x0, z0, x1, z1, ar, i, m + 1, k, (y, expand a r) :: r, (y, udep a δ) :: δ, rfl, hF2.mono (same_tup s3), s3 _ _ har, hE.let_ hd s3 upd_same (by rw [upd_ne nti.symm, upd_same]) hF1 hB.1, hB.2, by omega, hO, hv, hcn, hk, hx, hz, hW.le (by omega), by simp only [List.length_cons]; omega, by omega, q.later s3⟩
      · show _
        have hFw := hF
        obtain ⟨p, u1, rfl, hp, hF1⟩ := hF
        have hn' : 1 + udep a δ ≤ n + 1 := hn
        have hc1 : 1 + cn (expand a r) ≤ 1000000 := hcn
        walk_at "lw go"
        refine g_ixT (SqT.of hp) (v := .str "shift") rfl ?_
        walk_at "lw go"
        refine ⟨.ref p, .shift dx dz a, 0, x0, z0, x1, z1, ar, d, m, k, r, δ, rfl, hFw, har, hE, hB, by omega, hO, hv, hk, hx, hz, hW.le (by omega), by omega, fun pr H1 s1 hpr => ?_⟩
        walk_at "lw go"
        refine ⟨by show 1 ≤ sizeLine; decide, fun l hl => ?_⟩
        have s2 := s1.trans (same_new (o := .lst [.ref pr]) hl)
        walk_at "lw go"
        refine g_ixT (SqT.of (s2 _ _ har)) (v := .int x0) (atI_nat (j := 0) (by rfl)) ?_
        walk_at "lw go"
        refine g_ixT (SqT.of (s2 _ _ hp)) (v := .int dx) (atI_nat (j := 1) (by rfl)) ?_
        walk_at "lw go"
        refine g_ixT (SqT.of (s2 _ _ har)) (v := .int z0) (atI_nat (j := 1) (by rfl)) ?_
        walk_at "lw go"
        refine g_ixT (SqT.of (s2 _ _ hp)) (v := .int dz) (atI_nat (j := 2) (by rfl)) ?_
        walk_at "lw go"
        refine g_ixT (SqT.of (s2 _ _ har)) (v := .int x1) (atI_nat (j := 2) (by rfl)) ?_
        walk_at "lw go"
        refine g_ixT (SqT.of (s2 _ _ hp)) (v := .int dx) (atI_nat (j := 1) (by rfl)) ?_
        walk_at "lw go"
        refine g_ixT (SqT.of (s2 _ _ har)) (v := .int z1) (atI_nat (j := 3) (by rfl)) ?_
        walk_at "lw go"
        refine g_ixT (SqT.of (s2 _ _ hp)) (v := .int dz) (atI_nat (j := 2) (by rfl)) ?_
        walk_at "lw go"
        refine ⟨by show 4 ≤ sizeLine; decide, fun fa hfa => ?_⟩
        have s3 := s2.trans (same_new (o := .tup [.int (x0 + dx), .int (z0 + dz), .int (x1 + dx), .int (z1 + dz)]) hfa)
        have nla : l ≠ fa := ne_of_none upd_same hfa
        walk_at "lw go"
        refine g_ixT (SqT.of (s3 _ _ hp)) (v := u1) (atI_nat (j := 3) (by rfl)) ?_
        walk_at "lw go"
        have hW' : Wide (x0 + dx) (z0 + dz) (x1 + dx) (z1 + dz) (n + 60) := (hW.le (n' := n + 60 + 1) (by omega)).shift hO.1 hO.2.1
        refine ⟨u1, a, x0 + dx, z0 + dz, x1 + dx, z1 + dz, fa, d, m, k + 1, r, δ, rfl, hF1.mono (same_tup s3), upd_same, hE.mono s3, hB, by omega, hO.2.2, hv, by omega, by omega, ⟨shift_bits hO.1 hk hx.1, shift_bits hO.1 hk hx.2⟩, ⟨shift_bits hO.2.1 hk hz.1, shift_bits hO.2.1 hk hz.2⟩, hW', by omega, by omega, fun l2 vs2 H4 s4 hl2 hps => ?_⟩
        have el := allE_len (exactN 0) (expand a r) (x0 + dx) (z0 + dz) (x1 + dx) (z1 + dz)
        have hlen := Paired.length hps
        refine ⟨l, l2, [.ref pr], vs2, rfl, rfl, s4 _ _ (by rw [upd_ne nla, upd_same]), hl2, small_size (by simp only [List.length_cons, List.length_nil]; omega), fun l3 hl3 => ?_⟩
        have s5 := same_new (o := .lst ([V.ref pr] ++ vs2)) hl3
        refine q l3 _ _ ((s3.trans s4).trans s5) upd_same (.cons ⟨pr, rfl, s5 _ _ (s4 _ _ ?_)⟩ (hps.mono s5))
        exact (same_new hfa) _ _ ((same_new hl) _ _ hpr)
      · have P := parts hF hk1 hk2 hk3
        obtain ⟨p, w, ps, rfl, hp, hps, hps4, ⟨pw1, pw2, pw3⟩, hsub, hall⟩ := P.ex
        walk_at "lw go"
        refine g_ixT (SqT.of hp) (v := .str w) (atI_nat (j := 0) (by rfl)) ?_
        walk_at "lw go"
        refine iteSN pw1 ?_
        walk_at "lw go"
        refine iteSN pw2 ?_
        walk_at "lw go"
        refine ⟨.ref p, F, 0, x0, z0, x1, z1, ar, d, m, k, r, δ, rfl, hF, har, hE, hB, by omega, hO, hv, hk, hx, hz, hW.le (by omega), by omega, fun pr H1 s1 hpr => ?_⟩
        walk_at "lw go"
        refine ⟨by show 1 ≤ sizeLine; decide, fun l hl => ?_⟩
        have s2 := s1.trans (same_new (o := .lst [.ref pr]) hl)
        walk_at "lw go"
        refine iteSN pw3 ?_
        walk_at "lw go"
        have hcnE := allE_len (exactN 0) (expand F r) x0 z0 x1 z1
        rw [hall] at hcnE
        refine g_slT (SqT.of (s2 _ _ hp)) cut1T_ok fun t ht => ?_
        rw [cut1T]
        have s3 := s2.trans (same_new (o := .tup (ps.map (·.1))) ht)
        have nlt : l ≠ t := ne_of_none upd_same ht
        refine ⟨t, rfl, ⟨_, SqT.of upd_same⟩, for_tup (xs := ps.map (·.1)) (fun i σ H' => ∃ (lf : Addr) (vf : List V) (o4 o6 o7 : Option V), σ = [some (.ref p), some (.ref ar), some (.ref d), some (.str w), o4, some (.ref lf), o6, o7] ∧ Same H H' ∧ H' t = some (.tup (ps.map (·.1))) ∧
          H' lf = some (.lst vf) ∧ PairsR H' vf (rangeG (exactN 0) (expand F r) x0 z0 x1 z1 :: (ps.take i).flatMap (partR (exactN 0) r x0 z0 x1 z1)))
          ⟨l, [.ref pr], none, none, none, rfl, s3, upd_same, by rw [upd_ne nlt, upd_same], .cons ⟨pr, rfl, (same_new ht) _ _ ((same_new hl) _ _ hpr)⟩ .nil⟩ (fun i σ H' _ ⟨_, _, _, _, _, _, _, h, _⟩ => SqT.of h) ?_ ?_⟩
        · rintro i y σ H' hi ⟨lf, vf, o4, o6, o7, rfl, sH, htH, hlf, hpf⟩
          obtain ⟨⟨v, oF⟩, hq, rfl⟩ : ∃ q, ps[i]? = some q ∧ q.1 = y := by
            rw [List.getElem?_map] at hi
            cases e : ps[i]? with
            | none => rw [e] at hi; cases hi
            | some q => rw [e] at hi; exact ⟨q, rfl, Option.some.inj hi⟩
          have hmem : (v, oF) ∈ ps := List.mem_of_getElem? hq
          have etake : ps.take (i + 1) = ps.take i ++ [(v, oF)] := by rw [List.take_add_one, hq]; rfl
          have hlen := Paired.length hpf
          have hft := flat_take (partR (exactN 0) r x0 z0 x1 z1) ps i
          have hft1 := flat_take (partR (exactN 0) r x0 z0 x1 z1) ps (i + 1)
          simp only [List.length_cons] at hlen hcnE
          walk_at "lw go"
          cases oF with
          | some A =>
            have hA : FRep A H v := hps _ hmem
            have sb := hsub _ hmem A rfl
            have hA' := hA.mono (same_tup sH)
            obtain ⟨pa, xa, rfl, hpa⟩ : ∃ pa xa, v = .ref pa ∧ H' pa = some (.tup xa) := frep_ref hA'
            refine ⟨_, _, _, _, true, rfl, .ty "tuple", .base (.tup hpa), kit_ty (by decide +kernel), ?_⟩
            walk_at "lw go"
            have b1 := sb.ud δ
            have b2 := sb.vb r k
            have b3 := sb.cn r
            have eA := allE_len (exactN 0) (expand A r) x0 z0 x1 z1
            refine ⟨.ref pa, A, x0, z0, x1, z1, ar, d, m, k, r, δ, rfl, hA', sH _ _ har, hE.mono sH, sb.bnd _ hB, by omega, sb.ok r hO, by omega, by omega, hk, hx, hz, hW.le (by omega), by omega, by omega, fun l2 vs2 H4 s4 hl2 hps2 => ?_⟩
            have hlen2 := Paired.length hps2
            refine g_cat (s4 _ _ hlf) hl2 (small_size (by omega)) fun l3 hl3 => ?_
            have s5 := same_new (o := .lst (vf ++ vs2)) hl3
            have nt3 : t ≠ l3 := ne_of_none (s4 _ _ htH) hl3
            walk_at "lw go"
            refine ⟨l3, _, _, _, _, rfl, (sH.trans s4).trans s5, s5 _ _ (s4 _ _ htH), upd_same, ?_⟩
            rw [etake, List.flatMap_append]
            have e1 : [(V.ref pa, some A)].flatMap (partR (exactN 0) r x0 z0 x1 z1) = allE (exactN 0) (expand A r) x0 z0 x1 z1 := by simp [partR]
            rw [e1]
            exact PairsR.append (vs := vf) ((hpf.mono s4).mono s5) (hps2.mono s5)
          | none =>
            have e1 : [(v, (none : Option Fd))].flatMap (partR (exactN 0) r x0 z0 x1 z1) = [] := by simp [partR]
            have fin : PairsR H' vf (rangeG (exactN 0) (expand F r) x0 z0 x1 z1 :: (ps.take (i + 1)).flatMap (partR (exactN 0) r x0 z0 x1 z1)) := by
              rw [etake, List.flatMap_append, e1, List.append_nil]
              exact hpf
            rcases hps _ hmem with ⟨a, rfl⟩ | ⟨a, rfl⟩
            · refine ⟨_, _, _, _, false, rfl, .ty "tuple", .base (.int _), kit_ty (by decide +kernel), ?_⟩
              walk_at "lw go"
              exact ⟨lf, vf, _, _, _, rfl, sH, htH, hlf, fin⟩
            · refine ⟨_, _, _, _, false, rfl, .ty "tuple", .base (.str _), kit_ty (by decide +kernel), ?_⟩
              walk_at "lw go"
              exact ⟨lf, vf, _, _, _, rfl, sH, htH, hlf, fin⟩
        · rintro σ H' ⟨lf, vf, o4, o6, o7, rfl, sH, htH, hlf, hpf⟩
          walk_at "lw go"
          rw [List.length_map, List.take_length, ← hall] at hpf
          exact q lf vf H' sH hlf hpf
abbrev N_law_small : List Str := ["_law_field_here", "_law_some", "_law_pair"]
theorem sc_law_small : FnScope N_law_small ["_law_field_here"] (defScope s_law_small) := ⟨rfl, rfl, rfl, by decide +kernel, rfl, by decide +kernel, by decide +kernel⟩
theorem ok_law_small (F : FnP K "_law_small" s_law_small f fd) (T : Bi mg) (G : Kn K mg) (D_law_all_ranges : Df P w K mg base "_law_all_ranges" ["_law_field_here", "_law_area_here", "_law_bound"] 105 (spAllR 40)) : FnOk P w K mg base CX0 106 f fd ["_law_field_here"] spSmall := by
  refine F.ok sc_law_small (fun vs H Q E h => ?_) (fun cdv A outer s H vs Q E hr h => ⟨_, PSs.nox
(pss_cons (ps_set (i := 1) sc_law_small.nd rfl (Or.inl rfl) (pe_df D_law_all_ranges (hr.mono (by first | decide | omega)) (pa_cons (pv 0) (pa_cons (pe_tup (pa_cons (pe_un un_neg pe_int) (pa_cons (pe_un un_neg pe_int) (pa_cons pe_int (pa_cons pe_int pa_nil))))) (pa_cons pe_dnewK pa_nil)))))
  (pss_cons (ps_if (PW.pt (pw_or (pt_cmpR op_gt (pe_callB call_len_seq (by rfl) T.len (by decide +kernel) (pa_cons (pv 1) pa_nil)) pe_int (nomark _)) (pw_or1 (pt_cmpR (op_neD hr.units) (pe_lc (own := [("_law_pair", 2)]) (g := gName 2)  rfl sc_law_small.nd (pi_list (pv 1)) (blkOk_by (N := N_law_small) (sc := defScope s_law_small) (by decide +kernel)) (fun _ _ _ _ _ => pg_name (i := 2) sc_law_small.nd rfl (Or.inl rfl)) (fun _ _ _ _ _ => (pts_one (PW.pt (pw_or (pt_cmpR op_lt (pe_ix (ix_tupK (K := K)) (pv 2) pe_int (fun _ _ => rfl)) (pe_un un_neg (pe_op op_pow pe_int pe_int)) (nomark _)) (pw_or1 (pt_cmpR op_gt (pe_ix (ix_tupK (K := K)) (pv 2) pe_int (fun _ _ => rfl)) (pe_op op_pow pe_int pe_int) (nomark _))))))) (fun _ _ _ _ _ => (pv 2))) (pe_lst pa_nil) (nomark _)))))
  (pss_one (ps_ret pe_bl))
  pss_nil)
  (pss_one (ps_ret (pe_and (pe_cmpR op_le (pe_un un_neg (pe_op op_pow pe_int pe_int)) (pe_ix ix_tup (pe_ix ix_list (pv 1) pe_int (fun _ _ => rfl)) pe_int (fun _ _ => rfl)) (nomark _)) (pe_one (pe_cmpR op_le (pe_ix ix_tup (pe_ix ix_list (pv 1) pe_int (fun _ _ => rfl)) pe_int (fun _ _ => rfl)) (pe_op op_pow pe_int pe_int) (nomark _)))))))), ?_⟩)
  · obtain ⟨u, F, rfl, _⟩ := h
    rfl
  · obtain ⟨u, F, rfl, hF, hB, hO, hd, q⟩ := h
    walk_at "lw i0"
    have oE := ok_expand F [] hO okR_nil
    have nm := nums F 3 [] [] 0 0 0 hd num_nil
    have w3 : Wd 3 0 = 128 ∧ Sd 3 0 = 7 ∧ Ud 3 0 ≤ 15 ∧ Cd 3 0 ≤ 1000000 := by decide
    have cE := cn_le F 3 [] 0 hd (fun x => Nat.le_refl 1)
    have vE := vb_le (expand F []) 34 (Nat.le_refl 34)
    have vE2 : wt (expand F []) * (34 + sh (expand F []) + 1) ≤ 128 * 42 := Nat.mul_le_mul (by omega) (by omega)
    walk_at "lw go"
    refine ⟨by show 4 ≤ sizeLine; decide, fun ar har => ?_⟩
    walk_at "lw go"
    refine g_dnew fun d hd0 => ?_
    have s1 := same_new (o := .tup [.int (-1000010), .int (-1000010), .int 1000010, .int 1000010]) har
    have s2 := s1.trans (same_new (o := .dK []) hd0)
    have nad : ar ≠ d := ne_of_none upd_same hd0
    have p34 : (2 : Nat) ^ 34 = 17179869184 := by decide
    walk_at "lw go"
    refine ⟨u, F, -1000010, -1000010, 1000010, 1000010, ar, d, 0, 34, [], [], rfl, hF.mono (same_tup s2), by rw [upd_ne nad, upd_same], ⟨upd_same, rfl, rfl⟩, hB, by omega, oE, by omega, by omega, Nat.le_refl 34, ⟨by show Int.natAbs (-1000010) < _; omega, by show Int.natAbs 1000010 < _; omega⟩, ⟨by show Int.natAbs (-1000010) < _; omega, by show Int.natAbs 1000010 < _; omega⟩,
      ⟨by decide, by decide, by decide, by decide, by decide, by decide⟩, by simp, by decide, fun l vs H3 s3 hl hps => ?_⟩
    have s13 := s2.trans s3
    rw [all_wide _ _ _ _ _ (ok_expand F [] hO okR_nil) (by decide) (by decide)] at hps
    have hlen := Paired.length hps
    have eAll := allE_len wideN (expand F []) (-1000010) (-1000010) 1000010 1000010
    obtain ⟨rest, hall⟩ : ∃ rest, allE wideN (expand F []) (-1000010) (-1000010) 1000010 1000010 = rangeG wideN (expand F []) (-1000010) (-1000010) 1000010 1000010 :: rest := by
      cases expand F [] <;> exact ⟨_, rfl⟩
    walk_at "lw go"
    refine ⟨_, _, rfl, .inl (SqL.of hl), ?_⟩
    walk_at "lw go"
    refine g_ite (fun h => ?_) (fun h => ?_)
    · walk_at "lw go"
      exact q false H3 s13 (fun e => by cases e)
    have hc60 : cn (expand F []) ≤ 60 := by omega
    walk_at "lw go"
    refine ⟨l, rfl, ⟨_, SqL.of hl⟩, fun D hD => ?_⟩
    have nlD : l ≠ D := ne_of_none hl hD
    refine lc_list (xs := vs) (fun i H' => ∃ acc, Same H3 H' ∧ H' D = some (.lst acc) ∧ PairsR H' acc (((allE wideN (expand F []) (-1000010) (-1000010) 1000010 1000010).take i).filter badP))
      ⟨[], same_new hD, upd_same, .nil⟩ (fun i H' _ ⟨_, s, _⟩ => SqL.of (s _ _ hl)) ?_ ?_
    · rintro i y H' hi ⟨acc, s, hacc, hpa⟩
      obtain ⟨ab, hab, py, rfl, hpy⟩ : ∃ ab, (allE wideN (expand F []) (-1000010) (-1000010) 1000010 1000010)[i]? = some ab ∧ ∃ p, y = .ref p ∧ H3 p = some (.tup [.int ab.1, .int ab.2]) := pairs_at hps hi
      have etake : (allE wideN (expand F []) (-1000010) (-1000010) 1000010 1000010).take (i + 1) = (allE wideN (expand F []) (-1000010) (-1000010) 1000010 1000010).take i ++ [ab] := by rw [List.take_add_one, hab]; rfl
      have hla := Paired.length hpa
      have hlf : (((allE wideN (expand F []) (-1000010) (-1000010) 1000010 1000010).take i).filter badP).length ≤ 60 := by
        have := List.length_filter_le badP ((allE wideN (expand F []) (-1000010) (-1000010) 1000010 1000010).take i)
        rw [List.length_take] at this
        omega
      walk_at "lw go"
      refine ⟨rfl, ?_⟩
      have hpy' := s _ _ hpy
      have add : badP ab = true → ∃ acc', Same H3 (upd H' D (.lst (acc ++ [.ref py]))) ∧ (upd H' D (.lst (acc ++ [.ref py]))) D = some (.lst acc') ∧ PairsR (upd H' D (.lst (acc ++ [.ref py]))) acc' (((allE wideN (expand F []) (-1000010) (-1000010) 1000010 1000010).take (i + 1)).filter badP) := fun hb => by
        have nD : ∀ p xs, H' p = some (.tup xs) → p ≠ D := fun p xs h e => by rw [e, hacc] at h; cases h
        have up : ∀ {vs' : List V} {ps : List (Int × Int)}, PairsR H' vs' ps → PairsR (upd H' D (.lst (acc ++ [.ref py]))) vs' ps := fun {vs' ps} h => by
          induction h with
          | nil => exact .nil
          | cons a t ih =>
            obtain ⟨p, e, h⟩ := a
            exact .cons ⟨p, e, by rw [upd_ne (nD _ _ h)]; exact h⟩ ih
        refine ⟨_, same_put s hD, upd_same, ?_⟩
        rw [etake, List.filter_append, show List.filter badP [ab] = [ab] by simp [hb]]
        exact PairsR.append (up hpa) (.cons ⟨py, rfl, by rw [upd_ne (nD _ _ hpy')]; exact hpy'⟩ .nil)
      have same : badP ab = false → PairsR H' acc (((allE wideN (expand F []) (-1000010) (-1000010) 1000010 1000010).take (i + 1)).filter badP) := fun hb => by
        rw [etake, List.filter_append, show List.filter badP [ab] = [] by simp [hb], List.append_nil]
        exact hpa
      walk_at "lw go"
      refine g_ixT (SqT.of hpy') (v := .int ab.1) (atI_nat (j := 0) (by rfl)) ?_
      walk_at "lw go"
      refine g_ite (fun h1 => ?_) (fun h1 => ?_)
      · walk_at "lw go"
        exact ⟨acc, hacc, Nat.lt_of_le_of_lt (by omega : acc.length ≤ 1000) (small1000 (Nat.le_refl _)), add (by unfold badP; rw [decide_eq_true h1]; rfl)⟩
      · walk_at "lw go"
        refine g_ixT (SqT.of hpy') (v := .int ab.2) (atI_nat (j := 1) (by rfl)) ?_
        walk_at "lw go"
        refine g_ite (fun h2 => ?_) (fun h2 => ?_)
        · walk_at "lw go"
          exact ⟨acc, hacc, Nat.lt_of_le_of_lt (by omega : acc.length ≤ 1000) (small1000 (Nat.le_refl _)), add (by unfold badP; rw [decide_eq_true h2, Bool.or_true])⟩
        · exact ⟨acc, s, hacc, same (by simp only [badP]; rw [decide_eq_false h1, decide_eq_false h2]; rfl)⟩
    · rintro H' ⟨acc, s, hacc, hpa⟩
      have eT : (allE wideN (expand F []) (-1000010) (-1000010) 1000010 1000010).take vs.length = allE wideN (expand F []) (-1000010) (-1000010) 1000010 1000010 := by rw [hlen, List.take_length]
      rw [eT] at hpa
      walk_at "lw go"
      refine ⟨by show 0 ≤ sizeLine; decide, fun e he => ?_⟩
      have s5 := same_new (o := .lst []) he
      refine ⟨_, _, .lst (SqL.of (s5 _ _ hacc)) (dp_pairs (hpa.mono s5)), .lst (SqL.of upd_same) .nil, shaped_pairs _, by decide, ?_⟩
      rw [eqv_nil]
      walk_at "lw go"
      refine g_iteN (fun hne => ?_) (fun hnil => ?_)
      · walk_at "lw go"
        exact q false _ ((s13.trans s).trans s5) (fun e => by cases e)
      · walk_at "lw go"
        have hl5 := s5 _ _ (s _ _ hl)
        have hps5 := (hps.mono s).mono s5
        rw [hall] at hps5
        obtain ⟨v0, vr, rfl, p0, rfl, hp0⟩ : ∃ v0 vr, vs = v0 :: vr ∧ ∃ p, v0 = V.ref p ∧ (upd H' e (.lst [])) p = some (.tup [.int (rangeG wideN (expand F []) (-1000010) (-1000010) 1000010 1000010).1, .int (rangeG wideN (expand F []) (-1000010) (-1000010) 1000010 1000010).2]) := by
          cases hps5 with
          | cons a t => exact ⟨_, _, rfl, a⟩
        have e12 : (10 : Int) ^ Int.toNat 12 = 1000000000000 := by decide +kernel
        have e24 : (10 : Int) ^ Int.toNat 24 = 1000000000000000000000000 := by decide +kernel
        have good : ∀ p ∈ allE wideN (expand F []) (-1000010) (-1000010) 1000010 1000010, -1000000000000000000000000 ≤ p.1 ∧ p.2 ≤ 1000000000000000000000000 := fun p hp => by
          have := List.filter_eq_nil_iff.mp hnil p hp
          simp only [badP, Bool.or_eq_true, decide_eq_true_eq, not_or, e24] at this
          omega
        refine g_ixL (SqL.of hl5) (v := .ref p0) (atI_nat (j := 0) (by rfl)) ?_
        walk_at "lw go"
        refine g_ixT (SqT.of hp0) (v := .int (rangeG wideN (expand F []) (-1000010) (-1000010) 1000010 1000010).1) (atI_nat (j := 0) (by rfl)) ?_
        walk_at "lw go"
        refine g_ite (fun h1 => ?_) (fun h1 => ?_)
        · walk_at "lw go"
          refine g_ixL (SqL.of hl5) (v := .ref p0) (atI_nat (j := 0) (by rfl)) ?_
          walk_at "lw go"
          refine g_ixT (SqT.of hp0) (v := .int (rangeG wideN (expand F []) (-1000010) (-1000010) 1000010 1000010).2) (atI_nat (j := 1) (by rfl)) ?_
          walk_at "lw go"
          refine q _ _ ((s13.trans s).trans s5) (fun h2 => ⟨hc60, good, by rw [e12] at h1; omega, ?_⟩)
          have := of_decide_eq_true h2
          rw [e12] at this
          exact this
        · exact q false _ ((s13.trans s).trans s5) (fun e => by cases e)
abbrev N_law_rules : List Str := ["_law_purse_here", "_law_found"]
theorem sc_law_rules : FnScope N_law_rules ["_law_purse_here"] (defScope s_law_rules) := ⟨rfl, rfl, rfl, by decide +kernel, rfl, by decide +kernel, by decide +kernel⟩
theorem ok_law_rules (F : FnP K "_law_rules" s_law_rules f fd) (T : Bi mg) (G : Kn K mg) (D_law_field : Df P w K mg base "_law_field" ["_law_purse_here", "_law_deep", "_law_known"] 13 (spField 8)) (D_law_small : Df P w K mg base "_law_small" ["_law_field_here"] 106 spSmall) (D_law_draw : Df P w K mg base "_law_draw" ["_law_purse_here", "_law_out_of"] 2 spDraw) : FnOk P w K mg base CX0 107 f fd ["_law_purse_here"] spRules := by
  refine F.ok sc_law_rules (fun vs H Q E h => ?_) (fun cdv A outer s H vs Q E hr h => ⟨_, PSs.nox
(pss_cons (ps_set (i := 1) sc_law_rules.nd rfl (Or.inl rfl) (pe_df D_law_field (hr.mono (by first | decide | omega)) (pa_cons (pv 0) (pa_cons (pe_op op_add pe_int (pe_df D_law_draw (hr.mono (by first | decide | omega)) (pa_cons (pv 0) (pa_cons pe_int pa_nil)))) (pa_cons (pe_lst pa_nil) pa_nil)))))
  (pss_cons (ps_if (pt_val (pe_df D_law_small (hr.mono (by first | decide | omega)) (pa_cons (pv 1) pa_nil)))
  (pss_one (ps_ret (pv 1)))
  pss_nil)
  (pss_one (ps_ret (pe_tup (pa_cons pe_str (pa_cons (pe_tup (pa_cons pe_str (pa_cons (pe_tup (pa_cons pe_str (pa_cons pe_int (pa_cons (pe_df D_law_draw (hr.mono (by first | decide | omega)) (pa_cons (pv 0) (pa_cons pe_int pa_nil))) pa_nil)))) (pa_cons (pe_op op_add pe_int (pe_df D_law_draw (hr.mono (by first | decide | omega)) (pa_cons (pv 0) (pa_cons pe_int pa_nil)))) pa_nil)))) (pa_cons (pe_tup (pa_cons pe_str pa_nil)) pa_nil)))))))), ?_⟩)
  · obtain ⟨p, m, o, rfl, _⟩ := h
    rfl
  · obtain ⟨p, m, o, rfl, hp, hP, hm, q⟩ := h
    walk_at "lw i0"
    have c3 : costF 3 = 12500 ∧ costF 2 = 2500 ∧ costF 1 = 500 := by decide
    walk_at "lw go"
    refine ⟨p, 3, m, o, rfl, hp, hP, by omega, by decide, by decide, fun g o1 g0 g1 hP1 => ?_⟩
    walk_at "lw go"
    refine ⟨by show 0 ≤ sizeLine; decide, fun l hl => ?_⟩
    have npl : p ≠ l := ne_of_none upd_same hl
    have k1 : Keep p H _ := (Keep.refl.put (o := o1)).new (o := .lst []) hl
    walk_at "lw go"
    obtain ⟨dn, hdn, dn3, dc⟩ : ∃ dn : Nat, (1 + g : Int) = (dn : Int) ∧ dn ≤ 3 ∧ costF dn ≤ 12500 := by
      rcases (show g = 0 ∨ g = 1 ∨ g = 2 by omega) with rfl | rfl | rfl
      · exact ⟨1, rfl, by decide, by decide⟩
      · exact ⟨2, rfl, by decide, by decide⟩
      · exact ⟨3, rfl, by decide, by decide⟩
    rw [hdn]
    refine ⟨p, l, [], dn, _, o1, rfl, by omega, by rw [upd_ne npl, upd_same], hP1, by omega, upd_same, by simp only [List.length_nil]; omega, fun x hx => (nomatch hx), fun u F H2 o2 hF hd hO hB k2 hp2 hP2 => ?_⟩
    walk_at "lw go"
    refine ⟨u, F, rfl, hF, hB, hO, by omega, fun b H3 s3 hb => ?_⟩
    have k3 : Keep p H2 H3 := fun c v _ h => s3 c v h
    cases b with
    | true =>
      walk_at "lw go"
      exact q u F H3 o2 (hF.mono (same_tup s3)) ⟨hB, hO, by omega, hb rfl⟩ ((k1.trans k2).trans k3) (s3 _ _ hp2) (hP2.mono (by omega))
    | false =>
      walk_at "lw go"
      refine ⟨p, 9, _, o2, rfl, s3 _ _ hp2, hP2, by omega, by decide, by decide, fun e o3 e0 e1 hP3 => ?_⟩
      walk_at "lw go"
      refine ⟨by show 3 ≤ sizeLine; decide, fun t1 ht1 => ?_⟩
      have n1 : p ≠ t1 := ne_of_none upd_same ht1
      walk_at "lw go"
      refine ⟨p, 99, _, o3, rfl, by rw [upd_ne n1, upd_same], hP3, by omega, by decide, by decide, fun j o4 j0 j1 hP4 => ?_⟩
      walk_at "lw go"
      refine ⟨by show 3 ≤ sizeLine; decide, fun t2 ht2 => ?_⟩
      have n2 : p ≠ t2 := ne_of_none upd_same ht2
      walk_at "lw go"
      refine ⟨by show 1 ≤ sizeLine; decide, fun t3 ht3 => ?_⟩
      have n3 : p ≠ t3 := ne_of_none (by rw [upd_ne n2, upd_same]) ht3
      walk_at "lw go"
      refine ⟨by show 3 ≤ sizeLine; decide, fun t4 ht4 => ?_⟩
      have n4 : p ≠ t4 := ne_of_none (by rw [upd_ne n3, upd_ne n2, upd_same]) ht4
      have n12 : t1 ≠ t2 := ne_of_none (by rw [upd_ne n1.symm, upd_same]) ht2
      have n13 : t1 ≠ t3 := ne_of_none (by rw [upd_ne n12, upd_ne n1.symm, upd_same]) ht3
      have n14 : t1 ≠ t4 := ne_of_none (by rw [upd_ne n13, upd_ne n12, upd_ne n1.symm, upd_same]) ht4
      have n23 : t2 ≠ t3 := ne_of_none upd_same ht3
      have n24 : t2 ≠ t4 := ne_of_none (by rw [upd_ne n23, upd_same]) ht4
      have n34 : t3 ≠ t4 := ne_of_none upd_same ht4
      have k4 : Keep p H3 _ := (((((Keep.refl.put (o := o3)).new (o := .tup [.str "noise", .int 3, .int e]) ht1).put (o := o4)).new (o := .tup [.str "over", .ref t1, .int (1 + j)]) ht2).new (o := .tup [.str "x"]) ht3).new (o := .tup [.str "plus", .ref t2, .ref t3]) ht4
      refine q _ (dfltF e (1 + j)) _ o4 ⟨t4, .ref t2, .ref t3, rfl, upd_same, ⟨t2, .ref t1, rfl, by rw [upd_ne n24, upd_ne n23, upd_same], t1, rfl, by rw [upd_ne n14, upd_ne n13, upd_ne n12, upd_ne n1.symm, upd_same]⟩, t3, rfl, by rw [upd_ne n34, upd_same]⟩ (dflt_drawn e0 (by omega) (by omega) (by omega)) (((k1.trans k2).trans k3).trans k4) (by rw [upd_ne n4, upd_ne n3, upd_ne n2, upd_same]) (hP4.mono (by omega))
abbrev N_law_grain : List Str := ["_law_purse_here"]
theorem sc_law_grain : FnScope N_law_grain ["_law_purse_here"] (defScope s_law_grain) := ⟨rfl, rfl, rfl, by decide +kernel, rfl, by decide +kernel, by decide +kernel⟩
theorem ok_law_grain (F : FnP K "_law_grain" s_law_grain f fd) (T : Bi mg) (G : Kn K mg) (D_law_draw : Df P w K mg base "_law_draw" ["_law_purse_here", "_law_out_of"] 2 spDraw) : FnOk P w K mg base CX0 3 f fd ["_law_purse_here"] (spNum 0 1000000000) := by
  refine F.ok sc_law_grain (fun vs H Q E h => ?_) (fun cdv A outer s H vs Q E hr h => ⟨_, PSs.nox
(pss_one (ps_ret (pe_ix ix_list (pe_lst (pa_cons pe_int (pa_cons pe_int (pa_cons (pe_op op_pow pe_int pe_int) (pa_cons (pe_df D_law_draw (hr.mono (by first | decide | omega)) (pa_cons (pv 0) (pa_cons (pe_op op_pow pe_int pe_int) pa_nil))) pa_nil))))) (pe_df D_law_draw (hr.mono (by first | decide | omega)) (pa_cons (pv 0) (pa_cons pe_int pa_nil))) (fun _ _ => rfl)))), ?_⟩)
  · obtain ⟨p, m, o, rfl, _⟩ := h
    rfl
  · obtain ⟨p, m, o, rfl, hp, hP, hm, q⟩ := h
    walk_at "lw i0"
    walk_at "lw go"
    refine ⟨p, _, m, o, rfl, hp, hP, by omega, by decide +kernel, by decide +kernel, fun d o1 d0 d1 hP1 => ?_⟩
    walk_at "lw go"
    refine ⟨by show 4 ≤ sizeLine; decide, fun l hl => ?_⟩
    walk_at "lw go"
    have npl : p ≠ l := ne_of_none upd_same hl
    refine ⟨p, 4, _, o1, rfl, by rw [upd_ne npl, upd_same], hP1, by omega, by decide, by decide, fun e o2 e0 e1 hP2 => ?_⟩
    have d2 : d ≤ 1000000000 := by
      have z : (10 : Int) ^ Int.toNat 9 = 1000000000 := by decide +kernel
      omega
    have fin : ∀ g : Int, 0 ≤ g → g ≤ 1000000000 → Q (.int g) (upd (upd (upd H p o1) l (.lst [.int 0, .int 1, .int (10 ^ Int.toNat 9), .int d])) p o2) := fun g g0 g1 =>
      q g o2 _ g0 g1 ((Keep.refl.put.new hl).put) upd_same (hP2.mono (by omega))
    have at_ : (upd (upd (upd H p o1) l (.lst [.int 0, .int 1, .int (10 ^ Int.toNat 9), .int d])) p o2) l = some (.lst [.int 0, .int 1, .int (10 ^ Int.toNat 9), .int d]) := by
      rw [upd_ne npl.symm, upd_same]
    rcases (show e = 0 ∨ e = 1 ∨ e = 2 ∨ e = 3 by omega) with rfl | rfl | rfl | rfl
    · exact g_ixL (SqL.of at_) (v := .int 0) rfl (fin 0 (by omega) (by omega))
    · exact g_ixL (SqL.of at_) (v := .int 1) rfl (fin 1 (by omega) (by omega))
    · exact g_ixL (SqL.of at_) (v := .int (10 ^ Int.toNat 9)) rfl (fin _ (by decide +kernel) (by decide +kernel))
    · exact g_ixL (SqL.of at_) (v := .int d) rfl (fin d d0 d2)
abbrev N_law_place : List Str := ["_law_purse_here", "_law_found", "_law_k", "_law_far"]
theorem sc_law_place : FnScope N_law_place ["_law_purse_here"] (defScope s_law_place) := ⟨rfl, rfl, rfl, by decide +kernel, rfl, by decide +kernel, by decide +kernel⟩
theorem ok_law_place (F : FnP K "_law_place" s_law_place f fd) (T : Bi mg) (G : Kn K mg) (D_law_draw : Df P w K mg base "_law_draw" ["_law_purse_here", "_law_out_of"] 2 spDraw) : FnOk P w K mg base CX0 3 f fd ["_law_purse_here"] spPlace := by
  refine F.ok sc_law_place (fun vs H Q E h => ?_) (fun cdv A outer s H vs Q E hr h => ⟨_, PSs.nox
(pss_cons (ps_set (i := 1) sc_law_place.nd rfl (Or.inl rfl) (pe_lst pa_nil))
  (pss_cons (ps_for PassesOwn.never rfl (pi_range1 (by rfl) T.range (pa_cons pe_int pa_nil)) (pg_name (i := 2) sc_law_place.nd rfl (Or.inl rfl))
  (pss_cons (ps_set (i := 3) sc_law_place.nd rfl (Or.inl rfl) (pe_ix ix_list (pe_lst (pa_cons pe_int (pa_cons pe_int (pa_cons pe_int (pa_cons pe_int pa_nil))))) (pe_df D_law_draw (hr.mono (by first | decide | omega)) (pa_cons (pv 0) (pa_cons pe_int pa_nil))) (fun _ _ => rfl)))
  (pss_one (ps_expr (pe_bm PySem.F.plainAttrs_list PySem.F.slot_list_append PySem.F.type_list_append mt_append (pv 1) (pa_cons (pe_op op_mul (pe_callB (call_min2 rfl) (by rfl) T.min (by decide +kernel) (pa_cons pe_int (pa_cons (pe_df D_law_draw (hr.mono (by first | decide | omega)) (pa_cons (pv 0) (pa_cons (pv 3) pa_nil))) pa_nil))) (pe_op op_sub pe_int (pe_op op_mul pe_int (pe_df D_law_draw (hr.mono (by first | decide | omega)) (pa_cons (pv 0) (pa_cons pe_int pa_nil)))))) pa_nil))))))
  (pss_one (ps_ret (pe_tup (pa_cons (pe_ix ix_list (pv 1) pe_int (fun _ _ => rfl)) (pa_cons (pe_ix ix_list (pv 1) pe_int (fun _ _ => rfl)) pa_nil))))))), ?_⟩)
  · obtain ⟨p, m, o, rfl, _⟩ := h
    rfl
  · obtain ⟨p, m, o, rfl, hp, hP, hm, q⟩ := h
    walk_at "lw i0"
    walk_at "lw go"
    refine ⟨by show 0 ≤ sizeLine; decide, fun l hl => ?_⟩
    have npl : p ≠ l := ne_of_none hp hl
    walk_at "lw go"
    refine ⟨_, rfl, by decide, by decide, for_range (n := 2) (fun i σ H' => ∃ (o2 o3 : Option V) (xs : List Int) (o' : HO), σ = [some (.ref p), some (.ref l), o2, o3] ∧ Keep p H H' ∧ H' l = some (.lst (xs.map V.int)) ∧ xs.length = i ∧ (∀ x ∈ xs, -1000000 ≤ x ∧ x ≤ 1000000) ∧ H' p = some o' ∧ Purse (m + 12 * i) o')
      ⟨none, none, [], o, rfl, Keep.refl.new hl, upd_same, rfl, fun x hx => (nomatch hx), by rw [upd_ne npl]; exact hp, hP.mono (by omega)⟩ ?_ ?_⟩
    · rintro i σ H' hi ⟨o2, o3, xs, o', rfl, k, hlx, hxl, hxs, hp', hP'⟩
      walk_at "lw go"
      refine ⟨by show 4 ≤ sizeLine; decide, fun l2 hl2 => ?_⟩
      have np2 : p ≠ l2 := ne_of_none hp' hl2
      have nl2 : l ≠ l2 := ne_of_none hlx hl2
      walk_at "lw go"
      refine ⟨p, 4, _, o', rfl, by rw [upd_ne np2]; exact hp', hP', by omega, by decide, by decide, fun e o1 e0 e1 hP1 => ?_⟩
      obtain ⟨v, hv, hv2⟩ := four_at (a := V.int 9) (b := V.int 300) (c := V.int 100000) (d := V.int 1000001) e0 e1
      obtain ⟨n, rfl, n0, n1⟩ : ∃ n : Int, v = .int n ∧ 0 < n ∧ n ≤ 1000001 := by
        rcases hv2 with rfl | rfl | rfl | rfl
        · exact ⟨9, rfl, by omega, by omega⟩
        · exact ⟨300, rfl, by omega, by omega⟩
        · exact ⟨100000, rfl, by omega, by omega⟩
        · exact ⟨1000001, rfl, by omega, by omega⟩
      refine g_ixL (SqL.of (by rw [upd_ne np2.symm, upd_same])) hv ?_
      walk_at "lw go"
      have hl3 : (upd (upd H' l2 (.lst [.int 9, .int 300, .int 100000, .int 1000001])) p o1) l = some (.lst (xs.map V.int)) := by rw [upd_ne npl.symm, upd_ne nl2]; exact hlx
      refine ⟨tyL hl3, ?_⟩
      walk_at "lw go"
      refine ⟨p, n, _, o1, rfl, upd_same, hP1, by omega, n0, by omega, fun j o4 j0 j1 hP4 => ?_⟩
      walk_at "lw go"
      refine ⟨_, _, rfl, ?_⟩
      walk_at "lw go"
      refine ⟨p, 2, _, o4, rfl, upd_same, hP4, by omega, by decide, by decide, fun s2 o5 s0 s1 hP5 => ?_⟩
      obtain ⟨y, hy, y0, y1⟩ : ∃ y : Int, (if j < 1000000 then j else 1000000) * (1 - 2 * s2) = y ∧ -1000000 ≤ y ∧ y ≤ 1000000 := by
        refine ⟨_, rfl, ?_⟩
        rcases (show s2 = 0 ∨ s2 = 1 by omega) with rfl | rfl <;> split <;> omega
      have hmul : CMul (if j < 1000000 then j else 1000000) (1 - 2 * s2) := Or.inr ⟨by omega, by omega⟩
      walk_at "lw go"
      rw [hy]
      walk_at "lw go"
      refine g_append (xs := xs.map V.int) (by rw [upd_ne npl.symm, upd_ne npl.symm, upd_ne npl.symm, upd_ne nl2]; exact hlx) (by rw [List.length_map]; exact small1000 (by omega)) ?_
      walk_at "lw go"
      have hlH : H l = none := hl
      refine ⟨_, _, xs ++ [y], o5, rfl, ?_, ?_, by rw [List.length_append]; simp; omega, ?_, by rw [upd_ne npl, upd_same], hP5.mono (by omega)⟩
      · exact keep_put2 ((((k.new (o := .lst [.int 9, .int 300, .int 100000, .int 1000001]) hl2).put (o := o1)).put (o := o4)).put (o := o5)) hlH
      · rw [upd_same, List.map_append]; rfl
      · intro x hx
        rcases List.mem_append.mp hx with hx | hx
        · exact hxs x hx
        · rw [List.mem_singleton.mp hx]; exact ⟨y0, y1⟩
    · rintro σ H' ⟨o2, o3, xs, o', rfl, k, hlx, hxl, hxs, hp', hP'⟩
      match xs, hxl with
      | [x, z], _ =>
        walk_at "lw go"
        refine g_ixL (SqL.of hlx) (v := .int x) (atI_nat (j := 0) (by rfl)) ?_
        walk_at "lw go"
        refine g_ixL (SqL.of hlx) (v := .int z) (atI_nat (j := 1) (by rfl)) ?_
        walk_at "lw go"
        refine ⟨by show 2 ≤ sizeLine; decide, fun t ht => ?_⟩
        have npt : p ≠ t := ne_of_none hp' ht
        have h1 := hxs x (by simp)
        have h2 := hxs z (by simp)
        exact q x z t o' _ h1.1 h1.2 h2.1 h2.2 (k.new ht) (by rw [upd_ne npt]; exact hp') (hP'.mono (by omega)) upd_same
abbrev N_law_area : List Str := ["_law_purse_here", "_law_wide", "_law_deep", "_law_x", "_law_z"]
theorem sc_law_area : FnScope N_law_area ["_law_purse_here", "_law_wide", "_law_deep"] (defScope s_law_area) := ⟨rfl, rfl, rfl, by decide +kernel, rfl, by decide +kernel, by decide +kernel⟩
theorem ok_law_area (F : FnP K "_law_area" s_law_area f fd) (T : Bi mg) (G : Kn K mg) (D_law_place : Df P w K mg base "_law_place" ["_law_purse_here"] 3 spPlace) (D_law_draw : Df P w K mg base "_law_draw" ["_law_purse_here", "_law_out_of"] 2 spDraw) : FnOk P w K mg base CX0 4 f fd ["_law_purse_here", "_law_wide", "_law_deep"] spArea := by
  refine F.ok sc_law_area (fun vs H Q E h => ?_) (fun cdv A outer s H vs Q E hr h => ⟨_, PSs.nox
(pss_cons (ps_asg (pe_df D_law_place (hr.mono (by first | decide | omega)) (pa_cons (pv 0) pa_nil)) (pg_tup (by rfl) (pgs_cons (pg_name (i := 3) sc_law_area.nd rfl (Or.inl rfl)) (pgs_cons (pg_name (i := 4) sc_law_area.nd rfl (Or.inl rfl)) pgs_nil))))
  (pss_cons (ps_set (i := 3) sc_law_area.nd rfl (Or.inl rfl) (pe_callB (call_min2 rfl) (by rfl) T.min (by decide +kernel) (pa_cons (pv 3) (pa_cons (pe_op op_sub pe_int (pv 1)) pa_nil))))
  (pss_cons (ps_set (i := 4) sc_law_area.nd rfl (Or.inl rfl) (pe_callB (call_min2 rfl) (by rfl) T.min (by decide +kernel) (pa_cons (pv 4) (pa_cons (pe_op op_sub pe_int (pv 2)) pa_nil))))
  (pss_one (ps_ret (pe_tup (pa_cons (pv 3) (pa_cons (pv 4) (pa_cons (pe_op op_add (pv 3) (pe_df D_law_draw (hr.mono (by first | decide | omega)) (pa_cons (pv 0) (pa_cons (pv 1) pa_nil)))) (pa_cons (pe_op op_add (pv 4) (pe_df D_law_draw (hr.mono (by first | decide | omega)) (pa_cons (pv 0) (pa_cons (pv 2) pa_nil)))) pa_nil)))))))))), ?_⟩)
  · obtain ⟨p, wd, dp, m, o, rfl, _⟩ := h
    rfl
  · obtain ⟨p, wd, dp, m, o, rfl, hp, hP, hm, w0, w1, d0, d1, q⟩ := h
    walk_at "lw i0"
    walk_at "lw go"
    refine ⟨p, m, o, rfl, hp, hP, by omega, fun x z t o1 H1 x0 x1 z0 z1 k1 hp1 hP1 ht => ?_⟩
    walk_at "lw go"
    refine g_tupT (SqT.of ht) rfl ?_
    walk_at "lw go"
    refine ⟨_, _, rfl, ?_⟩
    rw [min_if]
    walk_at "lw go"
    refine ⟨_, _, rfl, ?_⟩
    rw [min_if]
    obtain ⟨X, hX⟩ : ∃ X : Int, min x (1000000 - wd) = X := ⟨_, rfl⟩
    obtain ⟨Z, hZ⟩ : ∃ Z : Int, min z (1000000 - dp) = Z := ⟨_, rfl⟩
    rw [hX, hZ]
    walk_at "lw go"
    refine ⟨p, wd, _, o1, rfl, hp1, hP1, by omega, by omega, by omega, fun a o2 a0 a1 hP2 => ?_⟩
    obtain ⟨H2, e2⟩ : ∃ H2, upd H1 p o2 = H2 := ⟨_, rfl⟩
    have k2 : Keep p H1 H2 := e2 ▸ Keep.refl.put
    have hp2 : H2 p = some o2 := e2 ▸ upd_same
    have t2 : Tup H1 H2 := purse_tup k2 hp1 hP1
    rw [e2]
    clear e2
    walk_at "lw go"
    refine ⟨p, dp, _, o2, rfl, hp2, hP2, by omega, by omega, by omega, fun b o3 b0 b1 hP3 => ?_⟩
    obtain ⟨H3, e3⟩ : ∃ H3, upd H2 p o3 = H3 := ⟨_, rfl⟩
    have k3 : Keep p H2 H3 := e3 ▸ Keep.refl.put
    have hp3 : H3 p = some o3 := e3 ▸ upd_same
    have t3 : Tup H2 H3 := purse_tup k3 hp2 hP2
    rw [e3]
    clear e3
    walk_at "lw go"
    refine ⟨by show 4 ≤ sizeLine; decide, fun t4 ht4 => ?_⟩
    exact q X Z (X + a) (Z + b) t4 o3 _ ⟨⟨by omega, by omega, by omega⟩, by omega, by omega, by omega⟩ (((k1.trans k2).trans k3).new ht4) (by rw [upd_ne (ne_of_none hp3 ht4)]; exact hp3) (hP3.mono (by omega)) upd_same
abbrev N_law_class : List Str := ["_law_e", "_law_found", "_law_kinds", "_law_k"]
theorem sc_law_class : FnScope N_law_class ["_law_e"] (defScope s_law_class) := ⟨rfl, rfl, rfl, by decide +kernel, rfl, by decide +kernel, by decide +kernel⟩
theorem ok_law_class (F : FnP K "_law_class" s_law_class f fd) (T : Bi mg) (G : Kn K mg) : FnOk P w K mg base CX0 1 f fd ["_law_e"] (spClass K) := by
  refine F.ok sc_law_class (fun vs H Q E h => ?_) (fun cdv A outer s H vs Q E hr h => ⟨_, PSs.nox
(pss_cons (ps_set (i := 1) sc_law_class.nd rfl (Or.inr rfl) (pe_lst (pa_cons (pe_callB call_isXi (by rfl) T.isinstance (by decide +kernel) (pa_cons (pv 0) (pa_cons (pe_cls G.g_NoRules) pa_nil))) (pa_cons (pe_callB call_isXi (by rfl) T.isinstance (by decide +kernel) (pa_cons (pv 0) (pa_cons (pe_cls G.g_NoBox) pa_nil))) (pa_cons (pe_callB call_isXi (by rfl) T.isinstance (by decide +kernel) (pa_cons (pv 0) (pa_cons (pe_cls G.g_NoPoint) pa_nil))) (pa_cons (pe_callB call_isXi (by rfl) T.isinstance (by decide +kernel) (pa_cons (pv 0) (pa_cons (pe_cls G.g_NoLevel) pa_nil))) pa_nil))))))
  (pss_cons (ps_set (i := 1) sc_law_class.nd rfl (Or.inr rfl) (pe_op op_cat (pv 1) (pe_lst (pa_cons (pe_callB call_isXi (by rfl) T.isinstance (by decide +kernel) (pa_cons (pv 0) (pa_cons (pe_cls G.g_NoCount) pa_nil))) (pa_cons (pe_callB call_isXi (by rfl) T.isinstance (by decide +kernel) (pa_cons (pv 0) (pa_cons (pe_cls G.g_NoEdit) pa_nil))) (pa_cons (pe_callB call_isXi (by rfl) T.isinstance (by decide +kernel) (pa_cons (pv 0) (pa_cons (pe_cls G.g_Full) pa_nil))) (pa_cons (pe_callB call_isXi (by rfl) T.isinstance (by decide +kernel) (pa_cons (pv 0) (pa_cons (pe_cls G.g_NoDeed) pa_nil))) pa_nil)))))))
  (pss_cons (ps_set (i := 1) sc_law_class.nd rfl (Or.inr rfl) (pe_op op_cat (pv 1) (pe_lst (pa_cons (pe_callB call_isXi (by rfl) T.isinstance (by decide +kernel) (pa_cons (pv 0) (pa_cons (pe_cls G.g_NoBrush) pa_nil))) (pa_cons (pe_callB call_isXi (by rfl) T.isinstance (by decide +kernel) (pa_cons (pv 0) (pa_cons (pe_cls G.g_NoText) pa_nil))) (pa_cons (pe_callB call_isXi (by rfl) T.isinstance (by decide +kernel) (pa_cons (pv 0) (pa_cons (pe_cls G.g_NoLine) pa_nil))) (pa_cons (pe_callB call_isXi (by rfl) T.isinstance (by decide +kernel) (pa_cons (pv 0) (pa_cons (pe_cls G.g_NoSuch) pa_nil))) pa_nil)))))))
  (pss_cons (ps_setLc (i := 2) (own := [("_law_k", 3)]) (g := gName 3)  rfl sc_law_class.nd rfl rfl (sw_true rfl rfl rfl (by decide +kernel)) (pi_range1 (by rfl) T.range (pa_cons pe_int pa_nil)) (blkOk_by (N := N_law_class) (sc := defScope s_law_class) (by decide +kernel)) (fun _ _ _ _ _ => pg_name (i := 3) sc_law_class.nd rfl (Or.inl rfl)) (fun _ _ _ _ _ => (pts_one (pt_val (pe_ix (ix_listK (K := K)) (pv 1) (pv 3) (fun _ _ => rfl))))) (fun _ _ _ _ _ => (pv 3)))
  (pss_cons (ps_if (PW.pt (pw_and (pt_cmpR op_notN (pv 0) pe_non (nomark _)) (pw_and1 (pt_cmpR (op_eqD hr.units) (pv 2) (pe_lst pa_nil) (nomark _)))))
  (pss_one (ps_ret (pe_lst (pa_cons pe_int pa_nil))))
  pss_nil)
  (pss_cons (ps_if (pt_cmpR op_ne (pe_callB call_isXi (by rfl) T.isinstance (by decide +kernel) (pa_cons (pv 0) (pa_cons (pe_cls G.g_LandError) pa_nil))) (pe_and (pe_cmpR (op_neD hr.units) (pv 2) (pe_lst pa_nil) (nomark _)) (pe_one (pe_cmpR op_lt (pe_ix ix_list (pv 2) pe_int (fun _ _ => rfl)) pe_int (nomark _)))) (nomark _))
  (pss_one (ps_ret (pe_lst (pa_cons pe_int pa_nil))))
  pss_nil)
  (pss_one (ps_ret (pv 2))))))))), ?_⟩)
  · obtain ⟨_, _, rfl, _⟩ := h
    rfl
  · obtain ⟨v, i, rfl, hi, hI, hv, q⟩ := h
    walk_at "lw go"
    refine hI _ (by simp [nmC]) _ _ Ext.refl ?_
    walk_at "lw go"
    refine hI _ (by simp [nmC]) _ _ Ext.refl ?_
    walk_at "lw go"
    refine hI _ (by simp [nmC]) _ _ Ext.refl ?_
    walk_at "lw go"
    refine hI _ (by simp [nmC]) _ _ Ext.refl ?_
    walk_at "lw go"
    refine ⟨by show 4 ≤ sizeLine; decide, fun l1 h1 => ?_⟩
    walk_at "lw go"
    refine hI _ (by simp [nmC]) _ _ (Ext.refl.new h1) ?_
    walk_at "lw go"
    refine hI _ (by simp [nmC]) _ _ (Ext.refl.new h1) ?_
    walk_at "lw go"
    refine hI _ (by simp [nmC]) _ _ (Ext.refl.new h1) ?_
    walk_at "lw go"
    refine hI _ (by simp [nmC]) _ _ (Ext.refl.new h1) ?_
    walk_at "lw go"
    refine ⟨by show 4 ≤ sizeLine; decide, fun l2 h2 => g_cat (by rw [upd_ne (ne_of_none upd_same h2), upd_same]) upd_same (by show 8 ≤ sizeLine; decide) fun l3 h3 => ?_⟩
    walk_at "lw go"
    refine hI _ (by simp [nmC]) _ _ (((Ext.refl.new h1).new h2).new h3) ?_
    walk_at "lw go"
    refine hI _ (by simp [nmC]) _ _ (((Ext.refl.new h1).new h2).new h3) ?_
    walk_at "lw go"
    refine hI _ (by simp [nmC]) _ _ (((Ext.refl.new h1).new h2).new h3) ?_
    walk_at "lw go"
    refine hI _ (by simp [nmC]) _ _ (((Ext.refl.new h1).new h2).new h3) ?_
    walk_at "lw go"
    refine ⟨by show 4 ≤ sizeLine; decide, fun l4 h4 => g_cat (by rw [upd_ne (ne_of_none upd_same h4), upd_same]) upd_same (by show 12 ≤ sizeLine; decide) fun l5 h5 => ?_⟩
    walk_at "lw go"
    refine ⟨12, rfl, by decide, by decide, fun D hD => ?_⟩
    have kD : Ext H _ := ((((((Ext.refl.new h1).new h2).new h3).new h4).new h5).new hD : Ext H (upd _ D (.lst [])))
    have hD0 := none_of (((((Ext.refl.new h1).new h2).new h3).new h4).new h5) hD
    have nD : l5 ≠ D := ne_of_none upd_same hD
    refine lc_range (fun j H4 => Ext H H4 ∧ H4 l5 = some (.lst (fnd i)) ∧ H4 D = some (.lst (kUp i j))) ⟨kD, by rw [upd_ne nD]; exact upd_same, upd_same⟩ ?_ ?_
    · rintro j H4 hj ⟨k4, f4, e4⟩
      walk_at "lw go"
      refine ⟨rfl, ?_⟩
      have hj2 : j < 12 := hj
      walk_at "lw go"
      refine g_ixL (SqL.of f4) (fnd_at hj2) ⟨_, rfl, ?_⟩
      cases hb : bO i (nm j) with
      | false => exact iteF ⟨k4, f4, by rw [kUp_no hb]; exact e4⟩
      | true =>
        refine iteT ?_
        walk_at "lw go"
        exact ⟨_, e4, Nat.lt_of_le_of_lt (kUp_len i j) (by rw [sizeLine_eq]; omega), k4.put hD0, by rw [upd_ne nD]; exact f4, by rw [upd_same, kUp_yes hb]⟩
    · rintro H4 ⟨k4, f4, e4⟩
      rw [show Int.toNat 12 = 12 from rfl, kUp_all hi] at e4
      clear kD hD hD0 h1 h2 h3 h4 h5
      walk_at "lw go"
      have sh : ∀ n : Nat, SeqAt.shaped (.list [.int (n : Int)]) = true := fun n => by simp [SeqAt.shaped, PyData.canLay0, PyData.canLayAll0, PyData.depth, PyData.depthAll]
      have sh0 : SeqAt.shaped (.list []) = true := by decide +kernel
      cases i with
      | none =>
        obtain rfl := hv.mpr rfl
        refine ⟨rfl, bl_is (c := false) (by simp) ?_⟩
        walk_at "lw go"
        refine hI "LandError" (.inr rfl) _ _ k4 ?_
        walk_at "lw go"
        refine ⟨by show 0 ≤ sizeLine; decide, fun l6 h6 => ?_⟩
        refine ne_same (d := .list []) sh0 (.lst (SqL.of ((Ext.refl.new h6) _ _ e4)) .nil) (.lst (SqL.of upd_same) .nil) ?_
        refine bl_is (c := false) rfl (iteF ?_)
        walk_at "lw go"
        refine g_iteN (fun z => absurd rfl z) fun _ => ?_
        walk_at "lw go"
        exact q D _ (k4.new h6) ((Ext.refl.new h6) _ _ e4)
      | some i =>
        have hne : v ≠ .non := fun z => by cases hv.mp z
        refine ⟨rfl, bl_is (c := true) (by simp [hne]) ?_⟩
        walk_at "lw go"
        refine ⟨by show 0 ≤ sizeLine; decide, fun l6 h6 => ?_⟩
        have e6 := (Ext.refl.new (o := .lst []) h6) _ _ e4
        refine ⟨.list [.int (i : Nat)], .list [], .lst (SqL.of e6) (.cons (.int _) .nil), .lst (SqL.of upd_same) .nil, sh i, sh0, bl_is (c := false) rfl ?_⟩
        walk_at "lw go"
        refine hI "LandError" (.inr rfl) _ _ (k4.new h6) ?_
        walk_at "lw go"
        refine ⟨by show 0 ≤ sizeLine; decide, fun l7 h7 => ?_⟩
        have e7 := (Ext.refl.new (o := .lst []) h7) _ _ e6
        refine ⟨.list [.int (i : Nat)], .list [], .lst (SqL.of e7) (.cons (.int _) .nil), .lst (SqL.of upd_same) .nil, sh i, sh0, ?_⟩
        refine bl_is (c := true) rfl (iteT ?_)
        walk_at "lw go"
        refine g_ixL (SqL.of e7) (v := .int (i : Nat)) rfl ?_
        walk_at "lw go"
        refine g_iteN (fun z => absurd ?_ z) fun _ => ?_
        · show V.bl (decide (i < 11)) = V.bl (decide (((i : Nat) : Int) < 11))
          congr 1
          exact decide_eq_decide.mpr (by omega)
        · walk_at "lw go"
          exact q D _ ((k4.new h6).new h7) e7
abbrev N_law_caught : List Str := ["_law_field_here", "_law_grain_here", "_law_area_here", "_law_caught_here", "_law_e"]
theorem sc_law_caught : FnScope N_law_caught ["_law_field_here", "_law_grain_here", "_law_area_here"] (defScope s_law_caught) := ⟨rfl, rfl, rfl, by decide +kernel, rfl, by decide +kernel, by decide +kernel⟩
theorem ok_law_caught (F : FnP K "_law_caught" s_law_caught f fd) (T : Bi mg) (G : Kn K mg) (DX_bounds_of : DfX P w K mg base "bounds_of" ["rules", "seed", "box"] 63 (spBndsX K)) (D_law_class : Df P w K mg base "_law_class" ["_law_e"] 1 (spClass K)) : FnOk P w K mg base CX0 64 f fd ["_law_field_here", "_law_grain_here", "_law_area_here"] (spCaught K) := by
  refine F.ok (k := 63) sc_law_caught (fun vs H Q E h => ?_) (fun cdv A outer s H vs Q E hr h => ⟨_, PSs.nox
(pss_cons (ps_set (i := 3) sc_law_caught.nd rfl (Or.inl rfl) pe_non)
  (pss_cons (ps_try_keep (i := 4) rfl rfl rfl sc_law_caught.nd rfl rfl (c := .ref (cA K "LandError")) ⟨rfl, by decide, .inl G.g_LandError⟩ takes0
    (fun W pn xe tk po => (pss_one (ps_expr (pe_dfX DX_bounds_of (hr.mono (by first | decide | omega)) tk (pa_cons (pv 0) (pa_cons (pv 1) (pa_cons (pv 2) pa_nil)))))))
    (fun a oe cls d pn hz hv => (pss_one (ps_set (i := 3) sc_law_caught.nd rfl (Or.inl rfl) (pv 4)))))
  (pss_one (ps_ret (pe_df D_law_class (hr.mono (by first | decide | omega)) (pa_cons (pv 3) pa_nil)))))), ?_⟩)
  · obtain ⟨u, F, g, x0, z0, x1, z1, b, rfl, _⟩ := h
    rfl
  · obtain ⟨u, F, g, x0, z0, x1, z1, b, rfl, hF, hG, hb, hn, q⟩ := h
    walk_at "lw go"
    refine g_callS ?_
    walk_at "lw go"
    refine ⟨u, F, g, x0, z0, x1, z1, b, rfl, hF, hG, hb, hn, fun H1 s1 => ⟨true, G.mP, (fun z => by cases z), fun _ a ha => ?_⟩⟩
    walk_at "lw go"
    have k1 : Ext H1 (upd H1 a (exg a (.ref (cA K "NoBox")) none)) := Ext.refl.new ha
    exact ⟨.ref a, some 1, rfl, (by decide : 1 < 12), isR_exc (i := 1) (fs := []) (G.er.own (x := "NoBox") (b := false) (fs := []) (by simp [csK])) (.heldB upd_same) (fun y hy => G.er.kin ("NoBox", y, bO (some 1) y) (List.mem_map.mpr ⟨y, by rcases hy with hy | hy <;> simp [hy], rfl⟩)), ⟨fun e => (nomatch e), fun e => (nomatch e)⟩, fun l H' k h => q l H' (s1.trans (fun b u hb => k b u (k1 b u hb))) h⟩
abbrev N_law_areas : List Str := ["_law_purse_here", "_law_found", "_law_wide", "_law_first"]
theorem sc_law_areas : FnScope N_law_areas ["_law_purse_here"] (defScope s_law_areas) := ⟨rfl, rfl, rfl, by decide +kernel, rfl, by decide +kernel, by decide +kernel⟩
theorem ok_law_areas (F : FnP K "_law_areas" s_law_areas f fd) (T : Bi mg) (G : Kn K mg) (D_law_area : Df P w K mg base "_law_area" ["_law_purse_here", "_law_wide", "_law_deep"] 4 spArea) (D_law_draw : Df P w K mg base "_law_draw" ["_law_purse_here", "_law_out_of"] 2 spDraw) : FnOk P w K mg base CX0 5 f fd ["_law_purse_here"] spAreas := by
  refine F.ok sc_law_areas (fun vs H Q E h => ?_) (fun cdv A outer s H vs Q E hr h => ⟨_, PSs.nox
(pss_cons (ps_set (i := 1) sc_law_areas.nd rfl (Or.inl rfl) (pe_lst (pa_cons (pe_df D_law_area (hr.mono (by first | decide | omega)) (pa_cons (pv 0) (pa_cons pe_int (pa_cons pe_int pa_nil)))) (pa_cons (pe_df D_law_area (hr.mono (by first | decide | omega)) (pa_cons (pv 0) (pa_cons pe_int (pa_cons pe_int pa_nil)))) (pa_cons (pe_df D_law_area (hr.mono (by first | decide | omega)) (pa_cons (pv 0) (pa_cons pe_int (pa_cons pe_int pa_nil)))) (pa_cons (pe_df D_law_area (hr.mono (by first | decide | omega)) (pa_cons (pv 0) (pa_cons pe_int (pa_cons pe_int pa_nil)))) pa_nil))))))
  (pss_cons (ps_set (i := 1) sc_law_areas.nd rfl (Or.inl rfl) (pe_op op_cat (pv 1) (pe_lst (pa_cons (pe_tup (pa_cons (pe_un un_neg pe_int) (pa_cons (pe_un un_neg pe_int) (pa_cons pe_int (pa_cons pe_int pa_nil))))) (pa_cons (pe_tup (pa_cons (pe_un un_neg pe_int) (pa_cons (pe_un un_neg pe_int) (pa_cons pe_int (pa_cons pe_int pa_nil))))) (pa_cons (pe_tup (pa_cons pe_int (pa_cons (pe_un un_neg pe_int) (pa_cons pe_int (pa_cons (pe_un un_neg pe_int) pa_nil))))) pa_nil))))))
  (pss_cons (ps_set (i := 2) sc_law_areas.nd rfl (Or.inl rfl) (pe_op op_shl pe_int (pe_df D_law_draw (hr.mono (by first | decide | omega)) (pa_cons (pv 0) (pa_cons pe_int pa_nil)))))
  (pss_cons (ps_set (i := 3) sc_law_areas.nd rfl (Or.inl rfl) (pe_op op_mul (pv 2) (pe_op op_sub (pe_df D_law_draw (hr.mono (by first | decide | omega)) (pa_cons (pv 0) (pa_cons pe_int pa_nil))) pe_int)))
  (pss_cons (ps_expr (pe_bm PySem.F.plainAttrs_list PySem.F.slot_list_append PySem.F.type_list_append mt_append (pv 1) (pa_cons (pe_tup (pa_cons (pv 3) (pa_cons (pv 3) (pa_cons (pe_op op_sub (pe_op op_add (pv 3) (pe_op op_mul pe_int (pv 2))) pe_int) (pa_cons (pe_op op_sub (pe_op op_add (pv 3) (pe_op op_mul pe_int (pv 2))) pe_int) pa_nil))))) pa_nil)))
  (pss_one (ps_ret (pe_op op_cat (pv 1) (pe_lst (pa_cons (pe_tup (pa_cons (pe_op op_sub (pv 3) pe_int) (pa_cons pe_int (pa_cons (pe_op op_add (pv 3) (pe_op op_mul pe_int (pv 2))) (pa_cons (pe_op op_mul pe_int (pv 2)) pa_nil))))) pa_nil)))))))))), ?_⟩)
  · obtain ⟨p, m, o, rfl, _⟩ := h
    rfl
  · obtain ⟨p, m, o, rfl, hp, hP, hm, q⟩ := h
    walk_at "lw i0"
    walk_at "lw go"
    refine ⟨p, 1, 1, m, o, rfl, hp, hP, by omega, by decide, by decide, by decide, by decide, fun a0 a1 a2 a3 t1 o1 H1 ob1 k1 hp1 hP1 f1 => ?_⟩
    walk_at "lw go"
    refine ⟨p, 8, 8, _, o1, rfl, hp1, hP1, by omega, by decide, by decide, by decide, by decide, fun b0 b1 b2 b3 t2 o2 H2 ob2 k2 hp2 hP2 f2 => ?_⟩
    have f1 := (purse_tup k2 hp1 hP1) _ _ f1
    walk_at "lw go"
    refine ⟨p, 40, 2, _, o2, rfl, hp2, hP2, by omega, by decide, by decide, by decide, by decide, fun c0 c1 c2 c3 t3 o3 H3 ob3 k3 hp3 hP3 f3 => ?_⟩
    have f1 := (purse_tup k3 hp2 hP2) _ _ f1
    have f2 := (purse_tup k3 hp2 hP2) _ _ f2
    walk_at "lw go"
    refine ⟨p, 3000, 300, _, o3, rfl, hp3, hP3, by omega, by decide, by decide, by decide, by decide, fun d0 d1 d2 d3 t4 o4 H4 ob4 k4 hp4 hP4 f4 => ?_⟩
    have f1 := (purse_tup k4 hp3 hP3) _ _ f1
    have f2 := (purse_tup k4 hp3 hP3) _ _ f2
    have f3 := (purse_tup k4 hp3 hP3) _ _ f3
    have k14 : Keep p H H4 := ((k1.trans k2).trans k3).trans k4
    have A4 : AreasOk H4 [.ref t1, .ref t2, .ref t3, .ref t4] := fun y hy => by
      simp only [List.mem_cons, List.not_mem_nil, or_false] at hy
      rcases hy with rfl | rfl | rfl | rfl
      · exact ⟨_, _, _, _, _, rfl, f1, ob1⟩
      · exact ⟨_, _, _, _, _, rfl, f2, ob2⟩
      · exact ⟨_, _, _, _, _, rfl, f3, ob3⟩
      · exact ⟨_, _, _, _, _, rfl, f4, ob4⟩
    clear f1 f2 f3 f4 k1 k2 k3 k4 hP1 hP2 hP3
    walk_at "lw go"
    refine ⟨by show 4 ≤ sizeLine; decide, fun l5 hl5 => ?_⟩
    obtain ⟨H5, e5⟩ : ∃ H5, upd H4 l5 (.lst [.ref t1, .ref t2, .ref t3, .ref t4]) = H5 := ⟨_, rfl⟩
    have s5 : Same H4 H5 := e5 ▸ same_new hl5
    have f5 : H5 l5 = some (.lst [.ref t1, .ref t2, .ref t3, .ref t4]) := e5 ▸ upd_same
    rw [e5]
    clear e5
    walk_at "lw go"
    refine ⟨by show 4 ≤ sizeLine; decide, fun t6 ht6 => ?_⟩
    obtain ⟨H6, e6⟩ : ∃ H6, upd H5 t6 (.tup [.int (-1000000), .int (-1000000), .int 1000000, .int 1000000]) = H6 := ⟨_, rfl⟩
    have s6 : Same H5 H6 := e6 ▸ same_new ht6
    have f6 : H6 t6 = some (.tup [.int (-1000000), .int (-1000000), .int 1000000, .int 1000000]) := e6 ▸ upd_same
    rw [e6]
    clear e6
    walk_at "lw go"
    refine ⟨by show 4 ≤ sizeLine; decide, fun t7 ht7 => ?_⟩
    obtain ⟨H7, e7⟩ : ∃ H7, upd H6 t7 (.tup [.int (-3), .int (-5), .int 4, .int 2]) = H7 := ⟨_, rfl⟩
    have s7 : Same H6 H7 := e7 ▸ same_new ht7
    have f7 : H7 t7 = some (.tup [.int (-3), .int (-5), .int 4, .int 2]) := e7 ▸ upd_same
    rw [e7]
    clear e7
    walk_at "lw go"
    refine ⟨by show 4 ≤ sizeLine; decide, fun t8 ht8 => ?_⟩
    obtain ⟨H8, e8⟩ : ∃ H8, upd H7 t8 (.tup [.int 999990, .int (-1000000), .int 1000000, .int (-999990)]) = H8 := ⟨_, rfl⟩
    have s8 : Same H7 H8 := e8 ▸ same_new ht8
    have f8 : H8 t8 = some (.tup [.int 999990, .int (-1000000), .int 1000000, .int (-999990)]) := e8 ▸ upd_same
    rw [e8]
    clear e8
    walk_at "lw go"
    refine ⟨by show 3 ≤ sizeLine; decide, fun l9 hl9 => ?_⟩
    obtain ⟨H9, e9⟩ : ∃ H9, upd H8 l9 (.lst [.ref t6, .ref t7, .ref t8]) = H9 := ⟨_, rfl⟩
    have s9 : Same H8 H9 := e9 ▸ same_new hl9
    have f9 : H9 l9 = some (.lst [.ref t6, .ref t7, .ref t8]) := e9 ▸ upd_same
    rw [e9]
    clear e9
    have f5 := s9 _ _ (s8 _ _ (s7 _ _ (s6 _ _ f5)))
    refine g_cat f5 f9 (by show 7 ≤ sizeLine; decide) fun l10 hl10 => ?_
    have A9 : AreasOk H9 ([.ref t1, .ref t2, .ref t3, .ref t4] ++ [.ref t6, .ref t7, .ref t8]) := (A4.mono (same_tup (((((s5.trans s6).trans s7).trans s8)).trans s9))).cat fun y hy => by
      simp only [List.mem_cons, List.not_mem_nil, or_false] at hy
      rcases hy with rfl | rfl | rfl
      · exact ⟨_, _, _, _, _, rfl, s9 _ _ (s8 _ _ (s7 _ _ f6)), by decide⟩
      · exact ⟨_, _, _, _, _, rfl, s9 _ _ (s8 _ _ f7), by decide⟩
      · exact ⟨_, _, _, _, _, rfl, s9 _ _ f8, by decide⟩
    have k49 : Keep p H H9 := k14.trans (Keep.of_same (((((s5.trans s6).trans s7).trans s8)).trans s9))
    have hp9 : H9 p = some o4 := s9 _ _ (s8 _ _ (s7 _ _ (s6 _ _ (s5 _ _ hp4))))
    obtain ⟨W, hW⟩ : ∃ W : List V, [.ref t1, .ref t2, .ref t3, .ref t4] ++ [.ref t6, .ref t7, .ref t8] = W := ⟨_, rfl⟩
    have lW : W.length = 7 := by rw [← hW]; rfl
    rw [hW] at A9
    rw [hW]
    obtain ⟨H10, e10⟩ : ∃ H10, upd H9 l10 (.lst W) = H10 := ⟨_, rfl⟩
    have s10 : Same H9 H10 := e10 ▸ same_new hl10
    have f10 : H10 l10 = some (.lst W) := e10 ▸ upd_same
    rw [e10]
    clear e10
    have hl10H : H l10 = none := none_keep k49 hp9 hl10
    have A10 := A9.mono (same_tup s10)
    have hp10 := s10 _ _ hp9
    have k10 : Keep p H H10 := k49.trans (Keep.of_same s10)
    clear f5 f6 f7 f8 f9 s5 s6 s7 s8 s9 s10 A4 A9 k14 k49 hW
    walk_at "lw go"
    refine ⟨p, 9, _, o4, rfl, hp10, hP4, by omega, by decide, by decide, fun lg o5 lg0 lg1 hP11 => ?_⟩
    obtain ⟨H11, e11⟩ : ∃ H11, upd H10 p o5 = H11 := ⟨_, rfl⟩
    have k11 : Keep p H10 H11 := e11 ▸ Keep.refl.put
    have hp11 : H11 p = some o5 := e11 ▸ upd_same
    have t11 : Tup H10 H11 := purse_tup k11 hp10 hP4
    rw [e11]
    clear e11
    have np : l10 ≠ p := (ne_of_none hp9 hl10).symm
    have f10 := k11 _ _ np f10
    have A11 := A10.mono t11
    obtain ⟨S, e1, e2, S0, S1, SS0, SS1⟩ := log_pow lg0 (show lg ≤ 8 by omega)
    walk_at "lw go"
    refine g_I ⟨lg0, by omega, by decide⟩ ?_
    rw [e1]
    walk_at "lw go"
    refine ⟨p, 9, _, o5, rfl, hp11, hP11, by omega, by decide, by decide, fun b o6 b0 b1 hP12 => ?_⟩
    obtain ⟨H12, e12⟩ : ∃ H12, upd H11 p o6 = H12 := ⟨_, rfl⟩
    have k12 : Keep p H11 H12 := e12 ▸ Keep.refl.put
    have hp12 : H12 p = some o6 := e12 ▸ upd_same
    have t12 : Tup H11 H12 := purse_tup k12 hp11 hP11
    rw [e12]
    clear e12
    have f10 := k12 _ _ np f10
    have A12 := A11.mono t12
    have k012 : Keep p H H12 := (k10.trans k11).trans k12
    obtain ⟨y, hy, y0, y1⟩ : ∃ y : Int, S * (b - 4) = y ∧ -1024 ≤ y ∧ y ≤ 1024 := by
      refine ⟨_, rfl, ?_⟩
      rcases (show b = 0 ∨ b = 1 ∨ b = 2 ∨ b = 3 ∨ b = 4 ∨ b = 5 ∨ b = 6 ∨ b = 7 ∨ b = 8 by omega) with rfl | rfl | rfl | rfl | rfl | rfl | rfl | rfl | rfl <;> omega
    walk_at "lw go"
    rw [hy]
    walk_at "lw go"
    refine ⟨tyL f10, ?_⟩
    walk_at "lw go"
    refine ⟨by show 4 ≤ sizeLine; decide, fun t13 ht13 => ?_⟩
    obtain ⟨H13, e13⟩ : ∃ H13, upd H12 t13 (.tup [.int y, .int y, .int (y + 8 * S - 1), .int (y + 8 * S - 1)]) = H13 := ⟨_, rfl⟩
    have s13 : Same H12 H13 := e13 ▸ same_new ht13
    have f13 : H13 t13 = some (.tup [.int y, .int y, .int (y + 8 * S - 1), .int (y + 8 * S - 1)]) := e13 ▸ upd_same
    rw [e13]
    clear e13
    have f10 := s13 _ _ f10
    walk_at "lw go"
    refine g_append f10 (small1000 (by omega)) ?_
    have tp := tup_putL (o := .lst (W ++ [V.ref t13])) f10
    obtain ⟨H14, e14⟩ : ∃ H14, upd H13 l10 (.lst (W ++ [V.ref t13])) = H14 := ⟨_, rfl⟩
    have f14 : H14 l10 = some (.lst (W ++ [V.ref t13])) := e14 ▸ upd_same
    have A14 : AreasOk H14 (W ++ [.ref t13]) := by
      rw [e14] at tp
      refine ((A12.mono (same_tup s13)).mono tp).cat fun y2 hy2 => ?_
      rw [List.mem_singleton.mp hy2]
      exact ⟨t13, _, _, _, _, rfl, tp _ _ f13, ⟨⟨by omega, by omega, by omega⟩, by omega, by omega, by omega⟩⟩
    have k14 : Keep p H H14 := e14 ▸ keep_put2 (k012.trans (Keep.of_same s13)) hl10H
    have hp14 : H14 p = some o6 := by rw [← e14, upd_ne np.symm]; exact s13 _ _ hp12
    rw [e14]
    clear e14
    clear tp A10 A11 A12 f10 f13 s13 k012 k11 k12 t11 t12
    walk_at "lw go"
    refine ⟨by show 4 ≤ sizeLine; decide, fun t15 ht15 => ?_⟩
    obtain ⟨H15, e15⟩ : ∃ H15, upd H14 t15 (.tup [.int (y - 1), .int 0, .int (y + 8 * S), .int (7 * S)]) = H15 := ⟨_, rfl⟩
    have s15 : Same H14 H15 := e15 ▸ same_new ht15
    have f15 : H15 t15 = some (.tup [.int (y - 1), .int 0, .int (y + 8 * S), .int (7 * S)]) := e15 ▸ upd_same
    rw [e15]
    clear e15
    walk_at "lw go"
    refine ⟨by show 1 ≤ sizeLine; decide, fun l16 hl16 => ?_⟩
    obtain ⟨H16, e16⟩ : ∃ H16, upd H15 l16 (.lst [.ref t15]) = H16 := ⟨_, rfl⟩
    have s16 : Same H15 H16 := e16 ▸ same_new hl16
    have f16 : H16 l16 = some (.lst [.ref t15]) := e16 ▸ upd_same
    rw [e16]
    clear e16
    have s46 := s15.trans s16
    refine g_cat (s46 _ _ f14) f16 (small_size (by simp only [List.length_append, List.length_cons, List.length_nil]; omega)) fun l17 hl17 => ?_
    have s17 := same_new (o := .lst ((W ++ [V.ref t13]) ++ [V.ref t15])) hl17
    have s47 := s46.trans s17
    refine q l17 _ _ o6 (k14.trans (Keep.of_same s47)) (s47 _ _ hp14) (hP12.mono (by omega)) upd_same ((A14.mono (same_tup s47)).cat fun y2 hy2 => ?_) (by simp only [List.length_append, List.length_cons, List.length_nil]; omega)
    rw [List.mem_singleton.mp hy2]
    exact ⟨t15, _, _, _, _, rfl, s17 _ _ (s16 _ _ f15), ⟨⟨by omega, by omega, by omega⟩, by omega, by omega, by omega⟩⟩
abbrev N_law_spots : List Str := ["_law_purse_here", "_law_area_here", "_law_left", "_law_low", "_law_right_here", "_law_high", "_law_found", "_law_k"]
theorem sc_law_spots : FnScope N_law_spots ["_law_purse_here", "_law_area_here"] (defScope s_law_spots) := ⟨rfl, rfl, rfl, by decide +kernel, rfl, by decide +kernel, by decide +kernel⟩
theorem ok_law_spots (F : FnP K "_law_spots" s_law_spots f fd) (T : Bi mg) (G : Kn K mg) (D_law_draw : Df P w K mg base "_law_draw" ["_law_purse_here", "_law_out_of"] 2 spDraw) : FnOk P w K mg base CX0 3 f fd ["_law_purse_here", "_law_area_here"] spSpots := by
  refine F.ok sc_law_spots (fun vs H Q E h => ?_) (fun cdv A outer s H vs Q E hr h => ⟨_, PSs.nox
(pss_cons (ps_asg (pv 1) (pg_tup (by rfl) (pgs_cons (pg_name (i := 2) sc_law_spots.nd rfl (Or.inl rfl)) (pgs_cons (pg_name (i := 3) sc_law_spots.nd rfl (Or.inl rfl)) (pgs_cons (pg_name (i := 4) sc_law_spots.nd rfl (Or.inl rfl)) (pgs_cons (pg_name (i := 5) sc_law_spots.nd rfl (Or.inl rfl)) pgs_nil))))))
  (pss_cons (ps_set (i := 6) sc_law_spots.nd rfl (Or.inl rfl) (pe_lst (pa_cons (pe_tup (pa_cons (pv 2) (pa_cons (pv 3) pa_nil))) (pa_cons (pe_tup (pa_cons (pv 4) (pa_cons (pv 5) pa_nil))) (pa_cons (pe_tup (pa_cons (pv 2) (pa_cons (pv 5) pa_nil))) pa_nil)))))
  (pss_cons (ps_for PassesOwn.never rfl (pi_range1 (by rfl) T.range (pa_cons pe_int pa_nil)) (pg_name (i := 7) sc_law_spots.nd rfl (Or.inl rfl))
  (pss_one (ps_expr (pe_bm PySem.F.plainAttrs_list PySem.F.slot_list_append PySem.F.type_list_append mt_append (pv 6) (pa_cons (pe_tup (pa_cons (pe_op op_add (pv 2) (pe_df D_law_draw (hr.mono (by first | decide | omega)) (pa_cons (pv 0) (pa_cons (pe_op op_add (pe_op op_sub (pv 4) (pv 2)) pe_int) pa_nil)))) (pa_cons (pe_op op_add (pv 3) (pe_df D_law_draw (hr.mono (by first | decide | omega)) (pa_cons (pv 0) (pa_cons (pe_op op_add (pe_op op_sub (pv 5) (pv 3)) pe_int) pa_nil)))) pa_nil))) pa_nil)))))
  (pss_one (ps_ret (pv 6)))))), ?_⟩)
  · obtain ⟨p, b, x0, z0, x1, z1, m, o, rfl, _⟩ := h
    rfl
  · obtain ⟨p, b, x0, z0, x1, z1, m, o, rfl, hp, hP, hm, hb, ob, q⟩ := h
    walk_at "lw i0"
    obtain ⟨⟨bx0, bx1, bx2⟩, bz0, bz1, bz2⟩ := ob
    walk_at "lw go"
    refine g_tupT (SqT.of hb) rfl ?_
    walk_at "lw go"
    refine ⟨by show 2 ≤ sizeLine; decide, fun t1 ht1 => ?_⟩
    obtain ⟨H1, e1⟩ : ∃ H1, upd H t1 (.tup [.int x0, .int z0]) = H1 := ⟨_, rfl⟩
    have s1 : Same H H1 := e1 ▸ same_new ht1
    have f1 : H1 t1 = some (.tup [.int x0, .int z0]) := e1 ▸ upd_same
    rw [e1]
    clear e1
    walk_at "lw go"
    refine ⟨by show 2 ≤ sizeLine; decide, fun t2 ht2 => ?_⟩
    obtain ⟨H2, e2⟩ : ∃ H2, upd H1 t2 (.tup [.int x1, .int z1]) = H2 := ⟨_, rfl⟩
    have s2 : Same H1 H2 := e2 ▸ same_new ht2
    have f2 : H2 t2 = some (.tup [.int x1, .int z1]) := e2 ▸ upd_same
    rw [e2]
    clear e2
    walk_at "lw go"
    refine ⟨by show 2 ≤ sizeLine; decide, fun t3 ht3 => ?_⟩
    obtain ⟨H3, e3⟩ : ∃ H3, upd H2 t3 (.tup [.int x0, .int z1]) = H3 := ⟨_, rfl⟩
    have s3 : Same H2 H3 := e3 ▸ same_new ht3
    have f3 : H3 t3 = some (.tup [.int x0, .int z1]) := e3 ▸ upd_same
    rw [e3]
    clear e3
    walk_at "lw go"
    have s13 := (s1.trans s2).trans s3
    refine ⟨by show 3 ≤ sizeLine; decide, fun l hl => ?_⟩
    have hlH : H l = none := none_of_same s13 hl
    have s4 := same_new (o := .lst [.ref t1, .ref t2, .ref t3]) hl
    have npl : p ≠ l := ne_of_none (s13 _ _ hp) hl
    walk_at "lw go"
    refine ⟨_, rfl, by decide, by decide, for_range (n := 4) (fun k σ H' => ∃ (o7 : Option V) (ws : List V) (o' : HO), σ = [some (.ref p), some (.ref b), some (.int x0), some (.int z0), some (.int x1), some (.int z1), some (.ref l), o7] ∧ Keep p H H' ∧ H' p = some o' ∧ Purse (m + 8 * k) o' ∧ H' l = some (.lst ws) ∧ ws.length = 3 + k ∧ PtsIn x0 z0 x1 z1 H' ws)
      ⟨_, [.ref t1, .ref t2, .ref t3], o, rfl, Keep.of_same (s13.trans s4), s4 _ _ (s13 _ _ hp), hP.mono (by omega), upd_same, rfl, fun y hy => ?_⟩ ?_ ?_⟩
    · simp only [List.mem_cons, List.not_mem_nil, or_false] at hy
      rcases hy with rfl | rfl | rfl
      · exact ⟨_, _, _, rfl, s4 _ _ (s3 _ _ (s2 _ _ f1)), ⟨by omega, by omega⟩, by omega, by omega⟩
      · exact ⟨_, _, _, rfl, s4 _ _ (s3 _ _ f2), ⟨by omega, by omega⟩, by omega, by omega⟩
      · exact ⟨_, _, _, rfl, s4 _ _ f3, ⟨by omega, by omega⟩, by omega, by omega⟩
    · clear s1 s2 s3 s4 f1 f2 f3 s13 hl
      rintro k σ H5 hk ⟨o7, ws, o', rfl, kp5, hp5, hP5, hl5, hlen, hin⟩
      walk_at "lw go"
      refine ⟨tyL hl5, ?_⟩
      walk_at "lw go"
      refine ⟨p, _, _, o', rfl, hp5, hP5, by omega, by omega, by omega, fun a o6 a0 a1 hP6 => ?_⟩
      obtain ⟨H6, e6⟩ : ∃ H6, upd H5 p o6 = H6 := ⟨_, rfl⟩
      have k6 : Keep p H5 H6 := e6 ▸ Keep.refl.put
      have hp6 : H6 p = some o6 := e6 ▸ upd_same
      have t6 : Tup H5 H6 := purse_tup k6 hp5 hP5
      rw [e6]
      clear e6
      walk_at "lw go"
      refine ⟨p, _, _, o6, rfl, hp6, hP6, by omega, by omega, by omega, fun c o7 c0 c1 hP7 => ?_⟩
      obtain ⟨H7, e7⟩ : ∃ H7, upd H6 p o7 = H7 := ⟨_, rfl⟩
      have k7 : Keep p H6 H7 := e7 ▸ Keep.refl.put
      have hp7 : H7 p = some o7 := e7 ▸ upd_same
      have t7 : Tup H6 H7 := purse_tup k7 hp6 hP6
      rw [e7]
      clear e7
      walk_at "lw go"
      refine ⟨by show 2 ≤ sizeLine; decide, fun t8 ht8 => ?_⟩
      obtain ⟨H8, e8⟩ : ∃ H8, upd H7 t8 (.tup [.int (x0 + a), .int (z0 + c)]) = H8 := ⟨_, rfl⟩
      have s8 : Same H7 H8 := e8 ▸ same_new ht8
      have f8 : H8 t8 = some (.tup [.int (x0 + a), .int (z0 + c)]) := e8 ▸ upd_same
      rw [e8]
      clear e8
      walk_at "lw go"
      have hl8 := s8 _ _ (k7 _ _ npl.symm (k6 _ _ npl.symm hl5))
      have tp := tup_putL (o := .lst (ws ++ [V.ref t8])) hl8
      refine g_append hl8 (small1000 (by omega)) ?_
      walk_at "lw go"
      refine ⟨_, ws ++ [.ref t8], _, rfl, keep_put2 (((kp5.trans k6).trans k7).trans (Keep.of_same s8)) hlH, by rw [upd_ne npl]; exact s8 _ _ hp7, hP7.mono (by omega), upd_same, by rw [List.length_append, hlen]; rfl, ?_⟩
      refine ((((hin.mono t6).mono t7).mono (same_tup s8)).mono tp).cat fun y hy => ?_
      rw [List.mem_singleton.mp hy]
      exact ⟨t8, _, _, rfl, tp _ _ f8, ⟨by omega, by omega⟩, by omega, by omega⟩
    · rintro σ H5 ⟨o7, ws, o', rfl, kp5, hp5, hP5, hl5, hlen, hin⟩
      walk_at "lw go"
      exact q l ws H5 o' kp5 hp5 (hP5.mono (by omega)) hl5 hin
abbrev N_law_all_points : List Str := ["_law_field_here", "_law_grain_here", "_law_area_here", "_law_left", "_law_low", "_law_right_here", "_law_high", "_law_found", "_law_x", "_law_z"]
theorem sc_law_all_points : FnScope N_law_all_points ["_law_field_here", "_law_grain_here", "_law_area_here"] (defScope s_law_all_points) := ⟨rfl, rfl, rfl, by decide +kernel, rfl, by decide +kernel, by decide +kernel⟩
theorem ok_law_all_points (F : FnP K "_law_all_points" s_law_all_points f fd) (T : Bi mg) (G : Kn K mg) (D_law_value : Df P w K mg base "_law_value" ["_law_field_here", "_law_grain_here", "_law_x", "_law_z", "_law_bound"] 63 (spValue 60)) : FnOk P w K mg base CX0 64 f fd ["_law_field_here", "_law_grain_here", "_law_area_here"] spAllP := by
  refine F.ok sc_law_all_points (fun vs H Q E h => ?_) (fun cdv A outer s H vs Q E hr h => ⟨_, PSs.nox
(pss_cons (ps_asg (pv 2) (pg_tup (by rfl) (pgs_cons (pg_name (i := 3) sc_law_all_points.nd rfl (Or.inl rfl)) (pgs_cons (pg_name (i := 4) sc_law_all_points.nd rfl (Or.inl rfl)) (pgs_cons (pg_name (i := 5) sc_law_all_points.nd rfl (Or.inl rfl)) (pgs_cons (pg_name (i := 6) sc_law_all_points.nd rfl (Or.inl rfl)) pgs_nil))))))
  (pss_cons (ps_set (i := 7) sc_law_all_points.nd rfl (Or.inl rfl) (pe_lst pa_nil))
  (pss_cons (ps_for PassesOwn.never rfl (pi_range2 (by rfl) T.range (pa_cons (pv 3) (pa_cons (pe_op op_add (pv 5) pe_int) pa_nil))) (pg_name (i := 8) sc_law_all_points.nd rfl (Or.inr rfl))
  (pss_one (ps_set (i := 7) sc_law_all_points.nd rfl (Or.inl rfl) (pe_op op_cat (pv 7) (pe_lc (own := [("_law_z", 9)]) (g := gName 9) (tt := tYes) rfl sc_law_all_points.nd (pi_range2 (by rfl) T.range (pa_cons (pv 4) (pa_cons (pe_op op_add (pv 6) pe_int) pa_nil))) (blkOk_by (N := N_law_all_points) (sc := defScope s_law_all_points) (by decide +kernel)) (fun _ _ _ _ _ => pg_name (i := 9) sc_law_all_points.nd rfl (Or.inl rfl)) (fun _ _ _ _ _ => pts_nil) (fun _ _ _ _ _ => (pe_df D_law_value (hr.mono (by first | decide | omega)) (pa_cons (pv 0) (pa_cons (pv 1) (pa_cons (pv 8) (pa_cons (pv 9) (pa_cons pe_dnewK pa_nil))))))))))))
  (pss_one (ps_ret (pe_tup (pa_cons (pe_callB (cr_min rfl) (by rfl) T.min (by decide +kernel) (pa_cons (pv 7) pa_nil)) (pa_cons (pe_callB (cr_max rfl) (by rfl) T.max (by decide +kernel) (pa_cons (pv 7) pa_nil)) pa_nil)))))))), ?_⟩)
  · obtain ⟨u, F, g, x0, z0, x1, z1, b, rfl, _⟩ := h
    rfl
  · obtain ⟨u, F, g, x0, z0, x1, z1, b, rfl, hF, hG, hb, ob, few, q⟩ := h
    walk_at "lw i0"
    obtain ⟨⟨bx0, bx1, bx2⟩, bz0, bz1, bz2⟩ := ob
    obtain ⟨nx, hnx⟩ : ∃ nx : Nat, (x1 + 1 - x0).toNat = nx := ⟨_, rfl⟩
    obtain ⟨nz, hnz⟩ : ∃ nz : Nat, (z1 + 1 - z0).toNat = nz := ⟨_, rfl⟩
    have cnt : nx * nz ≤ 64 := by
      have e : ((nx * nz : Nat) : Int) = (x1 - x0 + 1) * (z1 - z0 + 1) := by
        rw [Int.natCast_mul, show (nx : Int) = x1 - x0 + 1 by omega, show (nz : Int) = z1 - z0 + 1 by omega]
      omega
    have c1 : 1 ≤ nx := by omega
    have c2 : 1 ≤ nz := by omega
    have cz : nz ≤ 64 := Nat.le_trans (Nat.le_mul_of_pos_left _ c1) cnt
    walk_at "lw go"
    refine g_tupT (SqT.of hb) rfl ?_
    walk_at "lw go"
    refine ⟨by show 0 ≤ sizeLine; decide, fun l hl => ?_⟩
    walk_at "lw go"
    refine g_rng2 ?_
    walk_at "lw go"
    refine ⟨_, _, rfl, ⟨by omega, by omega, by omega, by omega⟩, ?_⟩
    rw [hnx]
    refine for_range (n := nx) (fun i σ H' => ∃ (o8 o9 : Option V) (l' : Addr), σ = [some u, some (.int g), some (.ref b), some (.int x0), some (.int z0), some (.int x1), some (.int z1), some (.ref l'), o8, o9] ∧ Same H H' ∧ H' l' = some (.lst ((rowsV (expand F []) g x0 z0 z1 i).map V.int)))
      ⟨none, none, l, rfl, same_new hl, upd_same⟩ ?_ ?_
    · rintro i σ H1 hi ⟨o8, o9, l', rfl, s1, f1⟩
      walk_at "lw go"
      refine g_rng2 ?_
      walk_at "lw go"
      refine ⟨_, _, rfl, ⟨by omega, by omega, by omega, by omega⟩, fun D hD => ?_⟩
      rw [hnz]
      have nlD : l' ≠ D := ne_of_none f1 hD
      have hDH : H D = none := none_of_same s1 hD
      have rl := rowsV_len (expand F []) g x0 z0 z1 i
      rw [hnz] at rl
      have rl2 : (i + 1) * nz ≤ nx * nz := Nat.mul_le_mul_right _ hi
      rw [Nat.succ_mul] at rl2
      refine lc_range (n := nz) (fun j H' => Same H H' ∧ H' l' = some (.lst ((rowsV (expand F []) g x0 z0 z1 i).map V.int)) ∧ H' D = some (.lst ((((List.range j).map fun (k : Nat) => z0 + k).map fun z => valE (expand F []) g (x0 + i) z).map V.int)))
        ⟨s1.trans (same_new hD), by rw [upd_ne nlD]; exact f1, upd_same⟩ ?_ ?_
      · rintro j H2 hj ⟨s2, f2, d2⟩
        walk_at "lw go"
        refine ⟨rfl, g_yes (iteT ?_)⟩
        walk_at "lw go"
        refine g_dnew fun d hd => ?_
        walk_at "lw go"
        have s3 := s2.trans (same_new (o := .dK []) hd)
        refine ⟨u, F, g, x0 + i, z0 + j, d, 0, 40, [], [], rfl, hF.mono (same_tup s3), ⟨upd_same, rfl, rfl⟩, hG.bnd, by have := hG.ud; omega, ok_expand F [] hG.ok okR_nil, by have := hG.vb; omega, by decide, small_pt (by omega) (by omega), small_pt (by omega) (by omega), by decide, fun H3 s4 => ?_⟩
        have s24 : Same H2 H3 := (same_new (o := .dK []) hd).trans s4
        refine ⟨_, s24 _ _ d2, by simp only [List.length_map, List.length_range]; exact small1000 (by omega), same_put (s2.trans s24) hDH, by rw [upd_ne nlD]; exact s24 _ _ f2, ?_⟩
        rw [upd_same, List.range_succ]
        simp
      · rintro H2 ⟨s2, f2, d2⟩
        refine g_cat f2 d2 (small_size (by simp only [List.length_map, List.length_range]; omega)) fun l3 hl3 => ?_
        walk_at "lw go"
        refine ⟨_, _, l3, rfl, s2.trans (same_new hl3), ?_⟩
        rw [upd_same, rowsV_succ]
        simp only [fromTo, hnz, List.map_append]
    · rintro σ H1 ⟨o8, o9, l', rfl, s1, f1⟩
      have eA : rowsV (expand F []) g x0 z0 z1 nx = allV (expand F []) g x0 z0 x1 z1 := by
        unfold rowsV allV
        rw [← hnx]
        rfl
      have ne : 0 < (rowsV (expand F []) g x0 z0 z1 nx).length := by
        have := Nat.mul_pos c1 c2
        rw [rowsV_len, hnz]
        omega
      walk_at "lw go"
      refine ⟨l', _, rfl, SqL.of f1, ne, fun m hm hm2 => ?_⟩
      walk_at "lw go"
      refine ⟨l', _, rfl, SqL.of f1, ne, fun m' hm' hm2' => ?_⟩
      walk_at "lw go"
      exact q.new (by rw [← eA]; exact (lMin_eq hm hm2).symm) (by rw [← eA]; exact (lMax_eq hm' hm2').symm) s1
abbrev N_law_right : List Str := ["_law_purse_here", "_law_field_here", "_law_grain_here", "_law_area_here", "_law_found", "_law_number_here", "_law_x_here", "_law_z_here", "_law_many"]
theorem sc_law_right : FnScope N_law_right ["_law_purse_here", "_law_field_here", "_law_grain_here", "_law_area_here"] (defScope s_law_right) := ⟨rfl, rfl, rfl, by decide +kernel, rfl, by decide +kernel, by decide +kernel⟩
theorem ok_law_right (F : FnP K "_law_right" s_law_right f fd) (T : Bi mg) (G : Kn K mg) (D_bounds_of : Df P w K mg base "bounds_of" ["rules", "seed", "box"] 63 spBnds) (D_law_spots : Df P w K mg base "_law_spots" ["_law_purse_here", "_law_area_here"] 3 spSpots) (D_law_range : Df P w K mg base "_law_range" ["_law_field_here", "_law_grain_here", "_law_area_here", "_law_bound"] 64 (spRange 60)) (D_law_all_points : Df P w K mg base "_law_all_points" ["_law_field_here", "_law_grain_here", "_law_area_here"] 64 spAllP) (D_value_at : Df P w K mg base "value_at" ["rules", "seed", "x", "z"] 63 spVal) (D_law_whole : Df P w K mg base "_law_whole" ["_law_found"] 1 spWhole) : FnOk P w K mg base CX0 65 f fd ["_law_purse_here", "_law_field_here", "_law_grain_here", "_law_area_here"] spRight := by
  refine F.ok sc_law_right (fun vs H Q E h => ?_) (fun cdv A outer s H vs Q E hr h => ⟨_, PSs.nox
(pss_cons (ps_set (i := 4) sc_law_right.nd rfl (Or.inl rfl) (pe_df D_bounds_of (hr.mono (by first | decide | omega)) (pa_cons (pv 1) (pa_cons (pv 2) (pa_cons (pv 3) pa_nil)))))
  (pss_cons (ps_if (PW.pt (pw_or (pt_not (pt_val (pe_callB call_isi (by rfl) T.isinstance (by decide +kernel) (pa_cons (pv 4) (pa_cons (pe_bltn (v := .ty "tuple") (by rfl) T.tuple boot_tuple rfl) pa_nil))))) (pw_or1 (pt_cmpR (op_neD hr.units) (pv 4) (pe_df D_law_range (hr.mono (by first | decide | omega)) (pa_cons (pv 1) (pa_cons (pv 2) (pa_cons (pv 3) (pa_cons pe_dnewK pa_nil))))) (nomark _)))))
  (pss_one (ps_ret pe_bl))
  pss_nil)
  (pss_cons (ps_if (pt_cmpR (op_neD hr.units) (pe_lc (own := [("_law_number_here", 5)]) (g := gName 5)  rfl sc_law_right.nd (pi_tup (pv 4)) (blkOk_by (N := N_law_right) (sc := defScope s_law_right) (by decide +kernel)) (fun _ _ _ _ _ => pg_name (i := 5) sc_law_right.nd rfl (Or.inl rfl)) (fun _ _ _ _ _ => (pts_one (pt_not (pt_val (pe_df D_law_whole (hr.mono (by first | decide | omega)) (pa_cons (pv 5) pa_nil)))))) (fun _ _ _ _ _ => (pv 5))) (pe_lst pa_nil) (nomark _))
  (pss_one (ps_ret pe_bl))
  pss_nil)
  (pss_cons (ps_for PassesOwn.never rfl (pi_list (pe_df D_law_spots (hr.mono (by first | decide | omega)) (pa_cons (pv 0) (pa_cons (pv 3) pa_nil)))) (pg_tup (by rfl) (pgs_cons (pg_name (i := 6) sc_law_right.nd rfl (Or.inl rfl)) (pgs_cons (pg_name (i := 7) sc_law_right.nd rfl (Or.inl rfl)) pgs_nil)))
  (pss_one (ps_if (pt_not (pt_chain op_le op_le (pe_ix ix_tup (pv 4) pe_int (fun _ _ => rfl)) (pe_df D_value_at (hr.mono (by first | decide | omega)) (pa_cons (pv 1) (pa_cons (pv 2) (pa_cons (pv 6) (pa_cons (pv 7) pa_nil))))) (pe_ix ix_tup (pv 4) pe_int (fun _ _ => rfl))))
  (pss_one (ps_ret pe_bl))
  pss_nil)))
  (pss_cons (ps_set (i := 8) sc_law_right.nd rfl (Or.inl rfl) (pe_op op_mul (pe_op op_add (pe_op op_sub (pe_ix ix_tup (pv 3) pe_int (fun _ _ => rfl)) (pe_ix ix_tup (pv 3) pe_int (fun _ _ => rfl))) pe_int) (pe_op op_add (pe_op op_sub (pe_ix ix_tup (pv 3) pe_int (fun _ _ => rfl)) (pe_ix ix_tup (pv 3) pe_int (fun _ _ => rfl))) pe_int)))
  (pss_cons (ps_if (PW.pt (pw_and (pt_cmpR op_lt (pv 8) pe_int (nomark _)) (pw_and (pt_cmpR op_eq (pe_ix ix_tup (pv 1) pe_int (fun _ _ => rfl)) pe_str (nomark _)) (pw_and1 (pt_cmpR (op_neD hr.units) (pv 4) (pe_df D_law_all_points (hr.mono (by first | decide | omega)) (pa_cons (pv 1) (pa_cons (pv 2) (pa_cons (pv 3) pa_nil)))) (nomark _))))))
  (pss_one (ps_ret pe_bl))
  pss_nil)
  (pss_one (ps_ret (pe_or (pe_cmpR op_gt (pv 8) pe_int (nomark _)) (pe_one (pe_cmpR (op_eqD hr.units) (pv 4) (pe_op op_repT (pe_tup (pa_cons (pe_df D_value_at (hr.mono (by first | decide | omega)) (pa_cons (pv 1) (pa_cons (pv 2) (pa_cons (pe_ix ix_tup (pv 3) pe_int (fun _ _ => rfl)) (pa_cons (pe_ix ix_tup (pv 3) pe_int (fun _ _ => rfl)) pa_nil))))) pa_nil)) pe_int) (nomark _)))))))))))), ?_⟩)
  · obtain ⟨p, u, F, g, x0, z0, x1, z1, m, b, o, rfl, _⟩ := h
    rfl
  · obtain ⟨p, u, F, g, x0, z0, x1, z1, m, b, o, rfl, hp, hP, hm, hF, hG, hb, ob, q⟩ := h
    walk_at "lw i0"
    have okE : OkE (expand F []) := ok_expand F [] hG.ok okR_nil
    obtain ⟨⟨bx0, bx1, bx2⟩, bz0, bz1, bz2⟩ := id ob
    obtain ⟨ab, hab⟩ : ∃ ab, rangeG (exactN g) (expand F []) x0 z0 x1 z1 = ab := ⟨_, rfl⟩
    have shp := shaped_pair ab
    have p40 : (2 : Nat) ^ 40 = 1099511627776 := by decide
    walk_at "lw go"
    refine ⟨u, F, g, x0, z0, x1, z1, b, rfl, hF, hG, hb, ob, fun t H1 s1 ht => ?_⟩
    rw [hab] at ht
    walk_at "lw go"
    refine ⟨_, _, _, _, true, rfl, .ty "tuple", .base (.tup ht), kit_ty (by decide +kernel), ?_⟩
    walk_at "lw go"
    refine g_dnew fun d hd => ?_
    have s2 : Same H1 _ := same_new (o := .dK []) hd
    walk_at "lw go"
    refine ⟨u, F, g, x0, z0, x1, z1, b, d, 0, 40, [], [], rfl, hF.mono (same_tup (s1.trans s2)), s2 _ _ (s1 _ _ hb), ⟨upd_same, rfl, rfl⟩, hG.bnd, by have := hG.ud; omega, okE, by have := hG.vb; omega, by decide, ⟨by show Int.natAbs x0 < _; omega, by show Int.natAbs x1 < _; omega⟩, ⟨by show Int.natAbs z0 < _; omega, by show Int.natAbs z1 < _; omega⟩, ⟨bx1, bz1, by omega, by omega, by omega, by omega⟩, by decide, fun t2 H2 s3 ht2 => ?_⟩
    rw [hab] at ht2
    have s12 : Same H1 H2 := s2.trans s3
    have s02 : Same H H2 := s1.trans s12
    walk_at "lw go"
    refine ne_same shp (dp_pair (s12 _ _ ht)) (dp_pair ht2) ?_
    walk_at "lw go"
    refine ⟨t, rfl, ⟨_, SqT.of (s12 _ _ ht)⟩, fun D hD => ?_⟩
    have hDH : H D = none := none_of_same s02 hD
    refine lc_tup (xs := [.int ab.1, .int ab.2]) (fun k H' => Same H2 H' ∧ H' D = some (.lst [])) ⟨same_new hD, upd_same⟩ (fun k H' _ ⟨s, _⟩ => SqT.of (s _ _ (s12 _ _ ht))) ?_ ?_
    · rintro k y H' hk ⟨s, hD'⟩
      obtain ⟨n, rfl⟩ : ∃ n : Int, y = .int n := by
        match k, hk with
        | 0, hk => cases Option.some.inj hk; exact ⟨_, rfl⟩
        | 1, hk => cases Option.some.inj hk; exact ⟨_, rfl⟩
        | k + 2, hk => cases hk
      walk_at "lw go"
      refine ⟨rfl, ?_⟩
      walk_at "lw go"
      refine ⟨n, rfl, ?_⟩
      walk_at "lw go"
      exact ⟨s, hD'⟩
    rintro H3 ⟨s4, hD3⟩
    have s03 := s02.trans s4
    walk_at "lw go"
    refine ⟨by show 0 ≤ sizeLine; decide, fun e he => ?_⟩
    have s5 := same_new (o := .lst []) he
    refine ne_same (d := .list []) (by decide +kernel) (.lst (SqL.of (s5 _ _ hD3)) .nil) (.lst (SqL.of upd_same) .nil) ?_
    have s05 := s03.trans s5
    have s15 := (s12.trans s4).trans s5
    obtain ⟨H4, e4⟩ : ∃ H4, upd H3 e (.lst []) = H4 := ⟨_, rfl⟩
    rw [e4] at s05 s15
    rw [e4]
    clear e4 s5 hD3 s03 hDH hD s3 s2 hd
    walk_at "lw go"
    refine ⟨p, b, x0, z0, x1, z1, m, o, rfl, s05 _ _ hp, hP, by omega, s05 _ _ hb, ob, fun l ws H5 o5 k5 hp5 hP5 hl5 hin => ?_⟩
    have t5 := purse_tup k5 (s05 _ _ hp) hP
    have ht5 := t5 _ _ (s15 _ _ ht)
    have hF5 := (hF.mono (same_tup s05)).mono t5
    have hb5 := t5 _ _ (s05 _ _ hb)
    have k05 : Keep p H H5 := (Keep.of_same s05).trans k5
    walk_at "lw go"
    refine ⟨l, rfl, ⟨_, SqL.of hl5⟩, for_list (xs := ws) (fun _ σ H' => ∃ (o5 o6 o7 o8 : Option V), σ = [some (.ref p), some u, some (.int g), some (.ref b), some (.ref t), o5, o6, o7, o8] ∧ Same H5 H')
      ⟨_, _, _, _, rfl, Same.refl _⟩ (fun _ σ H' _ ⟨_, _, _, _, _, s⟩ => SqL.of (s _ _ hl5)) ?_ ?_⟩
    · rintro j y σ H6 hj ⟨o5, o6, o7, o8, rfl, s6⟩
      obtain ⟨tt, x, z, rfl, htt, hx, hz⟩ := hin y (List.mem_of_getElem? hj)
      have hv := Rm.val_in (exact_holds g) (expand F []) x0 z0 x1 z1 x z okE hx.1 hx.2 hz.1 hz.2
      rw [hab] at hv
      walk_at "lw go"
      refine g_tupT (SqT.of (s6 _ _ htt)) rfl ?_
      walk_at "lw go"
      refine g_ixT (SqT.of (s6 _ _ ht5)) (v := .int ab.1) (atI_nat (j := 0) (by rfl)) ?_
      walk_at "lw go"
      refine ⟨u, F, g, x, z, rfl, hF5.mono (same_tup s6), hG, by omega, by omega, by omega, by omega, fun H7 s7 => ?_⟩
      walk_at "lw go"
      rw [decide_eq_true hv.1]
      walk_at "lw go"
      refine g_ixT (SqT.of (s7 _ _ (s6 _ _ ht5))) (v := .int ab.2) (atI_nat (j := 1) (by rfl)) ?_
      walk_at "lw go"
      rw [decide_eq_true hv.2]
      walk_at "lw go"
      exact ⟨_, _, _, _, rfl, s6.trans s7⟩
    · rintro σ H6 ⟨o5, o6, o7, o8, rfl, s6⟩
      have s56 := s6
      have hb6 := s6 _ _ hb5
      have ht6 := s6 _ _ ht5
      have hF6 := hF5.mono (same_tup s6)
      have k06 : Keep p H H6 := k05.trans (Keep.of_same s6)
      have hp6 := s6 _ _ hp5
      obtain ⟨MN, hMN⟩ : ∃ MN : Int, (x1 - x0 + 1) * (z1 - z0 + 1) = MN := ⟨_, rfl⟩
      walk_at "lw go"
      refine g_ixT (SqT.of hb6) (v := .int x1) (atI_nat (j := 2) (by rfl)) ?_
      walk_at "lw go"
      refine g_ixT (SqT.of hb6) (v := .int x0) (atI_nat (j := 0) (by rfl)) ?_
      walk_at "lw go"
      refine g_ixT (SqT.of hb6) (v := .int z1) (atI_nat (j := 3) (by rfl)) ?_
      walk_at "lw go"
      refine g_ixT (SqT.of hb6) (v := .int z0) (atI_nat (j := 1) (by rfl)) ?_
      walk_at "lw go"
      rw [hMN]
      walk_at "lw go"
      refine g_ite (fun h1 => ?g1) (fun h1 => ?g2)
      case' g1 =>
        walk_at "lw go"
        obtain ⟨pu, xs, eu, hpu⟩ := frep_word hF6
        rw [eu]
        refine g_ixT (SqT.of hpu) (v := .str (wordF F)) (atI_nat (j := 0) (by rfl)) ?_
        rw [← eu]
        walk_at "lw go"
        refine g_ite (fun h2 => ?g3) (fun h2 => ?g4)
      case' g3 =>
        obtain ⟨s0, l0, rfl⟩ : ∃ s0 l0, F = .noise s0 l0 := by
          cases F with
          | noise s0 l0 => exact ⟨s0, l0, rfl⟩
          | two c _ _ =>
            have h3 : c.word = "noise" := by injection h2
            have := word_ne (s := "noise") (by decide +kernel) c
            rw [decide_eq_true h3] at this
            cases this
          | _ => exact absurd h2 (by simp only [wordF]; decide +kernel)
        walk_at "lw go"
        refine ⟨u, .noise s0 l0, g, x0, z0, x1, z1, b, rfl, hF6, hG, hb6, ob, by omega, fun t7 H7 s7 ht7 => ?_⟩
        have eq7 := allV_exact (g := g) (s := s0) (l := l0) bx1 bz1 (by omega)
        have eq8 : exactN g s0 l0 x0 z0 x1 z1 = ab := hab
        rw [show expand (.noise s0 l0) [] = .noise s0 l0 from rfl, ← eq7, eq8] at ht7
        walk_at "lw go"
        refine ne_same shp (dp_pair (s7 _ _ ht6)) (dp_pair ht7) ?_
      case' g4 => have s7 := Same.refl H6
      case' g2 => have s7 := Same.refl H6
      all_goals
        walk_at "lw go"
        refine g_ite (fun hm1 => ?_) (fun hm1 => ?_)
        · exact q _ _ (k06.trans (Keep.of_same s7)) (s7 _ _ hp6) hP5
        · have ax : 1 ≤ x1 - x0 + 1 := by omega
          have az : 1 ≤ z1 - z0 + 1 := by omega
          have a1 := Int.mul_le_mul ax az (by decide) (by omega)
          obtain ⟨ex, ez⟩ := one_one ax az (by omega)
          obtain rfl : x0 = x1 := by omega
          obtain rfl : z0 = z1 := by omega
          rw [range_point] at hab
          walk_at "lw go"
          refine g_ixT (SqT.of (s7 _ _ hb6)) (v := .int x0) (atI_nat (j := 0) (by rfl)) ?_
          walk_at "lw go"
          refine g_ixT (SqT.of (s7 _ _ hb6)) (v := .int z0) (atI_nat (j := 1) (by rfl)) ?_
          walk_at "lw go"
          refine ⟨u, _, g, x0, z0, rfl, hF6.mono (same_tup s7), hG, by omega, by omega, by omega, by omega, fun H8 s8 => ?_⟩
          walk_at "lw go"
          refine ⟨by show 1 ≤ sizeLine; decide, fun t9 ht9 => ?_⟩
          have s9 := fun o => same_new (o := o) ht9
          walk_at "lw go"
          refine ⟨t9, 2, _, rfl, rfl, SqT.of upd_same, by simp, by decide, by decide, by simp, fun t10 ht10 => ?_⟩
          have s10 := fun o => same_new (o := o) ht10
          refine eq_same shp (dp_pair (s10 _ _ _ (s9 _ _ _ (s8 _ _ (s7 _ _ ht6))))) (dp_pair (by rw [← hab]; exact upd_same)) ?_
          exact q _ _ (k06.trans (Keep.of_same (((s7.trans s8).trans (s9 _)).trans (s10 _)))) (s10 _ _ _ (s9 _ _ _ (s8 _ _ (s7 _ _ hp6)))) hP5
abbrev N_law : List Str := ["_law_script", "_law_cell", "_law_purse_here", "_law_field_here", "_law_grain_here", "_law_stayed", "_law_area_here", "_law_far", "_law_bad"]
theorem sc_law : FnScope N_law ["_law_script"] (defScope s_law) := ⟨rfl, rfl, rfl, by decide +kernel, rfl, by decide +kernel, by decide +kernel⟩
theorem ok_law (F : FnP K "law" s_law f fd) (T : Bi mg) (G : Kn K mg) (D_law_purse : Df P w K mg base "_law_purse" ["_law_script", "_law_at_here"] 2 (spPurse K)) (D_law_rules : Df P w K mg base "_law_rules" ["_law_purse_here"] 107 spRules) (D_law_draw : Df P w K mg base "_law_draw" ["_law_purse_here", "_law_out_of"] 2 spDraw)
    (D_law_grain : Df P w K mg base "_law_grain" ["_law_purse_here"] 3 (spNum 0 1000000000)) (D_law_areas : Df P w K mg base "_law_areas" ["_law_purse_here"] 5 spAreas) (D_law_right : Df P w K mg base "_law_right" ["_law_purse_here", "_law_field_here", "_law_grain_here", "_law_area_here"] 65 spRight)
    (D_law_caught : Df P w K mg base "_law_caught" ["_law_field_here", "_law_grain_here", "_law_area_here"] 64 (spCaught K)) :
    Gd.FnG P w K mg base CX0 110 f fd ["_law_script"] (spLaw K) := by
  refine Gd.okG (k := 109) F sc_law (fun vs H Q E h => ?_) (fun cdv A outer s H vs Q E gs hr h => ⟨_, PSs.nox
(pss_cons (ps_for PassesOwn.never rfl (pi_range1 (by rfl) T.range (pa_cons pe_int pa_nil)) (pg_name (i := 1) sc_law.nd rfl (Or.inl rfl))
  (pss_cons (ps_set (i := 2) sc_law.nd rfl (Or.inl rfl) (pe_df D_law_purse (hr.mono (by first | decide | omega)) (pa_cons (pv 0) (pa_cons (pv 1) pa_nil))))
  (pss_cons (ps_set (i := 3) sc_law.nd rfl (Or.inl rfl) (pe_df D_law_rules (hr.mono (by first | decide | omega)) (pa_cons (pv 2) pa_nil)))
  (pss_cons (ps_if (pt_cmpR op_eq (pe_op op_mod (pv 1) pe_int) pe_int (nomark _))
  (pss_one (ps_set (i := 3) sc_law.nd rfl (Or.inl rfl) (pe_tup (pa_cons pe_str (pa_cons (pe_df D_law_draw (hr.mono (by first | decide | omega)) (pa_cons (pv 2) (pa_cons (pe_op op_pow pe_int pe_int) pa_nil))) (pa_cons (pe_df D_law_draw (hr.mono (by first | decide | omega)) (pa_cons (pv 2) (pa_cons pe_int pa_nil))) pa_nil))))))
  pss_nil)
  (pss_cons (ps_set (i := 4) sc_law.nd rfl (Or.inl rfl) (pe_df D_law_grain (hr.mono (by first | decide | omega)) (pa_cons (pv 2) pa_nil)))
  (pss_cons (ps_set (i := 5) sc_law.nd rfl (Or.inl rfl) (pe_callB (Gd.call_reprD gs (r100 hr)) (by rfl) T.repr (by decide +kernel) (pa_cons (pv 3) pa_nil)))
  (pss_cons (ps_for PassesOwn.never rfl (pi_list (pe_df D_law_areas (hr.mono (by first | decide | omega)) (pa_cons (pv 2) pa_nil))) (pg_name (i := 6) sc_law.nd rfl (Or.inl rfl))
  (pss_one (ps_if (pt_not (pt_val (pe_df D_law_right (hr.mono (by first | decide | omega)) (pa_cons (pv 2) (pa_cons (pv 3) (pa_cons (pv 4) (pa_cons (pv 6) pa_nil)))))))
  (pss_one (ps_ret pe_bl))
  pss_nil)))
  (pss_cons (ps_set (i := 7) sc_law.nd rfl (Or.inl rfl) (pe_op op_add pe_int (pe_df D_law_draw (hr.mono (by first | decide | omega)) (pa_cons (pv 2) (pa_cons (pe_op op_pow pe_int pe_int) pa_nil)))))
  (pss_cons (ps_set (i := 8) sc_law.nd rfl (Or.inl rfl) (pe_lst (pa_cons (pe_tup (pa_cons pe_int (pa_cons pe_int (pa_cons pe_int (pa_cons pe_int pa_nil))))) (pa_cons (pe_tup (pa_cons pe_int (pa_cons pe_int (pa_cons pe_int (pa_cons pe_int pa_nil))))) (pa_cons (pe_tup (pa_cons pe_int (pa_cons pe_int (pa_cons (pv 7) (pa_cons pe_int pa_nil))))) (pa_cons (pe_tup (pa_cons pe_int (pa_cons pe_int (pa_cons pe_int (pa_cons (pv 7) pa_nil))))) (pa_cons (pe_tup (pa_cons (pe_op op_sub pe_int (pv 7)) (pa_cons pe_int (pa_cons pe_int (pa_cons pe_int pa_nil))))) (pa_cons (pe_tup (pa_cons pe_int (pa_cons (pe_op op_sub pe_int (pv 7)) (pa_cons pe_int (pa_cons pe_int pa_nil))))) pa_nil))))))))
  (pss_one (ps_for PassesOwn.never rfl (pi_list (pe_op op_cat (pv 8) (pe_lst (pa_cons (pe_tup (pa_cons (pv 7) (pa_cons (pv 7) (pa_cons (pv 7) (pa_cons (pv 7) pa_nil))))) (pa_cons (pe_tup (pa_cons pe_int (pa_cons pe_int (pa_cons pe_int (pa_cons pe_int pa_nil))))) pa_nil))))) (pg_name (i := 6) sc_law.nd rfl (Or.inl rfl))
  (pss_one (ps_if (PW.pt (pw_or (pt_cmpR (op_neD hr.units) (pe_df D_law_caught (hr.mono (by first | decide | omega)) (pa_cons (pv 3) (pa_cons (pv 4) (pa_cons (pv 6) pa_nil)))) (pe_lst (pa_cons pe_int pa_nil)) (nomark _)) (pw_or1 (pt_cmpR op_ne (pe_callB (Gd.call_reprD gs (r100 hr)) (by rfl) T.repr (by decide +kernel) (pa_cons (pv 3) pa_nil)) (pv 5) (nomark _)))))
  (pss_one (ps_ret pe_bl))
  pss_nil)))))))))))))
  (pss_one (ps_ret pe_bl))), ?_⟩)
  · obtain ⟨a, ns, rfl, _⟩ := h
    rfl
  · obtain ⟨a, ns, rfl, hS, q⟩ := h
    walk_at "lw i0"
    walk_at "lw go"
    refine ⟨_, rfl, by decide, by decide, for_range (n := 8) (fun i σ H' => ∃ v1 v2 v3 v4 v5 v6 v7 v8 : Option V, σ = [some (.ref a), v1, v2, v3, v4, v5, v6, v7, v8] ∧ SqL K H' a (ns.map V.int))
      ⟨none, none, none, none, none, none, none, none, rfl, hS⟩ ?_ ?_⟩
    · rintro i σ H1 hi ⟨v1, v2, v3, v4, v5, v6, v7, v8, rfl, hS1⟩
      walk_at "lw go"
      refine ⟨a, ns, _, rfl, hS1, by omega, by omega, fun p o hpn hP => ?_⟩
      have k0 : Keep p H1 (upd H1 p o) := Keep.refl.put
      have hp : (upd H1 p o) p = some o := upd_same
      obtain ⟨H2, e2⟩ : ∃ H2, upd H1 p o = H2 := ⟨_, rfl⟩
      rw [e2] at hp k0
      rw [e2]
      clear e2
      walk_at "lw go"
      refine ⟨p, _, o, rfl, hp, hP, by decide, fun u F H4 o4 hF4 hD k4 hp4 hP4 => ?_⟩
      have hT := tst_drawn hD
      have k04 := k0.trans k4
      have hP4 := hP4.mono (show _ ≤ (200000 : Int) by decide)
      obtain ⟨pu, xs, rfl, _⟩ := frep_ref hF4
      clear hD k4 k0 hp hP
      walk_at "lw go"
      refine g_ite (fun hc => ?g1) (fun hc => ?g2)
      case' g1 =>
        walk_at "lw go"
        refine ⟨p, _, _, _, rfl, hp4, hP4, by omega, by decide +kernel, by decide +kernel, fun s0 o6 s00 s01 hP6 => ?_⟩
        obtain ⟨H6, e6⟩ : ∃ H6, upd H4 p o6 = H6 := ⟨_, rfl⟩
        have k6 : Keep p H4 H6 := e6 ▸ Keep.refl.put
        have hp6 : H6 p = some o6 := e6 ▸ upd_same
        have t6 : Tup H4 H6 := purse_tup k6 hp4 hP4
        rw [e6]
        clear e6
        walk_at "lw go"
        refine ⟨p, 9, _, _, rfl, hp6, hP6, by omega, by decide, by decide, fun l0 o7 l00 l01 hP7 => ?_⟩
        obtain ⟨H7, e7⟩ : ∃ H7, upd H6 p o7 = H7 := ⟨_, rfl⟩
        have k7 : Keep p H6 H7 := e7 ▸ Keep.refl.put
        have hp7 : H7 p = some o7 := e7 ▸ upd_same
        have t7 : Tup H6 H7 := purse_tup k7 hp6 hP6
        rw [e7]
        clear e7
        walk_at "lw go"
        refine ⟨by show 3 ≤ sizeLine; decide, fun pu hpu => ?_⟩
        obtain ⟨H4, e4⟩ : ∃ H4, upd H7 pu (.tup [.str "noise", .int s0, .int l0]) = H4 := ⟨_, rfl⟩
        have s4 : Same H7 H4 := e4 ▸ same_new hpu
        have f4 : H4 pu = some (.tup [.str "noise", .int s0, .int l0]) := e4 ▸ upd_same
        rw [e4]
        clear e4
        have hF4 : FRep (.noise s0 l0) H4 (.ref pu) := ⟨pu, rfl, f4⟩
        have s9 : s0 ≤ 1000000000 := by
          have z : (10 : Int) ^ Int.toNat 9 = 1000000000 := by decide +kernel
          omega
        have hT := tst_noise s00 s9 l00 (show l0 ≤ 8 by omega)
        obtain ⟨F, eF⟩ : ∃ F, Fd.noise s0 l0 = F := ⟨_, rfl⟩
        rw [eF] at hF4 hT
        have k04 := ((k04.trans k6).trans k7).trans (Keep.of_same s4)
        have hp4 := s4 _ _ hp7
        have hP4 := hP7.mono (show _ ≤ (200100 : Int) by decide)
      case' g2 => have hP4 := hP4.mono (show _ ≤ (200100 : Int) by decide)
      all_goals
        have hG := hT.good
        walk_at "lw go"
        refine ⟨p, _, _, rfl, hp4, hP4, by decide, fun g o9 H9 g0 g1 k9 hp9 hP9 => ?_⟩
        have hF9 := hF4.mono (purse_tup k9 hp4 hP4)
        have k09 := k04.trans k9
        walk_at "lw go"
        have show1 : (dataF F).depth ≤ 60 ∧ (dataF F).shown.length ≤ sizeLine := by
          have e1 := depth_field F
          have e2 := hG.dep
          have e3 := len_field F hG.ok
          have e4 := hT.nodes
          rw [sizeLine_eq]
          omega
        refine ⟨pu, dataF F, rfl, dp_field F _ hF9, show_field F hG.ok, nod_field F, show1.1, show1.2, ?_⟩
        walk_at "lw go"
        refine ⟨p, _, _, rfl, hp9, hP9, by decide, fun l ws H10 o10 k10 hp10 hP10 hl10 hA10 hws => ?_⟩
        have hF10 := hF9.mono (purse_tup k10 hp9 hP9)
        have k010 := k09.trans k10
        have npl : l ≠ p := fun e => by
          subst e
          obtain ⟨x1, x2, x3, eo, _⟩ := hP10.ex
          rw [hp10, eo] at hl10
          have e2 := HO.lst.inj (Option.some.inj hl10)
          obtain ⟨_, _, _, _, _, e3, _⟩ := hA10 (.int x1) (by rw [← e2]; exact List.mem_cons_self)
          cases e3
        walk_at "lw go"
        refine ⟨l, rfl, ⟨_, SqL.of hl10⟩, for_list (xs := ws) (fun j σ H' => ∃ (o6 o7 o8 : Option V) (o' : HO), σ = [some (.ref a), some (.int (0 + i)), some (.ref p), some (.ref pu), some (.int g), some (.str (dataF F).shown), o6, o7, o8] ∧ Keep p H10 H' ∧ H' p = some o' ∧ Purse (200412 + 40 * j) o')
          ⟨_, _, _, o10, rfl, Keep.refl, hp10, hP10.mono (by omega)⟩ (fun _ σ H' _ ⟨_, _, _, _, _, k, _⟩ => SqL.of (k _ _ npl hl10)) ?_ ?_⟩
        · rintro j y σ H11 hj ⟨o6, o7, o8, o', rfl, k11, hp11, hP11⟩
          have hj9 : j < ws.length := (List.getElem?_eq_some_iff.mp hj).1
          obtain ⟨tt, x0, z0, x1, z1, rfl, htt, ob⟩ := hA10 y (List.mem_of_getElem? hj)
          have t11 := purse_tup k11 hp10 hP10
          walk_at "lw go"
          refine ⟨p, .ref pu, F, g, x0, z0, x1, z1, _, tt, _, rfl, hp11, hP11, by omega, hF10.mono t11, hG, t11 _ _ htt, ob, fun H12 o12 k12 hp12 hP12 => ?_⟩
          walk_at "lw go"
          exact ⟨_, _, _, _, rfl, k11.trans k12, hp12, hP12.mono (by omega)⟩
        · rintro σ H11 ⟨o6, o7, o8, o', rfl, k11, hp11, hP11⟩
          have hF11 := hF10.mono (purse_tup k11 hp10 hP10)
          have k011 := k010.trans k11
          walk_at "lw go"
          refine ⟨p, _, _, _, rfl, hp11, hP11, by omega, by decide +kernel, by decide +kernel, fun b o12 b0 b1 hP12 => ?_⟩
          obtain ⟨H12, e12⟩ : ∃ H12, upd H11 p o12 = H12 := ⟨_, rfl⟩
          have k12 : Keep p H11 H12 := e12 ▸ Keep.refl.put
          have hp12 : H12 p = some o12 := e12 ▸ upd_same
          have t12 : Tup H11 H12 := purse_tup k12 hp11 hP11
          rw [e12]
          clear e12
          have hF12 := hF11.mono t12
          have k012 := k011.trans k12
          clear hF4 hF9 hF10 hF11 k04 k09 k010 k011 k9 k10 k11 k12 hA10 hl10
          walk_at "lw go"
          refine ⟨by show 4 ≤ sizeLine; decide, fun t13 ht13 => ?_⟩
          obtain ⟨H13, e13⟩ : ∃ H13, upd H12 t13 (.tup [.int 1, .int 0, .int 0, .int 0]) = H13 := ⟨_, rfl⟩
          have s13 : Same H12 H13 := e13 ▸ same_new ht13
          have f13 : H13 t13 = some (.tup [.int 1, .int 0, .int 0, .int 0]) := e13 ▸ upd_same
          rw [e13]
          clear e13
          walk_at "lw go"
          refine ⟨by show 4 ≤ sizeLine; decide, fun t14 ht14 => ?_⟩
          obtain ⟨H14, e14⟩ : ∃ H14, upd H13 t14 (.tup [.int 0, .int 1, .int 0, .int 0]) = H14 := ⟨_, rfl⟩
          have s14 : Same H13 H14 := e14 ▸ same_new ht14
          have f14 : H14 t14 = some (.tup [.int 0, .int 1, .int 0, .int 0]) := e14 ▸ upd_same
          rw [e14]
          clear e14
          walk_at "lw go"
          refine ⟨by show 4 ≤ sizeLine; decide, fun t15 ht15 => ?_⟩
          obtain ⟨H15, e15⟩ : ∃ H15, upd H14 t15 (.tup [.int 0, .int 0, .int (1000001 + b), .int 0]) = H15 := ⟨_, rfl⟩
          have s15 : Same H14 H15 := e15 ▸ same_new ht15
          have f15 : H15 t15 = some (.tup [.int 0, .int 0, .int (1000001 + b), .int 0]) := e15 ▸ upd_same
          rw [e15]
          clear e15
          walk_at "lw go"
          refine ⟨by show 4 ≤ sizeLine; decide, fun t16 ht16 => ?_⟩
          obtain ⟨H16, e16⟩ : ∃ H16, upd H15 t16 (.tup [.int 0, .int 0, .int 0, .int (1000001 + b)]) = H16 := ⟨_, rfl⟩
          have s16 : Same H15 H16 := e16 ▸ same_new ht16
          have f16 : H16 t16 = some (.tup [.int 0, .int 0, .int 0, .int (1000001 + b)]) := e16 ▸ upd_same
          rw [e16]
          clear e16
          walk_at "lw go"
          refine ⟨by show 4 ≤ sizeLine; decide, fun t17 ht17 => ?_⟩
          obtain ⟨H17, e17⟩ : ∃ H17, upd H16 t17 (.tup [.int (0 - (1000001 + b)), .int 0, .int 0, .int 0]) = H17 := ⟨_, rfl⟩
          have s17 : Same H16 H17 := e17 ▸ same_new ht17
          have f17 : H17 t17 = some (.tup [.int (0 - (1000001 + b)), .int 0, .int 0, .int 0]) := e17 ▸ upd_same
          rw [e17]
          clear e17
          walk_at "lw go"
          refine ⟨by show 4 ≤ sizeLine; decide, fun t18 ht18 => ?_⟩
          obtain ⟨H18, e18⟩ : ∃ H18, upd H17 t18 (.tup [.int 0, .int (0 - (1000001 + b)), .int 0, .int 0]) = H18 := ⟨_, rfl⟩
          have s18 : Same H17 H18 := e18 ▸ same_new ht18
          have f18 : H18 t18 = some (.tup [.int 0, .int (0 - (1000001 + b)), .int 0, .int 0]) := e18 ▸ upd_same
          rw [e18]
          clear e18
          walk_at "lw go"
          refine ⟨by show 6 ≤ sizeLine; decide, fun l19 hl19 => ?_⟩
          obtain ⟨H19, e19⟩ : ∃ H19, upd H18 l19 (.lst [.ref t13, .ref t14, .ref t15, .ref t16, .ref t17, .ref t18]) = H19 := ⟨_, rfl⟩
          have s19 : Same H18 H19 := e19 ▸ same_new hl19
          have f19 : H19 l19 = some (.lst [.ref t13, .ref t14, .ref t15, .ref t16, .ref t17, .ref t18]) := e19 ▸ upd_same
          rw [e19]
          clear e19
          walk_at "lw go"
          refine ⟨by show 4 ≤ sizeLine; decide, fun t20 ht20 => ?_⟩
          obtain ⟨H20, e20⟩ : ∃ H20, upd H19 t20 (.tup [.int (1000001 + b), .int (1000001 + b), .int (1000001 + b), .int (1000001 + b)]) = H20 := ⟨_, rfl⟩
          have s20 : Same H19 H20 := e20 ▸ same_new ht20
          have f20 : H20 t20 = some (.tup [.int (1000001 + b), .int (1000001 + b), .int (1000001 + b), .int (1000001 + b)]) := e20 ▸ upd_same
          rw [e20]
          clear e20
          walk_at "lw go"
          refine ⟨by show 4 ≤ sizeLine; decide, fun t21 ht21 => ?_⟩
          obtain ⟨H21, e21⟩ : ∃ H21, upd H20 t21 (.tup [.int 5, .int 5, .int 4, .int 4]) = H21 := ⟨_, rfl⟩
          have s21 : Same H20 H21 := e21 ▸ same_new ht21
          have f21 : H21 t21 = some (.tup [.int 5, .int 5, .int 4, .int 4]) := e21 ▸ upd_same
          rw [e21]
          clear e21
          walk_at "lw go"
          refine ⟨by show 2 ≤ sizeLine; decide, fun l22 hl22 => ?_⟩
          obtain ⟨H22, e22⟩ : ∃ H22, upd H21 l22 (.lst [.ref t20, .ref t21]) = H22 := ⟨_, rfl⟩
          have s22 : Same H21 H22 := e22 ▸ same_new hl22
          have f22 : H22 l22 = some (.lst [.ref t20, .ref t21]) := e22 ▸ upd_same
          rw [e22]
          clear e22
          refine g_cat (s22 _ _ (s21 _ _ (s20 _ _ (f19)))) f22 (by show 8 ≤ sizeLine; decide) fun l23 hl23 => ?_
          have s23 := same_new (o := .lst ([.ref t13, .ref t14, .ref t15, .ref t16, .ref t17, .ref t18] ++ [.ref t20, .ref t21])) hl23
          obtain ⟨H23, e23⟩ : ∃ H23, upd H22 l23 (.lst ([.ref t13, .ref t14, .ref t15, .ref t16, .ref t17, .ref t18] ++ [.ref t20, .ref t21])) = H23 := ⟨_, rfl⟩
          have f23 : H23 l23 = some (.lst [.ref t13, .ref t14, .ref t15, .ref t16, .ref t17, .ref t18, .ref t20, .ref t21]) := e23 ▸ upd_same
          rw [e23] at s23
          rw [e23]
          clear e23
          have hO : OffBox H23 [.ref t13, .ref t14, .ref t15, .ref t16, .ref t17, .ref t18, .ref t20, .ref t21] := fun y hy => by
            simp only [List.mem_cons, List.not_mem_nil, or_false] at hy
            rcases hy with rfl | rfl | rfl | rfl | rfl | rfl | rfl | rfl
            · exact ⟨_, _, _, _, _, rfl, s23 _ _ (s22 _ _ (s21 _ _ (s20 _ _ (s19 _ _ (s18 _ _ (s17 _ _ (s16 _ _ (s15 _ _ (s14 _ _ (f13)))))))))), fun e => by have e1 := e.1; have e2 := e.2; omega⟩
            · exact ⟨_, _, _, _, _, rfl, s23 _ _ (s22 _ _ (s21 _ _ (s20 _ _ (s19 _ _ (s18 _ _ (s17 _ _ (s16 _ _ (s15 _ _ (f14))))))))), fun e => by have e1 := e.1; have e2 := e.2; omega⟩
            · exact ⟨_, _, _, _, _, rfl, s23 _ _ (s22 _ _ (s21 _ _ (s20 _ _ (s19 _ _ (s18 _ _ (s17 _ _ (s16 _ _ (f15)))))))), fun e => by have e1 := e.1; have e2 := e.2; omega⟩
            · exact ⟨_, _, _, _, _, rfl, s23 _ _ (s22 _ _ (s21 _ _ (s20 _ _ (s19 _ _ (s18 _ _ (s17 _ _ (f16))))))), fun e => by have e1 := e.1; have e2 := e.2; omega⟩
            · exact ⟨_, _, _, _, _, rfl, s23 _ _ (s22 _ _ (s21 _ _ (s20 _ _ (s19 _ _ (s18 _ _ (f17)))))), fun e => by have e1 := e.1; have e2 := e.2; omega⟩
            · exact ⟨_, _, _, _, _, rfl, s23 _ _ (s22 _ _ (s21 _ _ (s20 _ _ (s19 _ _ (f18))))), fun e => by have e1 := e.1; have e2 := e.2; omega⟩
            · exact ⟨_, _, _, _, _, rfl, s23 _ _ (s22 _ _ (s21 _ _ (f20))), fun e => by have e1 := e.1; have e2 := e.2; omega⟩
            · exact ⟨_, _, _, _, _, rfl, s23 _ _ (s22 _ _ (f21)), fun e => by have e1 := e.1; have e2 := e.2; omega⟩
          have sA : Same H12 H23 := ((((((((((s13.trans s14).trans s15).trans s16).trans s17).trans s18).trans s19).trans s20).trans s21).trans s22).trans s23)
          have hF23 := hF12.mono (same_tup sA)
          have k023 := k012.trans (Keep.of_same sA)
          clear s13 s14 s15 s16 s17 s18 s19 s20 s21 s22 s23 f13 f14 f15 f16 f17 f18 f19 f20 f21 f22 sA hF12 k012
          refine ⟨l23, rfl, ⟨_, SqL.of f23⟩, for_list (xs := [.ref t13, .ref t14, .ref t15, .ref t16, .ref t17, .ref t18, .ref t20, .ref t21]) (fun j σ H' => ∃ (o6 : Option V), σ = [some (.ref a), some (.int (0 + i)), some (.ref p), some (.ref pu), some (.int g), some (.str (dataF F).shown), o6, some (.int (1000001 + b)), some (.ref l19)] ∧ Same H23 H')
            ⟨_, rfl, Same.refl _⟩ (fun _ σ H' _ ⟨_, _, s⟩ => SqL.of (s _ _ f23)) ?_ ?_⟩
          · rintro j y σ H24 hj ⟨o6, rfl, s24⟩
            obtain ⟨tt, x0, z0, x1, z1, rfl, htt, ob⟩ := hO y (List.mem_of_getElem? hj)
            walk_at "lw go"
            refine ⟨.ref pu, F, g, x0, z0, x1, z1, tt, rfl, hF23.mono (same_tup s24), hG, s24 _ _ htt, ob, fun lc H25 s25 hlc => ?_⟩
            walk_at "lw go"
            refine ⟨by show 1 ≤ sizeLine; decide, fun l5 hl5 => ?_⟩
            have s26 := same_new (o := .lst [.int 1]) hl5
            refine ne_same (d := .list [.int 1]) (by decide +kernel) (.lst (SqL.of (s26 _ _ hlc)) (.cons (.int _) .nil)) (.lst (SqL.of upd_same) (.cons (.int _) .nil)) ?_
            have s246 := (s24.trans s25).trans s26
            walk_at "lw go"
            refine ⟨pu, dataF F, rfl, dp_field F _ (hF23.mono (same_tup s246)), show_field F hG.ok, nod_field F, show1.1, show1.2, ?_⟩
            walk_at "lw go"
            refine iteNS rfl ?_
            walk_at "lw go"
            exact ⟨_, rfl, s246⟩
          · rintro σ H24 ⟨o6, rfl, s24⟩
            walk_at "lw go"
            exact ⟨_, _, _, _, _, _, _, _, rfl, (k023.trans (Keep.of_same s24)).seqN hpn hS1⟩
    · rintro σ H1 ⟨v1, v2, v3, v4, v5, v6, v7, v8, rfl, hS1⟩
      walk_at "lw go"
      exact q H1
end

open Hd
theorem facts {P : Program} {w : World} {K : PySem.W.Frag} {h : Heap} {mg : Str → Option Value} {f : Addr} (X : K.In h) (G0 : h.Ns mainGlobals mg) (hfa : mg ("law" : Str) = some (.ref f)) (c0 : He.SaysX fa fn [] [] ex w h K) :
    ∃ fd : FuncData, (∀ (s : Shared) (v : Value), BindsTo s fd ⟨[v], []⟩ [("_law_script", v)]) ∧ ∀ base : Heap, K.In base → base.Ns mainGlobals mg → Gd.FnG P w K mg base CX0 110 f fd ["_law_script"] (spLaw K) := by
  have c : He.SaysD fa fn K := c0.t.d
  obtain ⟨fd_is_from, F_is_from⟩ := c.def_ 0 (d := dd_is_from) rfl
  have g_is_from := He.glo_ok X G0 (c.fact 0 (f := .glo "is_from") rfl)
  obtain ⟨fd_is_name, F_is_name⟩ := c.def_ 1 (d := dd_is_name) rfl
  have g_is_name := He.glo_ok X G0 (c.fact 1 (f := .glo "is_name") rfl)
  obtain ⟨fd_is_point, F_is_point⟩ := c.def_ 2 (d := dd_is_point) rfl
  have g_is_point := He.glo_ok X G0 (c.fact 2 (f := .glo "is_point") rfl)
  obtain ⟨fd_must_point, F_must_point⟩ := c.def_ 3 (d := dd_must_point) rfl
  have g_must_point := He.glo_ok X G0 (c.fact 3 (f := .glo "must_point") rfl)
  obtain ⟨fd_is_box, F_is_box⟩ := c.def_ 4 (d := dd_is_box) rfl
  have g_is_box := He.glo_ok X G0 (c.fact 4 (f := .glo "is_box") rfl)
  obtain ⟨fd_must_box, F_must_box⟩ := c.def_ 5 (d := dd_must_box) rfl
  have g_must_box := He.glo_ok X G0 (c.fact 5 (f := .glo "must_box") rfl)
  obtain ⟨fd_knot, F_knot⟩ := c.def_ 6 (d := dd_knot) rfl
  have g_knot := He.glo_ok X G0 (c.fact 6 (f := .glo "knot") rfl)
  obtain ⟨fd_four_knots, F_four_knots⟩ := c.def_ 7 (d := dd_four_knots) rfl
  have g_four_knots := He.glo_ok X G0 (c.fact 7 (f := .glo "four_knots") rfl)
  obtain ⟨fd_knot_row, F_knot_row⟩ := c.def_ 8 (d := dd_knot_row) rfl
  have g_knot_row := He.glo_ok X G0 (c.fact 8 (f := .glo "knot_row") rfl)
  obtain ⟨fd_noise_value, F_noise_value⟩ := c.def_ 9 (d := dd_noise_value) rfl
  have g_noise_value := He.glo_ok X G0 (c.fact 9 (f := .glo "noise_value") rfl)
  obtain ⟨fd_noise_grid, F_noise_grid⟩ := c.def_ 10 (d := dd_noise_grid) rfl
  have g_noise_grid := He.glo_ok X G0 (c.fact 10 (f := .glo "noise_grid") rfl)
  obtain ⟨fd_knots_beside, F_knots_beside⟩ := c.def_ 11 (d := dd_knots_beside) rfl
  have g_knots_beside := He.glo_ok X G0 (c.fact 11 (f := .glo "knots_beside") rfl)
  obtain ⟨fd_noise_range, F_noise_range⟩ := c.def_ 12 (d := dd_noise_range) rfl
  have g_noise_range := He.glo_ok X G0 (c.fact 12 (f := .glo "noise_range") rfl)
  obtain ⟨fd_corner_values, F_corner_values⟩ := c.def_ 13 (d := dd_corner_values) rfl
  have g_corner_values := He.glo_ok X G0 (c.fact 13 (f := .glo "corner_values") rfl)
  obtain ⟨fd_turns, F_turns⟩ := c.def_ 14 (d := dd_turns) rfl
  have g_turns := He.glo_ok X G0 (c.fact 14 (f := .glo "turns") rfl)
  obtain ⟨fd_value_at, F_value_at⟩ := c.def_ 15 (d := dd_value_at) rfl
  have g_value_at := He.glo_ok X G0 (c.fact 15 (f := .glo "value_at") rfl)
  obtain ⟨fd_steps_of, F_steps_of⟩ := c.def_ 16 (d := dd_steps_of) rfl
  have g_steps_of := He.glo_ok X G0 (c.fact 16 (f := .glo "steps_of") rfl)
  obtain ⟨fd_run_steps, F_run_steps⟩ := c.def_ 17 (d := dd_run_steps) rfl
  have g_run_steps := He.glo_ok X G0 (c.fact 17 (f := .glo "run_steps") rfl)
  obtain ⟨fd_bounds_of, F_bounds_of⟩ := c.def_ 18 (d := dd_bounds_of) rfl
  have g_bounds_of := He.glo_ok X G0 (c.fact 18 (f := .glo "bounds_of") rfl)
  obtain ⟨fd_greatest_of, F_greatest_of⟩ := c.def_ 19 (d := dd_greatest_of) rfl
  have g_greatest_of := He.glo_ok X G0 (c.fact 19 (f := .glo "greatest_of") rfl)
  obtain ⟨fd_weighed, F_weighed⟩ := c.def_ 20 (d := dd_weighed) rfl
  have g_weighed := He.glo_ok X G0 (c.fact 20 (f := .glo "weighed") rfl)
  obtain ⟨fd_weighed_long, F_weighed_long⟩ := c.def_ 21 (d := dd_weighed_long) rfl
  have g_weighed_long := He.glo_ok X G0 (c.fact 21 (f := .glo "weighed_long") rfl)
  obtain ⟨fd_must_ranges, F_must_ranges⟩ := c.def_ 22 (d := dd_must_ranges) rfl
  have g_must_ranges := He.glo_ok X G0 (c.fact 22 (f := .glo "must_ranges") rfl)
  obtain ⟨fd_placed, F_placed⟩ := c.def_ 23 (d := dd_placed) rfl
  have g_placed := He.glo_ok X G0 (c.fact 23 (f := .glo "placed") rfl)
  obtain ⟨fd_run_known, F_run_known⟩ := c.def_ 24 (d := dd_run_known) rfl
  have g_run_known := He.glo_ok X G0 (c.fact 24 (f := .glo "run_known") rfl)
  obtain ⟨fd_steps_range, F_steps_range⟩ := c.def_ 25 (d := dd_steps_range) rfl
  have g_steps_range := He.glo_ok X G0 (c.fact 25 (f := .glo "steps_range") rfl)
  obtain ⟨fd_ranges_of, F_ranges_of⟩ := c.def_ 26 (d := dd_ranges_of) rfl
  have g_ranges_of := He.glo_ok X G0 (c.fact 26 (f := .glo "ranges_of") rfl)
  obtain ⟨fd_below_range, F_below_range⟩ := c.def_ 27 (d := dd_below_range) rfl
  have g_below_range := He.glo_ok X G0 (c.fact 27 (f := .glo "below_range") rfl)
  obtain ⟨fd_joined_range, F_joined_range⟩ := c.def_ 28 (d := dd_joined_range) rfl
  have g_joined_range := He.glo_ok X G0 (c.fact 28 (f := .glo "joined_range") rfl)
  obtain ⟨fd_law_at, F_law_at⟩ := c.def_ 29 (d := dd_law_at) rfl
  have g_law_at := He.glo_ok X G0 (c.fact 29 (f := .glo "_law_at") rfl)
  obtain ⟨fd_law_mixed, F_law_mixed⟩ := c.def_ 30 (d := dd_law_mixed) rfl
  have g_law_mixed := He.glo_ok X G0 (c.fact 30 (f := .glo "_law_mixed") rfl)
  obtain ⟨fd_law_purse, F_law_purse⟩ := c.def_ 31 (d := dd_law_purse) rfl
  have g_law_purse := He.glo_ok X G0 (c.fact 31 (f := .glo "_law_purse") rfl)
  obtain ⟨fd_law_draw, F_law_draw⟩ := c.def_ 32 (d := dd_law_draw) rfl
  have g_law_draw := He.glo_ok X G0 (c.fact 32 (f := .glo "_law_draw") rfl)
  obtain ⟨fd_law_whole, F_law_whole⟩ := c.def_ 33 (d := dd_law_whole) rfl
  have g_law_whole := He.glo_ok X G0 (c.fact 33 (f := .glo "_law_whole") rfl)
  obtain ⟨fd_law_knot, F_law_knot⟩ := c.def_ 34 (d := dd_law_knot) rfl
  have g_law_knot := He.glo_ok X G0 (c.fact 34 (f := .glo "_law_knot") rfl)
  obtain ⟨fd_law_noise, F_law_noise⟩ := c.def_ 35 (d := dd_law_noise) rfl
  have g_law_noise := He.glo_ok X G0 (c.fact 35 (f := .glo "_law_noise") rfl)
  obtain ⟨fd_law_two, F_law_two⟩ := c.def_ 36 (d := dd_law_two) rfl
  have g_law_two := He.glo_ok X G0 (c.fact 36 (f := .glo "_law_two") rfl)
  obtain ⟨fd_law_value, F_law_value⟩ := c.def_ 37 (d := dd_law_value) rfl
  have g_law_value := He.glo_ok X G0 (c.fact 37 (f := .glo "_law_value") rfl)
  obtain ⟨fd_law_noise_range, F_law_noise_range⟩ := c.def_ 38 (d := dd_law_noise_range) rfl
  have g_law_noise_range := He.glo_ok X G0 (c.fact 38 (f := .glo "_law_noise_range") rfl)
  obtain ⟨fd_law_two_range, F_law_two_range⟩ := c.def_ 39 (d := dd_law_two_range) rfl
  have g_law_two_range := He.glo_ok X G0 (c.fact 39 (f := .glo "_law_two_range") rfl)
  obtain ⟨fd_law_below_range, F_law_below_range⟩ := c.def_ 40 (d := dd_law_below_range) rfl
  have g_law_below_range := He.glo_ok X G0 (c.fact 40 (f := .glo "_law_below_range") rfl)
  obtain ⟨fd_law_range, F_law_range⟩ := c.def_ 41 (d := dd_law_range) rfl
  have g_law_range := He.glo_ok X G0 (c.fact 41 (f := .glo "_law_range") rfl)
  obtain ⟨fd_law_number, F_law_number⟩ := c.def_ 42 (d := dd_law_number) rfl
  have g_law_number := He.glo_ok X G0 (c.fact 42 (f := .glo "_law_number") rfl)
  obtain ⟨fd_law_leaf, F_law_leaf⟩ := c.def_ 43 (d := dd_law_leaf) rfl
  have g_law_leaf := He.glo_ok X G0 (c.fact 43 (f := .glo "_law_leaf") rfl)
  obtain ⟨fd_law_field, F_law_field⟩ := c.def_ 44 (d := dd_law_field) rfl
  have g_law_field := He.glo_ok X G0 (c.fact 44 (f := .glo "_law_field") rfl)
  obtain ⟨fd_law_all_ranges, F_law_all_ranges⟩ := c.def_ 45 (d := dd_law_all_ranges) rfl
  have g_law_all_ranges := He.glo_ok X G0 (c.fact 45 (f := .glo "_law_all_ranges") rfl)
  obtain ⟨fd_law_small, F_law_small⟩ := c.def_ 46 (d := dd_law_small) rfl
  have g_law_small := He.glo_ok X G0 (c.fact 46 (f := .glo "_law_small") rfl)
  obtain ⟨fd_law_rules, F_law_rules⟩ := c.def_ 47 (d := dd_law_rules) rfl
  have g_law_rules := He.glo_ok X G0 (c.fact 47 (f := .glo "_law_rules") rfl)
  obtain ⟨fd_law_grain, F_law_grain⟩ := c.def_ 48 (d := dd_law_grain) rfl
  have g_law_grain := He.glo_ok X G0 (c.fact 48 (f := .glo "_law_grain") rfl)
  obtain ⟨fd_law_place, F_law_place⟩ := c.def_ 49 (d := dd_law_place) rfl
  have g_law_place := He.glo_ok X G0 (c.fact 49 (f := .glo "_law_place") rfl)
  obtain ⟨fd_law_area, F_law_area⟩ := c.def_ 50 (d := dd_law_area) rfl
  have g_law_area := He.glo_ok X G0 (c.fact 50 (f := .glo "_law_area") rfl)
  obtain ⟨fd_law_class, F_law_class⟩ := c.def_ 51 (d := dd_law_class) rfl
  have g_law_class := He.glo_ok X G0 (c.fact 51 (f := .glo "_law_class") rfl)
  obtain ⟨fd_law_caught, F_law_caught⟩ := c.def_ 52 (d := dd_law_caught) rfl
  have g_law_caught := He.glo_ok X G0 (c.fact 52 (f := .glo "_law_caught") rfl)
  obtain ⟨fd_law_areas, F_law_areas⟩ := c.def_ 53 (d := dd_law_areas) rfl
  have g_law_areas := He.glo_ok X G0 (c.fact 53 (f := .glo "_law_areas") rfl)
  obtain ⟨fd_law_spots, F_law_spots⟩ := c.def_ 54 (d := dd_law_spots) rfl
  have g_law_spots := He.glo_ok X G0 (c.fact 54 (f := .glo "_law_spots") rfl)
  obtain ⟨fd_law_all_points, F_law_all_points⟩ := c.def_ 55 (d := dd_law_all_points) rfl
  have g_law_all_points := He.glo_ok X G0 (c.fact 55 (f := .glo "_law_all_points") rfl)
  obtain ⟨fd_law_right, F_law_right⟩ := c.def_ 56 (d := dd_law_right) rfl
  have g_law_right := He.glo_ok X G0 (c.fact 56 (f := .glo "_law_right") rfl)
  obtain ⟨fd_law, F_law⟩ := c.def_ 57 (d := dd_law) rfl
  have g_law := He.glo_ok X G0 (c.fact 57 (f := .glo "law") rfl)
  have T : Bi mg := ⟨He.free_ok X G0 (c.fact 58 (f := .free "isinstance") rfl), He.free_ok X G0 (c.fact 59 (f := .free "int") rfl), He.free_ok X G0 (c.fact 60 (f := .free "bool") rfl), He.free_ok X G0 (c.fact 61 (f := .free "str") rfl), He.free_ok X G0 (c.fact 62 (f := .free "len") rfl), He.free_ok X G0 (c.fact 63 (f := .free "tuple") rfl), He.free_ok X G0 (c.fact 64 (f := .free "reversed") rfl), He.free_ok X G0 (c.fact 65 (f := .free "enumerate") rfl), He.free_ok X G0 (c.fact 66 (f := .free "zip") rfl), He.free_ok X G0 (c.fact 67 (f := .free "min") rfl), He.free_ok X G0 (c.fact 68 (f := .free "max") rfl), He.free_ok X G0 (c.fact 69 (f := .free "range") rfl), He.free_ok X G0 (c.fact 70 (f := .free "list") rfl), He.free_ok X G0 (c.fact 71 (f := .free "abs") rfl), He.free_ok X G0 (c.fact 72 (f := .free "sum") rfl), He.free_ok X G0 (c.fact 73 (f := .free "dict") rfl), He.free_ok X G0 (c.fact 74 (f := .free "repr") rfl)⟩
  have hx := c0.more
  obtain ⟨hx_ALL_POINTS, hx⟩ := He.ba hx
  obtain ⟨hx_PAIRS, hx⟩ := He.ba hx
  obtain ⟨hx_PLACE, hx⟩ := He.ba hx
  obtain ⟨hx_NOISE, hx⟩ := He.ba hx
  obtain ⟨hx_er, hx⟩ := He.ba hx
  obtain ⟨hx_mP, hx⟩ := He.ba hx
  obtain ⟨hx_kN, hx⟩ := He.ba hx
  have G : Kn K mg := ⟨He.int_ok X G0 (c.fact 75 (f := .int "EDGE" (1000000)) rfl), He.glo_ok X G0 (c.fact 82 (f := .glo "ALL_POINTS") rfl), fun H => He.tupB_ok hx_ALL_POINTS H, He.int_ok X G0 (c.fact 76 (f := .int "LONGEST_NAME" (8)) rfl), He.int_ok X G0 (c.fact 77 (f := .int "MOST_SQUARES" (64)) rfl), He.int_ok X G0 (c.fact 78 (f := .int "GREATEST_KNOT" (65535)) rfl), He.int_ok X G0 (c.fact 79 (f := .int "MOST_FIELDS" (200)) rfl), He.int_ok X G0 (c.fact 80 (f := .int "GREATEST_VALUE" (1000000000000000000000000000000)) rfl), He.int_ok X G0 (c.fact 81 (f := .int "BEYOND" (1000000000000000000000000000001)) rfl), He.glo_ok X G0 (c.fact 83 (f := .glo "PAIRS") rfl), fun H => He.tupB_ok hx_PAIRS H, He.glo_ok X G0 (c.fact 84 (f := .glo "PLACE") rfl), fun H => He.tupB_ok hx_PLACE H, He.glo_ok X G0 (c.fact 85 (f := .glo "NOISE") rfl), fun H => He.tupB_ok hx_NOISE H, He.glo_ok X G0 (c.fact 86 (f := .glo "NoRules") rfl), He.glo_ok X G0 (c.fact 87 (f := .glo "NoBox") rfl), He.glo_ok X G0 (c.fact 88 (f := .glo "NoPoint") rfl), He.glo_ok X G0 (c.fact 89 (f := .glo "NoLevel") rfl), He.glo_ok X G0 (c.fact 90 (f := .glo "NoCount") rfl), He.glo_ok X G0 (c.fact 91 (f := .glo "NoEdit") rfl), He.glo_ok X G0 (c.fact 92 (f := .glo "Full") rfl), He.glo_ok X G0 (c.fact 93 (f := .glo "NoDeed") rfl), He.glo_ok X G0 (c.fact 94 (f := .glo "NoBrush") rfl), He.glo_ok X G0 (c.fact 95 (f := .glo "NoText") rfl), He.glo_ok X G0 (c.fact 96 (f := .glo "NoLine") rfl), He.glo_ok X G0 (c.fact 97 (f := .glo "NoSuch") rfl), He.glo_ok X G0 (c.fact 98 (f := .glo "LandError") rfl), errs_of hx_er, of_decide_eq_true hx_mP, fun y hy => of_decide_eq_true (List.all_eq_true.mp hx_kN y hy)⟩
  have e := hfa.symm.trans g_law
  cases e
  refine ⟨fd_law, fun s v => FunD.bindsA (ps := ["_law_script"]) F_law (fun _ _ _ _ _ _ us hl => match us, hl with | [_], _ => rfl) s [v] rfl, fun base _ _ => ?_⟩
  have D_is_from : Df P w K mg base "is_from" ["thing", "low", "high"] 1 spFrom := ⟨_, _, g_is_from, F_is_from.kp, F_is_from.bindsN fun _ _ _ _ _ _ us hl => match us, hl with | [_, _, _], _ => rfl, ok_is_from F_is_from T G ⟩
  have D_is_name : Df P w K mg base "is_name" ["thing"] 1 spName := ⟨_, _, g_is_name, F_is_name.kp, F_is_name.bindsN fun _ _ _ _ _ _ us hl => match us, hl with | [_], _ => rfl, ok_is_name F_is_name T G ⟩
  have D_is_point : Df P w K mg base "is_point" ["x", "z"] 1 spPointG := ⟨_, _, g_is_point, F_is_point.kp, F_is_point.bindsN fun _ _ _ _ _ _ us hl => match us, hl with | [_, _], _ => rfl, ok_is_point F_is_point T G ⟩
  have D_must_point : Df P w K mg base "must_point" ["x", "z"] 2 spMustPt := ⟨_, _, g_must_point, F_must_point.kp, F_must_point.bindsN fun _ _ _ _ _ _ us hl => match us, hl with | [_, _], _ => rfl, ok_must_point F_must_point T G D_is_point⟩
  have D_is_box : Df P w K mg base "is_box" ["thing"] 2 spIsBox := ⟨_, _, g_is_box, F_is_box.kp, F_is_box.bindsN fun _ _ _ _ _ _ us hl => match us, hl with | [_], _ => rfl, ok_is_box F_is_box T G D_is_point⟩
  have D_must_box : Df P w K mg base "must_box" ["box"] 3 spMustBox := ⟨_, _, g_must_box, F_must_box.kp, F_must_box.bindsN fun _ _ _ _ _ _ us hl => match us, hl with | [_], _ => rfl, ok_must_box F_must_box T G D_is_box⟩
  have DX_must_box : DfX P w K mg base "must_box" ["box"] 3 (spMustBoxX K) := ⟨_, _, g_must_box, F_must_box.kp, F_must_box.bindsN fun _ _ _ _ _ _ us hl => match us, hl with | [_], _ => rfl, ok_must_boxX F_must_box T G D_is_box⟩
  have D_knot : Df P w K mg base "knot" ["seed", "salt", "i", "j"] 1 spKnot := ⟨_, _, g_knot, F_knot.kp, F_knot.bindsN fun _ _ _ _ _ _ us hl => match us, hl with | [_, _, _, _], _ => rfl, ok_knot F_knot T G ⟩
  have D_four_knots : Df P w K mg base "four_knots" ["seed", "salt", "i", "j"] 1 spFour := ⟨_, _, g_four_knots, F_four_knots.kp, F_four_knots.bindsN fun _ _ _ _ _ _ us hl => match us, hl with | [_, _, _, _], _ => rfl, ok_four_knots F_four_knots T G ⟩
  have D_knot_row : Df P w K mg base "knot_row" ["seed", "salt", "i", "places"] 1 spKrow := ⟨_, _, g_knot_row, F_knot_row.kp, F_knot_row.bindsN fun _ _ _ _ _ _ us hl => match us, hl with | [_, _, _, _], _ => rfl, ok_knot_row F_knot_row T G ⟩
  have D_noise_value : Df P w K mg base "noise_value" ["seed", "salt", "log", "x", "z", "known"] 2 spNV := ⟨_, _, g_noise_value, F_noise_value.kp, F_noise_value.bindsN fun _ _ _ _ _ _ us hl => match us, hl with | [_, _, _, _, _, _], _ => rfl, ok_noise_value F_noise_value T G D_knot D_four_knots⟩
  have D_knots_beside : Df P w K mg base "knots_beside" ["log", "zs"] 1 spBeside := ⟨_, _, g_knots_beside, F_knots_beside.kp, F_knots_beside.bindsN fun _ _ _ _ _ _ us hl => match us, hl with | [_, _], _ => rfl, ok_knots_beside F_knots_beside T G ⟩
  have D_noise_grid : Df P w K mg base "noise_grid" ["seed", "salt", "log", "xs", "zs"] 2 spGrid := ⟨_, _, g_noise_grid, F_noise_grid.kp, F_noise_grid.bindsN fun _ _ _ _ _ _ us hl => match us, hl with | [_, _, _, _, _], _ => rfl, ok_noise_grid F_noise_grid T G D_knots_beside D_knot_row⟩
  have D_corner_values : Df P w K mg base "corner_values" ["seed", "salt", "log", "box"] 2 spCorner := ⟨_, _, g_corner_values, F_corner_values.kp, F_corner_values.bindsN fun _ _ _ _ _ _ us hl => match us, hl with | [_, _, _, _], _ => rfl, ok_corner_values F_corner_values T G D_four_knots⟩
  have D_turns : Df P w K mg base "turns" ["low", "high", "log"] 1 spTurns := ⟨_, _, g_turns, F_turns.kp, F_turns.bindsN fun _ _ _ _ _ _ us hl => match us, hl with | [_, _, _], _ => rfl, ok_turns F_turns T G ⟩
  have D_noise_range : Df P w K mg base "noise_range" ["seed", "salt", "log", "box"] 3 spNRx := ⟨_, _, g_noise_range, F_noise_range.kp, F_noise_range.bindsN fun _ _ _ _ _ _ us hl => match us, hl with | [_, _, _, _], _ => rfl, ok_noise_range F_noise_range T G D_corner_values D_noise_grid D_turns⟩
  have DW := ok_weighed F_weighed F_weighed_long T G g_weighed F_weighed.kp (F_weighed.bindsN (ps := ["field", "lets"]) fun _ _ _ _ _ _ us hl => match us, hl with | [_, _], _ => rfl) g_weighed_long F_weighed_long.kp (F_weighed_long.bindsN (ps := ["field", "lets"]) fun _ _ _ _ _ _ us hl => match us, hl with | [_, _], _ => rfl) D_is_from D_is_name (base := base)
  have D_weighed : Df P w K mg base "weighed" ["field", "lets"] 42 (spW K 20) := ⟨_, _, g_weighed, F_weighed.kp, F_weighed.bindsN fun _ _ _ _ _ _ us hl => match us, hl with | [_, _], _ => rfl, (DW 20).1⟩
  have D_greatest_of : Df P w K mg base "greatest_of" ["rules"] 43 spGr := ⟨_, _, g_greatest_of, F_greatest_of.kp, F_greatest_of.bindsN fun _ _ _ _ _ _ us hl => match us, hl with | [_], _ => rfl, ok_greatest_of F_greatest_of T G D_weighed⟩
  have D_placed : Df P w K mg base "placed" ["field", "dx", "dz", "lets", "made"] 61 (spPlaced 60) :=
    have bb := F_placed.bindsN (ps := ["field", "dx", "dz", "lets", "made"]) fun _ _ _ _ _ _ us hl => match us, hl with | [_, _, _, _, _], _ => rfl
    ⟨_, _, g_placed, F_placed.kp, bb, ok_placed F_placed T G  g_placed F_placed.kp bb 60⟩
  have D_below_range : Df P w K mg base "below_range" ["parts"] 1 spBelw := ⟨_, _, g_below_range, F_below_range.kp, F_below_range.bindsN fun _ _ _ _ _ _ us hl => match us, hl with | [_], _ => rfl, ok_below_range F_below_range T G ⟩
  have D_joined_range : Df P w K mg base "joined_range" ["word", "one", "other"] 1 spJoin := ⟨_, _, g_joined_range, F_joined_range.kp, F_joined_range.bindsN fun _ _ _ _ _ _ us hl => match us, hl with | [_, _, _], _ => rfl, ok_joined_range F_joined_range T G ⟩
  have D_ranges_of : Df P w K mg base "ranges_of" ["some", "seed", "box"] 4 (spRgs K) := ⟨_, _, g_ranges_of, F_ranges_of.kp, F_ranges_of.bindsN fun _ _ _ _ _ _ us hl => match us, hl with | [_, _, _], _ => rfl, ok_ranges_of F_ranges_of T G D_noise_range D_below_range D_joined_range⟩
  have D_must_ranges : Df P w K mg base "must_ranges" ["steps"] 5 (spMust K) := ⟨_, _, g_must_ranges, F_must_ranges.kp, F_must_ranges.bindsN fun _ _ _ _ _ _ us hl => match us, hl with | [_], _ => rfl, ok_must_ranges F_must_ranges T G D_ranges_of⟩
  have D_steps_of : Df P w K mg base "steps_of" ["rules"] 62 spSteps := ⟨_, _, g_steps_of, F_steps_of.kp, F_steps_of.bindsN fun _ _ _ _ _ _ us hl => match us, hl with | [_], _ => rfl, ok_steps_of F_steps_of T G D_greatest_of D_placed D_must_ranges⟩
  have D_run_known : Df P w K mg base "run_known" ["some", "seed", "x", "z", "known"] 3 (spRun K) := ⟨_, _, g_run_known, F_run_known.kp, F_run_known.bindsN fun _ _ _ _ _ _ us hl => match us, hl with | [_, _, _, _, _], _ => rfl, ok_run_known F_run_known T G D_noise_value⟩
  have D_run_steps : Df P w K mg base "run_steps" ["some", "seed", "x", "z"] 4 (spRunS K) := ⟨_, _, g_run_steps, F_run_steps.kp, F_run_steps.bindsN fun _ _ _ _ _ _ us hl => match us, hl with | [_, _, _, _], _ => rfl, ok_run_steps F_run_steps T G D_run_known⟩
  have D_value_at : Df P w K mg base "value_at" ["rules", "seed", "x", "z"] 63 spVal := ⟨_, _, g_value_at, F_value_at.kp, F_value_at.bindsN fun _ _ _ _ _ _ us hl => match us, hl with | [_, _, _, _], _ => rfl, ok_value_at F_value_at T G D_steps_of D_must_point D_run_steps⟩
  have D_steps_range : Df P w K mg base "steps_range" ["steps", "seed", "box"] 5 (spStR K) := ⟨_, _, g_steps_range, F_steps_range.kp, F_steps_range.bindsN fun _ _ _ _ _ _ us hl => match us, hl with | [_, _, _], _ => rfl, ok_steps_range F_steps_range T G D_run_steps D_ranges_of⟩
  have D_bounds_of : Df P w K mg base "bounds_of" ["rules", "seed", "box"] 63 spBnds := ⟨_, _, g_bounds_of, F_bounds_of.kp, F_bounds_of.bindsN fun _ _ _ _ _ _ us hl => match us, hl with | [_, _, _], _ => rfl, ok_bounds_of F_bounds_of T G D_steps_of D_must_box D_steps_range⟩
  have DX_bounds_of : DfX P w K mg base "bounds_of" ["rules", "seed", "box"] 63 (spBndsX K) := ⟨_, _, g_bounds_of, F_bounds_of.kp, F_bounds_of.bindsN fun _ _ _ _ _ _ us hl => match us, hl with | [_, _, _], _ => rfl, ok_bounds_ofX F_bounds_of T G D_steps_of DX_must_box D_steps_range⟩
  have D_law_at : Df P w K mg base "_law_at" ["_law_script", "_law_k"] 1 (spAt K) := ⟨_, _, g_law_at, F_law_at.kp, F_law_at.bindsN fun _ _ _ _ _ _ us hl => match us, hl with | [_, _], _ => rfl, ok_law_at F_law_at T G ⟩
  have D_law_mixed : Df P w K mg base "_law_mixed" ["_law_cell", "_law_k"] 1 spMixed := ⟨_, _, g_law_mixed, F_law_mixed.kp, F_law_mixed.bindsN fun _ _ _ _ _ _ us hl => match us, hl with | [_, _], _ => rfl, ok_law_mixed F_law_mixed T G ⟩
  have D_law_purse : Df P w K mg base "_law_purse" ["_law_script", "_law_at_here"] 2 (spPurse K) := ⟨_, _, g_law_purse, F_law_purse.kp, F_law_purse.bindsN fun _ _ _ _ _ _ us hl => match us, hl with | [_, _], _ => rfl, ok_law_purse F_law_purse T G D_law_at⟩
  have D_law_draw : Df P w K mg base "_law_draw" ["_law_purse_here", "_law_out_of"] 2 spDraw := ⟨_, _, g_law_draw, F_law_draw.kp, F_law_draw.bindsN fun _ _ _ _ _ _ us hl => match us, hl with | [_, _], _ => rfl, ok_law_draw F_law_draw T G D_law_mixed⟩
  have D_law_whole : Df P w K mg base "_law_whole" ["_law_found"] 1 spWhole := ⟨_, _, g_law_whole, F_law_whole.kp, F_law_whole.bindsN fun _ _ _ _ _ _ us hl => match us, hl with | [_], _ => rfl, ok_law_whole F_law_whole T G ⟩
  have D_law_knot : Df P w K mg base "_law_knot" ["_law_grain_here", "_law_salted", "_law_left", "_law_right_here"] 1 spKnot := ⟨_, _, g_law_knot, F_law_knot.kp, F_law_knot.bindsN fun _ _ _ _ _ _ us hl => match us, hl with | [_, _, _, _], _ => rfl, ok_law_knot F_law_knot T G ⟩
  have D_law_noise : Df P w K mg base "_law_noise" ["_law_field_here", "_law_grain_here", "_law_x", "_law_z"] 2 spNoise := ⟨_, _, g_law_noise, F_law_noise.kp, F_law_noise.bindsN fun _ _ _ _ _ _ us hl => match us, hl with | [_, _, _, _], _ => rfl, ok_law_noise F_law_noise T G D_law_knot⟩
  have D_law_two : Df P w K mg base "_law_two" ["_law_word", "_law_a", "_law_b"] 1 spTwo := ⟨_, _, g_law_two, F_law_two.kp, F_law_two.bindsN fun _ _ _ _ _ _ us hl => match us, hl with | [_, _, _], _ => rfl, ok_law_two F_law_two T G ⟩
  have D_law_value : Df P w K mg base "_law_value" ["_law_field_here", "_law_grain_here", "_law_x", "_law_z", "_law_bound"] 63 (spValue 60) :=
    have bb := F_law_value.bindsN (ps := ["_law_field_here", "_law_grain_here", "_law_x", "_law_z", "_law_bound"]) fun _ _ _ _ _ _ us hl => match us, hl with | [_, _, _, _, _], _ => rfl
    ⟨_, _, g_law_value, F_law_value.kp, bb, ok_law_value F_law_value T G D_law_two D_law_noise g_law_value F_law_value.kp bb 60⟩
  have D_law_noise_range : Df P w K mg base "_law_noise_range" ["_law_field_here", "_law_grain_here", "_law_area_here"] 3 spNR := ⟨_, _, g_law_noise_range, F_law_noise_range.kp, F_law_noise_range.bindsN fun _ _ _ _ _ _ us hl => match us, hl with | [_, _, _], _ => rfl, ok_law_noise_range F_law_noise_range T G D_law_noise⟩
  have D_law_two_range : Df P w K mg base "_law_two_range" ["_law_word", "_law_a", "_law_b"] 1 spTwoR := ⟨_, _, g_law_two_range, F_law_two_range.kp, F_law_two_range.bindsN fun _ _ _ _ _ _ us hl => match us, hl with | [_, _, _], _ => rfl, ok_law_two_range F_law_two_range T G ⟩
  have D_law_below_range : Df P w K mg base "_law_below_range" ["_law_a", "_law_b", "_law_yes", "_law_no"] 1 spBelR := ⟨_, _, g_law_below_range, F_law_below_range.kp, F_law_below_range.bindsN fun _ _ _ _ _ _ us hl => match us, hl with | [_, _, _, _], _ => rfl, ok_law_below_range F_law_below_range T G ⟩
  have D_law_range : Df P w K mg base "_law_range" ["_law_field_here", "_law_grain_here", "_law_area_here", "_law_bound"] 64 (spRange 60) :=
    have bb := F_law_range.bindsN (ps := ["_law_field_here", "_law_grain_here", "_law_area_here", "_law_bound"]) fun _ _ _ _ _ _ us hl => match us, hl with | [_, _, _, _], _ => rfl
    ⟨_, _, g_law_range, F_law_range.kp, bb, ok_law_range F_law_range T G D_law_two_range D_law_noise_range D_law_below_range g_law_range F_law_range.kp bb 60⟩
  have D_law_number : Df P w K mg base "_law_number" ["_law_purse_here", "_law_most"] 3 spNumber := ⟨_, _, g_law_number, F_law_number.kp, F_law_number.bindsN fun _ _ _ _ _ _ us hl => match us, hl with | [_, _], _ => rfl, ok_law_number F_law_number T G D_law_draw⟩
  have D_law_leaf : Df P w K mg base "_law_leaf" ["_law_purse_here", "_law_known"] 4 spLeaf := ⟨_, _, g_law_leaf, F_law_leaf.kp, F_law_leaf.bindsN fun _ _ _ _ _ _ us hl => match us, hl with | [_, _], _ => rfl, ok_law_leaf F_law_leaf T G D_law_draw D_law_number⟩
  have D_law_field : Df P w K mg base "_law_field" ["_law_purse_here", "_law_deep", "_law_known"] 13 (spField 8) :=
    have bb := F_law_field.bindsN (ps := ["_law_purse_here", "_law_deep", "_law_known"]) fun _ _ _ _ _ _ us hl => match us, hl with | [_, _, _], _ => rfl
    ⟨_, _, g_law_field, F_law_field.kp, bb, ok_law_field F_law_field T G D_law_draw D_law_leaf D_law_number g_law_field F_law_field.kp bb 8⟩
  have D_law_all_ranges : Df P w K mg base "_law_all_ranges" ["_law_field_here", "_law_area_here", "_law_bound"] 105 (spAllR 40) :=
    have bb := F_law_all_ranges.bindsN (ps := ["_law_field_here", "_law_area_here", "_law_bound"]) fun _ _ _ _ _ _ us hl => match us, hl with | [_, _, _], _ => rfl
    ⟨_, _, g_law_all_ranges, F_law_all_ranges.kp, bb, ok_law_all_ranges F_law_all_ranges T G D_law_range g_law_all_ranges F_law_all_ranges.kp bb 40⟩
  have D_law_small : Df P w K mg base "_law_small" ["_law_field_here"] 106 spSmall := ⟨_, _, g_law_small, F_law_small.kp, F_law_small.bindsN fun _ _ _ _ _ _ us hl => match us, hl with | [_], _ => rfl, ok_law_small F_law_small T G D_law_all_ranges⟩
  have D_law_rules : Df P w K mg base "_law_rules" ["_law_purse_here"] 107 spRules := ⟨_, _, g_law_rules, F_law_rules.kp, F_law_rules.bindsN fun _ _ _ _ _ _ us hl => match us, hl with | [_], _ => rfl, ok_law_rules F_law_rules T G D_law_field D_law_small D_law_draw⟩
  have D_law_grain : Df P w K mg base "_law_grain" ["_law_purse_here"] 3 (spNum 0 1000000000) := ⟨_, _, g_law_grain, F_law_grain.kp, F_law_grain.bindsN fun _ _ _ _ _ _ us hl => match us, hl with | [_], _ => rfl, ok_law_grain F_law_grain T G D_law_draw⟩
  have D_law_place : Df P w K mg base "_law_place" ["_law_purse_here"] 3 spPlace := ⟨_, _, g_law_place, F_law_place.kp, F_law_place.bindsN fun _ _ _ _ _ _ us hl => match us, hl with | [_], _ => rfl, ok_law_place F_law_place T G D_law_draw⟩
  have D_law_area : Df P w K mg base "_law_area" ["_law_purse_here", "_law_wide", "_law_deep"] 4 spArea := ⟨_, _, g_law_area, F_law_area.kp, F_law_area.bindsN fun _ _ _ _ _ _ us hl => match us, hl with | [_, _, _], _ => rfl, ok_law_area F_law_area T G D_law_place D_law_draw⟩
  have D_law_class : Df P w K mg base "_law_class" ["_law_e"] 1 (spClass K) := ⟨_, _, g_law_class, F_law_class.kp, F_law_class.bindsN fun _ _ _ _ _ _ us hl => match us, hl with | [_], _ => rfl, ok_law_class F_law_class T G⟩
  have D_law_caught : Df P w K mg base "_law_caught" ["_law_field_here", "_law_grain_here", "_law_area_here"] 64 (spCaught K) := ⟨_, _, g_law_caught, F_law_caught.kp, F_law_caught.bindsN fun _ _ _ _ _ _ us hl => match us, hl with | [_, _, _], _ => rfl, ok_law_caught F_law_caught T G DX_bounds_of D_law_class⟩
  have D_law_areas : Df P w K mg base "_law_areas" ["_law_purse_here"] 5 spAreas := ⟨_, _, g_law_areas, F_law_areas.kp, F_law_areas.bindsN fun _ _ _ _ _ _ us hl => match us, hl with | [_], _ => rfl, ok_law_areas F_law_areas T G D_law_area D_law_draw⟩
  have D_law_spots : Df P w K mg base "_law_spots" ["_law_purse_here", "_law_area_here"] 3 spSpots := ⟨_, _, g_law_spots, F_law_spots.kp, F_law_spots.bindsN fun _ _ _ _ _ _ us hl => match us, hl with | [_, _], _ => rfl, ok_law_spots F_law_spots T G D_law_draw⟩
  have D_law_all_points : Df P w K mg base "_law_all_points" ["_law_field_here", "_law_grain_here", "_law_area_here"] 64 spAllP := ⟨_, _, g_law_all_points, F_law_all_points.kp, F_law_all_points.bindsN fun _ _ _ _ _ _ us hl => match us, hl with | [_, _, _], _ => rfl, ok_law_all_points F_law_all_points T G D_law_value⟩
  have D_law_right : Df P w K mg base "_law_right" ["_law_purse_here", "_law_field_here", "_law_grain_here", "_law_area_here"] 65 spRight := ⟨_, _, g_law_right, F_law_right.kp, F_law_right.bindsN fun _ _ _ _ _ _ us hl => match us, hl with | [_, _, _, _], _ => rfl, ok_law_right F_law_right T G D_bounds_of D_law_spots D_law_range D_law_all_points D_value_at D_law_whole⟩
  exact ok_law F_law T G D_law_purse D_law_rules D_law_draw D_law_grain D_law_areas D_law_right D_law_caught
end L09
open PySem PySem.W PySem.Calls PyProof.Rows
theorem PySem.Challenge.cw_landweave_k09_bounds_holds : PySem.Challenge.rw_landweave_k09_bounds.Holds := by
  refine L09.Hd.pre fun w mg fa h Y G hmg => ?_
  obtain ⟨K, KX, c⟩ := Y
  obtain ⟨fd, hb, hF⟩ := L09.facts (P := (PySem.Challenge.rw_landweave_k09_bounds).prog) (w := w) KX G hmg c
  exact ⟨K, fd, L09.spLaw K, KX, hb, fun H a ns hl _ hS => ⟨a, ns, rfl, hS, fun _ => rfl⟩, hF⟩

