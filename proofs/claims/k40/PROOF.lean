import PyProof.Rows.All
import Wide.All
import OpenK.AllK
import Wide.FinOn
import HandS.ForMost
import HandS.ForExc
import HandS.ExcInit
import HandS.ExcField
import HandS.TryMany
import HandS.ClsMeth
import HandS.Lambda
import HandS.IsInst
import HandS.Wide
import HandS.Flow
import HandS.Defaults
import HandS.Set
import HandS.Comp
import HandS.SetBool
import HandS.TupSets
import HandS.Codes
import HandS.EndTab
import HandS.NoneIn
import HandS.WideBits
import HandS.FStr
import HandS.Iter
import HandS.Walk
import HandS.Dict
import HandS.Star
import HandS.More
import HandS.DictComp
import HandS.Style
import PyProof.Rows.StrMeet
import HandS.Deep
import HandS.Zip
import KE.GoesMore
import KE.GoesNew
import KE.KDictZip
import PyProof.ListNew
import KE.KExcInit
import PyProof.ExcBaseAll.LookupError
import HandS.Words
import HandS.Head0
import HandS.Head1
import HandS.Head2
import HandS.HeadEnd
import HandS.HeadHook1
import HandS.HeadHook2
import HandS.HeadHook3
import HandS.HeadHook4
import HandS.HeadWalk
import PySem.Challenge.RW_nevernought_k40_reckonings_nudged_and_tu
set_option Elab.async false
set_option linter.all false
/-! Whole numbers: the greatest common divisor and fractions in lowest terms. -/
namespace Nv
theorem gcd_step (a b : Int) : Int.gcd b (a.fmod b) = Int.gcd a b := by
  rw [Int.fmod_def, Int.mul_comm, Int.gcd_sub_mul_right_right, Int.gcd_comm]
theorem fmod_small (a : Int) {b : Int} (hb : b ≠ 0) : (a.fmod b).natAbs < b.natAbs := by
  have h1 := Int.emod_nonneg a hb
  have h2 := Int.emod_lt a hb
  rw [Int.fmod_eq_emod]
  split
  · omega
  · rename_i h
    have hn : ¬ b ∣ a := fun d => h (.inr d)
    have hz : a % b ≠ 0 := fun z => hn (Int.dvd_of_emod_eq_zero z)
    omega
theorem gcd_zero (a : Int) : (if a < 0 then -a else a) = ((Int.gcd a 0 : Nat) : Int) := by
  rw [Int.gcd_zero_right]
  split <;> omega
/-- what both numbers are divided by -/
def per (t b : Int) : Int := if b < 0 then -((Int.gcd t b : Nat) : Int) else ((Int.gcd t b : Nat) : Int)
def frT (t b : Int) : Int := t.fdiv (per t b)
def frB (t b : Int) : Int := b.fdiv (per t b)
theorem gcd_pos (t : Int) {b : Int} (hb : b ≠ 0) : 0 < Int.gcd t b := Int.gcd_pos_of_ne_zero_right t hb
theorem per_ne (t : Int) {b : Int} (hb : b ≠ 0) : per t b ≠ 0 := by
  have := gcd_pos t hb
  unfold per
  split <;> omega
theorem per_le (t : Int) {b : Int} (hb : b ≠ 0) : (per t b).natAbs ≤ b.natAbs := by
  have := Int.gcd_le_natAbs_right t hb
  unfold per
  split <;> omega
theorem per_dvd_l (t b : Int) : per t b ∣ t := by
  unfold per
  split
  · exact Int.neg_dvd.mpr (Int.gcd_dvd_left t b)
  · exact Int.gcd_dvd_left t b
theorem per_dvd_r (t b : Int) : per t b ∣ b := by
  unfold per
  split
  · exact Int.neg_dvd.mpr (Int.gcd_dvd_right t b)
  · exact Int.gcd_dvd_right t b
theorem fdiv_mul {x d : Int} (h : d ∣ x) : x.fdiv d * d = x := by
  rw [Int.fdiv_eq_ediv_of_dvd h]
  exact Int.ediv_mul_cancel h
theorem abs_le_of_mul {q d x : Int} (hd : d ≠ 0) (e : q * d = x) : q.natAbs ≤ x.natAbs := by
  rw [← e, Int.natAbs_mul]
  exact Nat.le_mul_of_pos_right _ (by omega)
theorem frT_le (t : Int) {b : Int} (hb : b ≠ 0) : (frT t b).natAbs ≤ t.natAbs := abs_le_of_mul (per_ne t hb) (fdiv_mul (per_dvd_l t b))
theorem frB_le (t : Int) {b : Int} (hb : b ≠ 0) : (frB t b).natAbs ≤ b.natAbs := abs_le_of_mul (per_ne t hb) (fdiv_mul (per_dvd_r t b))
theorem frB_pos (t : Int) {b : Int} (hb : b ≠ 0) : 0 < frB t b := by
  have e : frB t b * per t b = b := fdiv_mul (per_dvd_r t b)
  have hp := per_ne t hb
  have hg := gcd_pos t hb
  rcases Int.lt_or_lt_of_ne hb with h | h
  · have hn : per t b < 0 := by unfold per; rw [if_pos h]; omega
    rcases Int.lt_trichotomy (frB t b) 0 with q | q | q
    · have := Int.mul_pos_of_neg_of_neg q hn
      omega
    · rw [q, Int.zero_mul] at e
      omega
    · exact q
  · have hn : 0 < per t b := by unfold per; rw [if_neg (by omega)]; omega
    rcases Int.lt_trichotomy (frB t b) 0 with q | q | q
    · have := Int.mul_neg_of_neg_of_pos q hn
      omega
    · rw [q, Int.zero_mul] at e
      omega
    · exact q
theorem per_one (t : Int) : per t 1 = 1 := by
  unfold per
  rw [if_neg (by omega), Int.gcd_one_right]
  rfl
theorem frT_one (t : Int) : frT t 1 = t := by
  unfold frT
  rw [per_one, Int.fdiv_one]
theorem frB_one (t : Int) : frB t 1 = 1 := by
  unfold frB
  rw [per_one, Int.fdiv_one]
end Nv

set_option maxRecDepth 100000
set_option maxHeartbeats 4000000
/-! Rules that the layer lacks: great divisors of either sign, an own exception made without arguments, a def read off an own class and called, several except clauses with names. -/
namespace Nv
open PySem PySem.Spec PyProof.Rows L2
section
variable {X : Cx}
def DivOk (_ j : Int) : Prop := j ≠ 0 ∧ j.natAbs < 2 ^ 8000
theorem op_div : OpR X (binaryOp .FloorDiv) (rI DivOk fun i j => .int (i.fdiv j)) :=
  opI fun _ _ _ _ _ _ _ hc q => floordiv_int hc.1 q (.inl (PyProof.noPylong_of_log2 (Nat.lt_trans (PySem.Flt.log2_lt_of (by decide) hc.2) (by decide))))
/-- C.m(a, ..): the class at C holds the def g under m -/
theorem pe_clsdef {CX : CXT} {k : Nat} {C g : Addr} {mc : Value} {fd : FuncData} {ps : List Str} {sp : Sp} {ds : List Value} {dvs : List V} {E : XK} {o e : Expr} {es : List Expr} {m : Str} {pos apos : Pos} {ta : TE} {t : TA} {pl : Sem Bool}
    (ho : PE X o ta) (rd : ClX.CRead X.K C mc) (cv : ClX.CVal X.K C mc m (.ref g) (.ref g)) (kp : PySem.W.keepIn X.K (.ref g) = true)
    (G : FnOk X.prog X.w X.K X.mg X.base CX k g fd ps sp) (hr : Room k X.A) (hb : Binds X.K fd ps ds) (hd : Vals dvs ds) (hx : Passes CX X E) (ha : PA X (e :: es) t)
    (hst : starEach (e :: es) X.env = (false, eval e X.env) :: starEach es X.env := by rfl) (hpl : (backTo pos (starEach es X.env)).any (·.1) = false := by rfl)
    (ht : eval (.Call (.Attribute o m apos) (e :: es) [] pos) X.env = (do
      let cv ← eval o X.env
      standAt apos.atName
      let (fn, before) ← holding [cv] (getMethod cv m pl)
      callWith pos fn before (backTo pos (starEach (e :: es) X.env)) (backToKw pos (keywordEach [] X.env))) := by rfl) :
    PE X (.Call (.Attribute o m apos) (e :: es) [] pos) (fun σ H Q => ta σ H fun x H1 => x = .ref C ∧ t σ H1 fun vs H2 => sp (vs ++ dvs) H2 Q E) := by
  refine ⟨fun pins s σ H Q I h => ?_⟩
  refine PySem.W.methodCall_KW (pl := pl) (thn (ho.run pins s σ H _ I h) fun u s1 hh => ?_) ht
  obtain ⟨x, H1, I1, rx, ex, q⟩ := hh
  subst ex
  obtain rfl : u = Value.ref C := rx
  refine PySem.W.method_cls I1.kIn rd.ga (ClX.getcval_ok I1 rd cv fun s2 I2 => ?_)
  refine PySem.W.callWith_K (first := []) (h₀ := X.base) I.ok.mod.kin kp (thn (ha.run pos pins s2 σ H1 _ I2 q) fun us s3 hh => ?_) hst hpl
  obtain ⟨vs, H2, I3, rv, q2⟩ := hh
  exact ⟨I3.kIn, run_fn G hr hb hd hx I3 rv q2⟩
/-- C(), an own exception whose __init__ is a def -/
theorem pmk_bare {CX : CXT} {x : Str} {C g : Addr} {k : Nat} {fd : FuncData} {ps : List Str} {sp : Sp} {p pos : Pos} (T : OexC X.K C) (hi : PySem.W.findIn X.K (.ref C) "__init__" = some (some (.ref g)))
    (hti : PySem.W.typeIn X.K (.ref g) = some (.type "function")) (G : FnOk X.prog X.w X.K X.mg X.base CX k g fd ps sp) (hr : Room (k + 1) X.A) (hb : Binds X.K fd ps []) (hx : Passes CX X (fun _ _ _ => False))
    (hg : Gl X x) (hm : X.mg x = some (.ref C)) (hdb : (x == ("__debug__" : Str)) = false := by decide) : PMk X (.Call (.Name x p) [] [] pos) (tMkO C sp [] tNil) := by
  intro pins s σ H Q I h
  obtain ⟨nm, qn, N, bs, bm, sn, sub, ab, col, dd, a0, a1, a2, a3, a5, hC, hbm⟩ := T.cls
  refine wpAny_Call_Name_kw (ld_glob I hg hm ?_ hdb)
  refine PySem.W.callWith_K0 I.kIn T.kC ?_
  obtain ⟨hp, gs, dr, tk, os⟩ := s
  have up : hp.objs.size ≤ hp.objs.size + 1 := Nat.le_succ _
  have fresh : H (hp.objs.size + 1) = none := I.hok.fresh up
  have said := h.2 (hp.objs.size + 1) fresh
  have keep : ∀ b o, hp.get? b = some o → ((hp.push (PySem.W.kdv_tup [])).push (PySem.HandSPX.excO C hp.objs.size)).get? b = some o :=
    fun b o z => Heap.get?_push_of_some _ (Heap.get?_push_of_some _ z)
  have here : ((hp.push (PySem.W.kdv_tup [])).push (PySem.HandSPX.excO C hp.objs.size)).get? (hp.objs.size + 1) = some (PySem.HandSPX.excO C hp.objs.size) := by heap_get
  have I2 := I.laid (t' := tk) (a := hp.objs.size + 1) (o := exo (hp.objs.size + 1) C none) (h' := (hp.push (PySem.W.kdv_tup [])).push (PySem.HandSPX.excO C hp.objs.size)) keep up (exo_ok here)
  have one : Vals [V.ref (hp.objs.size + 1)] [Value.ref (hp.objs.size + 1)] := .cons rfl .nil
  have many : [Value.ref (hp.objs.size + 1)].length = ps.length := by
    have z := G.len _ _ _ _ said
    exact z
  have run := G.run (X.A.under (.builtin "type.__call__" ⟨[.ref C], []⟩)) X.stack _ _ ⟨[Value.ref (hp.objs.size + 1)], []⟩ [Value.ref (hp.objs.size + 1)] _ _ (fun _ _ _ => False) (hr.make C [] []) (I2.env0.make C [] [])
    (by have z := hb _ [Value.ref (hp.objs.size + 1)] I2.kIn many; exact z) one said
  refine wpAny_call (PySem.HandSPX.call_own F.excBase_ValueError (fun Y => PySem.HandSPX.refsVE_contains Y bm hbm) (I.kIn _ _ hC) (PySem.W.looks_findIn I.kIn hi) (fun self => PySem.W.bind_fn I.kIn self hti) (Nat.zero_le _)
    (codeAny_mono run fun r s' hq => ?_))
  cases r with
  | error er => exact hx pins σ _ _ er s' I2 hq
  | ok fl =>
    cases fl with
    | ret u =>
      obtain ⟨v, H2, os2, bare2, un2, hok2, rv, ev, d, fs, ea, ed, hd1, q2⟩ := hq
      subst ev
      obtain ⟨h2, g2, d2, t2, os'⟩ := s'
      exact ⟨rv, mk_end (raises_own T.exC T.tyC) I up keep un2 hok2 os2 bare2 ea ed hd1 q2⟩
    | next => exact False.elim hq
    | brk => exact False.elim hq
    | cont => exact False.elim hq
end
end Nv

set_option maxRecDepth 100000
set_option maxHeartbeats 4000000
namespace Nv
open PySem PySem.Spec PyProof.Rows L2
/-! Several except clauses, each with a name for what is caught (slot i), for one class or for two in a tuple; nothing leaves the last one that is told of. -/
abbrev Clause := List Value × Nat × (Addr → Value → Option Addr → TS)
def gone (i : Nat) (D : Ends) : Ends := { nx := fun σ H => D.nx (σ.set i none) H, rt := D.rt, bk := fun σ H => D.bk (σ.set i none) H, ct := fun σ H => D.ct (σ.set i none) H }
/-- whether one of the classes is told to match -/
def Hits (K : PySem.W.Frag) (cls : Value) : List Value → Bool → Prop
  | [c], b => PySem.W.exmOne K cls c = some b
  | cs, b => PySem.W.exmAny K cls cs = some b
def wNamed (K : PySem.W.Frag) (D : Ends) : List Clause → WX
  | [] => fun _ _ _ _ => False
  | (cs, i, ts) :: r => fun cls d σ H => ∃ b, Hits K cls cs b ∧ (b = true → ∀ a, H a = none → ts a cls d (gone i D) (σ.set i (some (.ref a))) H) ∧ (b = false → wNamed K D r cls d σ H)
def Suite (X : Cx) (ts : Addr → Value → Option Addr → TS) (sts : List Stmt) : Prop :=
  ∀ (a : Addr) (oe : Obj) (cls : Value) (d : Option Addr) (pn : List (Addr × Obj)), Zc cls d oe → (∃ vs, oe.data = .fields vs) → PSs (X.suite a ((a, oe) :: pn)) sts (ts a cls d)
inductive Named (X : Cx) : List ExceptHandler → List Clause → Prop
  | stop {hds : List ExceptHandler} : Named X hds []
  | one {x n : Str} {c : Value} {i : Nat} {ts : Addr → Value → Option Addr → TS} {st : Stmt} {sts : List Stmt} {q1 q2 : Pos} {hds : List ExceptHandler} {cl : List Clause} (hi : X.N[i]? = some n) (hl : X.env.kindOf n = some .local) (hc : Names X x c)
      (su : Suite X ts (st :: sts)) (r : Named X hds cl) : Named X (.ExceptHandler (some (.Name x q1)) (some n) (st :: sts) q2 :: hds) (([c], i, ts) :: cl)
  | two {x y n : Str} {c e : Addr} {i kt : Nat} {ts : Addr → Value → Option Addr → TS} {st : Stmt} {sts : List Stmt} {q1 q2 q3 qt : Pos} {hds : List ExceptHandler} {cl : List Clause} (hi : X.N[i]? = some n) (hl : X.env.kindOf n = some .local)
      (gx : Gl X x) (dx : (x == ("__debug__" : Str)) = false) (hx : X.mg x = some (.ref c)) (gy : Gl X y) (dy : (y == ("__debug__" : Str)) = false) (hy : X.mg y = some (.ref e))
      (su : Suite X ts (st :: sts)) (r : Named X hds cl) : Named X (.ExceptHandler (some (.Tuple [.Name x q1, .Name y q3] kt qt)) (some n) (st :: sts) q2 :: hds) (([.ref c, .ref e], i, ts) :: cl)
  | three {x y z n : Str} {c e g : Addr} {i kt : Nat} {ts : Addr → Value → Option Addr → TS} {st : Stmt} {sts : List Stmt} {q1 q2 q3 q4 qt : Pos} {hds : List ExceptHandler} {cl : List Clause} (hi : X.N[i]? = some n) (hl : X.env.kindOf n = some .local)
      (gx : Gl X x) (dx : (x == ("__debug__" : Str)) = false) (hx : X.mg x = some (.ref c)) (gy : Gl X y) (dy : (y == ("__debug__" : Str)) = false) (hy : X.mg y = some (.ref e)) (gz : Gl X z) (dz : (z == ("__debug__" : Str)) = false) (hz : X.mg z = some (.ref g))
      (su : Suite X ts (st :: sts)) (r : Named X hds cl) : Named X (.ExceptHandler (some (.Tuple [.Name x q1, .Name y q3, .Name z q4] kt qt)) (some n) (st :: sts) q2 :: hds) (([.ref c, .ref e, .ref g], i, ts) :: cl)
section
variable {X : Cx} {body : List Stmt} {hd : ExceptHandler} {hds : List ExceptHandler} {cl : List Clause} {pos : Pos} {tb : WX → TS}
theorem fly_keep {B h h' : Heap} {l : List Env} {a : Addr} {Z : Obj → Prop} (k : ∀ b o, h.get? b = some o → h'.get? b = some o) (fl : HandSPX.FlyingZ B l a Z h) : HandSPX.FlyingZ B l a Z h' := by
  obtain ⟨f1, f2, f3, oe, vs, T, oT, ts, g1, g2, g3, g4, g5, g6, g7, g8, g9⟩ := fl
  exact ⟨fun b o e => k b o (f1 b o e), f2, Heap.FunFrames.of_keeps (fun b o e _ => ⟨o, k b o e, rfl⟩) f3, oe, vs, T, oT, ts, k _ _ g1, g2, g3, g4, g5, g6, k _ _ g7, g8, g9⟩
/-- what stands when an exception has come down to the clauses -/
structure Down (X : Cx) (pins : List (Addr × Obj)) (σ : L2.St) (H : Hp) (a : Addr) (cls : Value) (d : Option Addr) (s : Shared) : Prop where
  free : H a = none
  loc : a ≠ X.env.locals
  frm : a ∉ X.fs
  fly : ∃ (B : Heap) (sI : Shared), Inv X pins σ H sI ∧ (∀ b o, sI.heap.get? b = some o → b ∉ frs X.stack → B.get? b = some o) ∧ sI.heap.UpToSlots s.heap ∧ HandSPX.FlyingZ B (X.env :: X.outer) a (Zc cls d) s.heap ∧ s.os = sI.os ∧ AllBare s.gens
theorem Down.keep {pins : List (Addr × Obj)} {σ : L2.St} {H : Hp} {a : Addr} {cls : Value} {d : Option Addr} {s : Shared} {h' : Heap} (Z : Down X pins σ H a cls d s) (k : ∀ b o, s.heap.get? b = some o → h'.get? b = some o) : Down X pins σ H a cls d { s with heap := h' } := by
  obtain ⟨B, sI, J, nb, up, fl, os, ag⟩ := Z.fly
  exact ⟨Z.free, Z.loc, Z.frm, B, sI, J, nb, up.trans (.of_keeps k), fly_keep k fl, os, ag⟩
theorem handle (hf : X.env.frame = some X.env.locals) (nd : X.N.Nodup) {pins : List (Addr × Obj)} {σ : L2.St} {H : Hp} {a : Addr} {cls : Value} {d : Option Addr} {D : Ends} (ok : X.Ok) :
    ∀ {hds : List ExceptHandler} {cl : List Clause}, Named X hds cl → ∀ {s : Shared}, Down X pins σ H a cls d s → wNamed X.K D cl cls d σ H → wpAny (model X.prog X.w) X.A (handleBy (.ref a) X.env hds) (SP X pins D) X.xe s := by
  intro hds cl hk
  induction hk with
  | stop => intro s Z w; exact w.elim
  | @one x n c i ts st sts q1 q2 hds2 cl2 hi hl hc su r ih =>
    intro s Z w
    obtain ⟨b, hb1, yes, no⟩ := w
    obtain ⟨B, sI, J, nb, up, fl, os, ag⟩ := Z.fly
    obtain ⟨oe, vs, he, hz, hdt⟩ := fl.there
    have I3 : Inv X pins σ H s := J.landed nb fl.1 up os ag
    have S3 := I3.suite he hdt Z.free Z.loc Z.frm
    refine wpAny_handleBy_cons (codeAny_handlers_test ?_) (by intro q; cases q)
    have kind : PySem.W.Looks (model X.prog X.w) s.heap (typeOf (.ref a)) cls := fun A Q E s k q => wpAny_typeOf_ref (k _ _ he) (by rw [hz.1]; exact q)
    have hit := PySem.W.exm_one (M := model X.prog X.w) I3.kIn kind hb1
    have named : ∀ {Q : Value → Shared → Prop} {E : Value → Shared → Prop}, Q c s → wpAny (model X.prog X.w) (X.A.mark (some (.ref a))) (eval (.Name x q1) X.env) Q E s := fun {Q E} q => by
      obtain ⟨hg, hdbg, hm | ⟨hm, hv, hnn⟩⟩ := hc
      · exact ld_glob (X := X.suite a ((a, oe) :: (X.pn ++ pins))) S3 hg hm q hdbg
      · exact ld_blt (X := X.suite a ((a, oe) :: (X.pn ++ pins))) S3 hg hm hv q hnn hdbg
    refine named (hit.here ?_)
    cases b with
    | false => exact ih Z (no rfl)
    | true =>
      refine codeAny_handlers_suite_as ?_
      refine HandSPX.lands_againZ fl fun h4 fl4 up4 => ?_
      have J4 : Inv X pins σ H { s with heap := h4 } := J.landed nb fl4.1 (up.trans up4) os ag
      obtain ⟨oe4, vs4, he4, hz4, hd4⟩ := fl4.there
      have S4 := J4.suite he4 hd4 Z.free Z.loc Z.frm
      refine store_ok (X := X.suite a ((a, oe4) :: (X.pn ++ pins))) (v := .ref a) S4 nd hi (.inl hl) rfl (fun s5 S5 => ?_) (.inr hl)
      refine wpAny_mono ((su a oe4 cls d (X.pn ++ pins) hz4 ⟨_, hd4⟩).run [] s5 _ H _ S5 (yes rfl a Z.free)) (fun f s6 hsp => ?_) (fun _ _ z => False.elim z)
      have unname : ∀ {σ6 : L2.St} {H6 : Hp} {Q : Shared → Prop}, Inv (X.suite a ((a, oe4) :: (X.pn ++ pins))) [] σ6 H6 s6 → (∀ s7, Inv X pins (σ6.set i none) H6 s7 → Q s7) →
          wpAny (model X.prog X.w) X.A (do bindName X.env n .none; unbindBehindTheSuite X.env n q2) (fun _ s7 => Q s7) X.xe s6 := fun S6 hq => gone_ok (S6.unsuite ok) nd hi hl hq
      cases f with
      | ret u =>
        obtain ⟨v6, σ6, H6, S6, r6, q6⟩ := hsp
        exact unname S6 fun s7 J7 => ⟨_, _, _, J7, r6, q6⟩
      | next =>
        obtain ⟨σ6, H6, S6, q6⟩ := hsp
        exact unname S6 fun s7 J7 => ⟨_, _, J7, q6⟩
      | brk =>
        obtain ⟨σ6, H6, S6, q6⟩ := hsp
        exact unname S6 fun s7 J7 => ⟨_, _, J7, q6⟩
      | cont =>
        obtain ⟨σ6, H6, S6, q6⟩ := hsp
        exact unname S6 fun s7 J7 => ⟨_, _, J7, q6⟩
  | @two x y n c e i kt ts st sts q1 q2 q3 qt hds2 cl2 hi hl gx dx hx gy dy hy su r ih =>
    intro s Z0 w
    obtain ⟨b, hb1, yes, no⟩ := w
    have S0 : ∃ oe, Inv (X.suite a ((a, oe) :: (X.pn ++ pins))) [] σ H s := by
      obtain ⟨B, sI, J, nb, up, fl, os, ag⟩ := Z0.fly
      obtain ⟨oe, vs, he, hz, hdt⟩ := fl.there
      exact ⟨oe, (J.landed nb fl.1 up os ag).suite he hdt Z0.free Z0.loc Z0.frm⟩
    obtain ⟨oe0, S0⟩ := S0
    refine wpAny_handleBy_cons (codeAny_handlers_test ?_) (by intro q; cases q)
    refine wpAny_Tuple_spliced (spliced_more (ld_glob (X := X.suite a ((a, oe0) :: (X.pn ++ pins))) S0 gx hx (spliced_more (ld_glob (X := X.suite a ((a, oe0) :: (X.pn ++ pins))) S0 gy hy (spliced_none ⟨(by show 2 ≤ sizeLine; decide), ?_⟩) dy)) dx))
    have Z := Z0.keep (h' := s.heap.push { cls := .type "tuple", data := .seq [Value.ref c, Value.ref e].toArray }) (fun b o z => Heap.get?_push_of_some _ z)
    have there : (s.heap.push { cls := .type "tuple", data := .seq [Value.ref c, Value.ref e].toArray }).get? s.heap.objs.size = some { cls := .type "tuple", data := .seq [Value.ref c, Value.ref e].toArray } := Heap.get?_push_size _ rfl
    obtain ⟨B, sI, J, nb, up, fl, os, ag⟩ := Z.fly
    obtain ⟨oe, vs, he, hz, hdt⟩ := fl.there
    have I3 : Inv X pins σ H _ := J.landed nb fl.1 up os ag
    have kind : PySem.W.Looks (model X.prog X.w) (s.heap.push { cls := .type "tuple", data := .seq [Value.ref c, Value.ref e].toArray }) (typeOf (.ref a)) cls := fun A Q E s k q => wpAny_typeOf_ref (k _ _ he) (by rw [hz.1]; exact q)
    have hit := PySem.W.exm_tup2 (M := model X.prog X.w) I3.kIn kind there hb1
    refine hit.here ?_
    cases b with
    | false => exact ih Z (no rfl)
    | true =>
      refine codeAny_handlers_suite_as ?_
      refine HandSPX.lands_againZ fl fun h4 fl4 up4 => ?_
      have J4 : Inv X pins σ H { s with heap := h4 } := J.landed nb fl4.1 (up.trans up4) os ag
      obtain ⟨oe4, vs4, he4, hz4, hd4⟩ := fl4.there
      have S4 := J4.suite he4 hd4 Z.free Z.loc Z.frm
      refine store_ok (X := X.suite a ((a, oe4) :: (X.pn ++ pins))) (v := .ref a) S4 nd hi (.inl hl) rfl (fun s5 S5 => ?_) (.inr hl)
      refine wpAny_mono ((su a oe4 cls d (X.pn ++ pins) hz4 ⟨_, hd4⟩).run [] s5 _ H _ S5 (yes rfl a Z.free)) (fun f s6 hsp => ?_) (fun _ _ z => False.elim z)
      have unname : ∀ {σ6 : L2.St} {H6 : Hp} {Q : Shared → Prop}, Inv (X.suite a ((a, oe4) :: (X.pn ++ pins))) [] σ6 H6 s6 → (∀ s7, Inv X pins (σ6.set i none) H6 s7 → Q s7) →
          wpAny (model X.prog X.w) X.A (do bindName X.env n .none; unbindBehindTheSuite X.env n q2) (fun _ s7 => Q s7) X.xe s6 := fun S6 hq => gone_ok (S6.unsuite ok) nd hi hl hq
      cases f with
      | ret u =>
        obtain ⟨v6, σ6, H6, S6, r6, q6⟩ := hsp
        exact unname S6 fun s7 J7 => ⟨_, _, _, J7, r6, q6⟩
      | next =>
        obtain ⟨σ6, H6, S6, q6⟩ := hsp
        exact unname S6 fun s7 J7 => ⟨_, _, J7, q6⟩
      | brk =>
        obtain ⟨σ6, H6, S6, q6⟩ := hsp
        exact unname S6 fun s7 J7 => ⟨_, _, J7, q6⟩
      | cont =>
        obtain ⟨σ6, H6, S6, q6⟩ := hsp
        exact unname S6 fun s7 J7 => ⟨_, _, J7, q6⟩
  | @three x y z n c e g i kt ts st sts q1 q2 q3 q4 qt hds2 cl2 hi hl gx dx hx gy dy hy gz dz hzz su r ih =>
    intro s Z0 w
    obtain ⟨b, hb1, yes, no⟩ := w
    have S0 : ∃ oe, Inv (X.suite a ((a, oe) :: (X.pn ++ pins))) [] σ H s := by
      obtain ⟨B, sI, J, nb, up, fl, os, ag⟩ := Z0.fly
      obtain ⟨oe, vs, he, hz, hdt⟩ := fl.there
      exact ⟨oe, (J.landed nb fl.1 up os ag).suite he hdt Z0.free Z0.loc Z0.frm⟩
    obtain ⟨oe0, S0⟩ := S0
    refine wpAny_handleBy_cons (codeAny_handlers_test ?_) (by intro q; cases q)
    refine wpAny_Tuple_spliced (spliced_more (ld_glob (X := X.suite a ((a, oe0) :: (X.pn ++ pins))) S0 gx hx (spliced_more (ld_glob (X := X.suite a ((a, oe0) :: (X.pn ++ pins))) S0 gy hy (spliced_more (ld_glob (X := X.suite a ((a, oe0) :: (X.pn ++ pins))) S0 gz hzz (spliced_none ⟨(by show 3 ≤ sizeLine; decide), ?_⟩) dz)) dy)) dx))
    have Z := Z0.keep (h' := s.heap.push { cls := .type "tuple", data := .seq [Value.ref c, Value.ref e, Value.ref g].toArray }) (fun b o z => Heap.get?_push_of_some _ z)
    have there : (s.heap.push { cls := .type "tuple", data := .seq [Value.ref c, Value.ref e, Value.ref g].toArray }).get? s.heap.objs.size = some { cls := .type "tuple", data := .seq [Value.ref c, Value.ref e, Value.ref g].toArray } := Heap.get?_push_size _ rfl
    obtain ⟨B, sI, J, nb, up, fl, os, ag⟩ := Z.fly
    obtain ⟨oe, vs, he, hz, hdt⟩ := fl.there
    have I3 : Inv X pins σ H _ := J.landed nb fl.1 up os ag
    have kind : PySem.W.Looks (model X.prog X.w) (s.heap.push { cls := .type "tuple", data := .seq [Value.ref c, Value.ref e, Value.ref g].toArray }) (typeOf (.ref a)) cls := fun A Q E s k q => wpAny_typeOf_ref (k _ _ he) (by rw [hz.1]; exact q)
    have hit := PySem.W.exm_tup3 (M := model X.prog X.w) I3.kIn kind there hb1
    refine hit.here ?_
    cases b with
    | false => exact ih Z (no rfl)
    | true =>
      refine codeAny_handlers_suite_as ?_
      refine HandSPX.lands_againZ fl fun h4 fl4 up4 => ?_
      have J4 : Inv X pins σ H { s with heap := h4 } := J.landed nb fl4.1 (up.trans up4) os ag
      obtain ⟨oe4, vs4, he4, hz4, hd4⟩ := fl4.there
      have S4 := J4.suite he4 hd4 Z.free Z.loc Z.frm
      refine store_ok (X := X.suite a ((a, oe4) :: (X.pn ++ pins))) (v := .ref a) S4 nd hi (.inl hl) rfl (fun s5 S5 => ?_) (.inr hl)
      refine wpAny_mono ((su a oe4 cls d (X.pn ++ pins) hz4 ⟨_, hd4⟩).run [] s5 _ H _ S5 (yes rfl a Z.free)) (fun f s6 hsp => ?_) (fun _ _ z => False.elim z)
      have unname : ∀ {σ6 : L2.St} {H6 : Hp} {Q : Shared → Prop}, Inv (X.suite a ((a, oe4) :: (X.pn ++ pins))) [] σ6 H6 s6 → (∀ s7, Inv X pins (σ6.set i none) H6 s7 → Q s7) →
          wpAny (model X.prog X.w) X.A (do bindName X.env n .none; unbindBehindTheSuite X.env n q2) (fun _ s7 => Q s7) X.xe s6 := fun S6 hq => gone_ok (S6.unsuite ok) nd hi hl hq
      cases f with
      | ret u =>
        obtain ⟨v6, σ6, H6, S6, r6, q6⟩ := hsp
        exact unname S6 fun s7 J7 => ⟨_, _, _, J7, r6, q6⟩
      | next =>
        obtain ⟨σ6, H6, S6, q6⟩ := hsp
        exact unname S6 fun s7 J7 => ⟨_, _, J7, q6⟩
      | brk =>
        obtain ⟨σ6, H6, S6, q6⟩ := hsp
        exact unname S6 fun s7 J7 => ⟨_, _, J7, q6⟩
      | cont =>
        obtain ⟨σ6, H6, S6, q6⟩ := hsp
        exact unname S6 fun s7 J7 => ⟨_, _, J7, q6⟩
theorem ps_try_named (hs : X.stack = X.env :: X.outer) (hf : X.env.frame = some X.env.locals) (nd : X.N.Nodup)
    (hb : ∀ (W : WX) (pn : List (Addr × Obj)) (xe : Value → Shared → Prop), Takes (X.tr pn xe) W → PassesOwn (model X.prog X.w) X.A X.env xe → PSs (X.tr pn xe) body (tb W)) (hh : Named X (hd :: hds) cl) :
    PS X (.Try body (hd :: hds) [] [] pos) (fun D σ H => tb (wNamed X.K D cl) D σ H) := by
  refine ⟨fun pins s σ H D I h => ?_⟩
  have ok := I.ok
  have hfr : X.A.frames = some (X.env :: X.outer) := by rw [ok.frames, hs]
  refine wpAny_Try_except ?_
  have inner := hb (wNamed X.K D cl) (X.pn ++ pins) (fun e s₁ => wpAny (model X.prog X.w) X.A (noteFrame e X.env) (fun _ s₂ => wpAny (model X.prog X.w) X.A (setFlight e none) (fun _ s₃ =>
    wpAny (model X.prog X.w) X.A (handleBy e X.env (hd :: hds)) (SP X pins D) X.xe s₃) X.xe s₂) X.xe s₁) (fun u s' xx => by
      obtain ⟨a, B, sI, pins', σ', H', cls, d, rfl, J', nb, up, sky, na, os, ag, w⟩ := xx
      have J : Inv X pins σ' H' sI := J'.ofTry ok
      rw [hs] at sky
      refine Sky.land Zc.steady hfr hf sky fun h3 fl3 up3 => ?_
      obtain ⟨oe3, vs3, he3, hz3, hd3⟩ := fl3.there
      have nfr : a ∉ frs (X.env :: X.outer) := fun hm => by
        obtain ⟨_, o', e', hnf⟩ := fl3.2.2.1.mem hm
        rw [he3] at e'
        cases e'
        exact hnf _ hd3
      refine handle hf nd (D := D) ok hh ⟨na, fun z => nfr (List.mem_filterMap.mpr ⟨X.env, List.mem_cons_self, by rw [hf, z]⟩), fun hm => ?_, B, sI, J, nb, up.trans up3, fl3, os, ag⟩ w
      obtain ⟨e, hin, q⟩ := List.mem_filterMap.mp hm
      exact nfr (List.mem_filterMap.mpr ⟨e, List.mem_cons_of_mem _ hin, q⟩)) PassesOwn.looking
  refine wpAny_mono (inner.run [] s σ H D (I.toTry _) h) (fun f s1 hsp => ?_) (fun e s1 he => he)
  cases f with
  | ret u =>
    obtain ⟨v, σ', H', J', r, q⟩ := hsp
    exact ⟨v, σ', H', J'.ofTry ok, r, q⟩
  | next =>
    obtain ⟨σ', H', J', q⟩ := hsp
    exact wpAny_execs_nil ⟨σ', H', J'.ofTry ok, q⟩
  | brk =>
    obtain ⟨σ', H', J', q⟩ := hsp
    exact ⟨σ', H', J'.ofTry ok, q⟩
  | cont =>
    obtain ⟨σ', H', J', q⟩ := hsp
    exact ⟨σ', H', J'.ofTry ok, q⟩
end
end Nv

set_option maxRecDepth 100000
set_option maxHeartbeats 4000000
/-! Sets of texts: made, added to, comprehended, sorted. -/
namespace NvSet
open PySem PySem.Spec PyProof.Rows L2
/-- the text of a member -/
def txOf (e : Int × Value) : Str := match e.2 with
  | .str x _ => x
  | _ => ""
/-- a member of a set of texts: the text and its hash in this world -/
structure Mem (w : World) (e : Int × Value) : Prop where
  is : ∃ x t, e = (hashStr w x, Value.str x t)
/-- a set that can be walked is so laid -/
structure Walk' (w : World) (tb : SetTable) (n : Nat) : Prop where
  fit : tb.fits n = true
  ris : Ris tb.place.toList
  led : w.params.followText "set-order" = true ∨ tb.led = true
/-- the set of texts at a, its members xs in some order -/
structure Txs (w : World) (h : Heap) (a : Addr) (xs : List Str) : Prop where
  ex : ∃ ob es ep tb, h.get? a = some ob ∧ ob.ExactSet ∧ ob.data = .set es ep tb ∧ (∀ e ∈ es.toList, Mem w e) ∧ (es.toList.map txOf).Perm xs ∧ xs.Nodup ∧ es.size < scanBound ∧ Walk' w tb es.size
/-- a text more -/
def more (x : Str) (xs : List Str) : List Str := if x ∈ xs then xs else x :: xs
section
variable {P : Program} {w : World} {h h' : Heap} {a : Addr} {xs : List Str}
theorem Mem.tx {e : Int × Value} (m : Mem w e) : ∃ t, e.2 = Value.str (txOf e) t ∧ e.1 = hashStr w (txOf e) := by
  obtain ⟨x, t, rfl⟩ := m.is
  exact ⟨t, rfl, rfl⟩
theorem str_is (x : Str) (t : Tok) : (strKind P w).is x (.str x t) = true := by show Value.isStrOf x (.str x t) = true; simp [Value.isStrOf]
theorem mem_elems {l : List (Int × Value)} (g : ∀ e ∈ l, Mem w e) : ElemsOf (strKind P w) l := fun e he => by
  obtain ⟨x, t, rfl⟩ := (g e he).is
  exact ⟨⟨x, str_is x t, rfl⟩, rfl⟩
theorem mem_is {e : Int × Value} (m : Mem w e) (x : Str) : (strKind P w).is x e.2 = true ↔ txOf e = x := by
  obtain ⟨y, t, rfl⟩ := m.is
  constructor
  · intro q
    exact (strKind P w).inj _ _ _ (str_is y t) q
  · rintro rfl
    exact str_is _ t
theorem Txs.keeps (R : Txs w h a xs) (k : ∀ o, h.get? a = some o → h'.get? a = some o) : Txs w h' a xs := by
  obtain ⟨ob, es, ep, tb, h1, r⟩ := R.ex
  exact ⟨ob, es, ep, tb, k ob h1, r⟩
theorem Txs.there (R : Txs w h a xs) : ∃ o, h.get? a = some o := by
  obtain ⟨ob, es, ep, tb, h1, r⟩ := R.ex
  exact ⟨ob, h1⟩
theorem Txs.type {s : Shared} (R : Txs w s.heap a xs) : s.TypeIs (.ref a) "set" := by
  obtain ⟨ob, es, ep, tb, h1, h2, _⟩ := R.ex
  exact ⟨ob, h1, h2.1⟩
theorem Txs.nodict (R : Txs w h a xs) : ∀ b, Value.ref a = .ref b → ∃ ob, h.get? b = some ob ∧ ob.dict = none := fun b e => by
  obtain ⟨ob, es, ep, tb, h1, h2, _⟩ := R.ex
  cases e
  exact ⟨ob, h1, h2.2.1⟩
theorem more_nodup {x : Str} (n : xs.Nodup) : (more x xs).Nodup := by
  unfold more
  split
  · exact n
  · exact List.nodup_cons.mpr ⟨‹_›, n⟩
theorem mem_more {x y : Str} : y ∈ more x xs ↔ y = x ∨ y ∈ xs := by
  unfold more
  split
  · exact ⟨.inr, fun z => z.elim (fun e => e ▸ ‹_›) id⟩
  · exact List.mem_cons
end
section
variable {P : Program} {w : World} {A : Around} {E : Value → Shared → Prop} {s : Shared} {a : Addr} {xs : List Str}
/-- what stands behind a member's laying -/
theorem lay_end {give : Bool → Sem Unit} (hgive : ∀ (b : Bool) (z : Shared) (R : Unit → Shared → Prop), R () z → wpAny (model P w) A (give b) R E z) {ob : Obj} {es fs : Array (Int × Value)} {ep : Nat} {tb tc : SetTable} {ys : List Str} (h1 : s.heap.get? a = some ob) (h2 : ob.ExactSet) (h3 : ob.data = .set es ep tb)
    (m : ∀ e ∈ fs.toList, Mem w e) (pm : (fs.toList.map txOf).Perm ys) (nd : ys.Nodup) (sm : fs.size < scanBound) (wk : Walk' w tc fs.size) {dm : Bool} {G : Option Bool → Shared → Prop}
    (k : ∀ hp, Heap.SameBut a s.heap hp → Txs w hp a ys → G (some true) { s with heap := hp }) :
    wpAny (model P w) A (do
        storeSet a fs tc
        if (!dm && tc.tooFull) = true then do
            give (relayAll tc fs (SetTable.grown fs.size)).2.2
            storeSet a (relayAll tc fs (SetTable.grown fs.size)).1 (relayAll tc fs (SetTable.grown fs.size)).2.1
            pure (some true)
          else pure (some true)) G E s := by
  refine wpAny_bind (wpAny_storeSet_of h1 h3 ?_ (fits_of_scanBound sm))
  have g1 := store_at (es' := fs) (t' := tc) h1 h3
  have u1 := Heap.SameBut.update s.heap a (Obj.putSet fs tc)
  split
  · have r1 := relayAll_perm tc fs (SetTable.grown fs.size)
    have r2 : Walk' w (relayAll tc fs (SetTable.grown fs.size)).2.1 (relayAll tc fs (SetTable.grown fs.size)).1.size := ⟨relayAll_fits tc fs (SetTable.grown fs.size), relayAll_ris tc fs (SetTable.grown fs.size), wk.led.imp id fun z => (relayAll_led tc fs (SetTable.grown fs.size)).trans z⟩
    generalize relayAll tc fs (SetTable.grown fs.size) = Y at r1 r2 ⊢
    obtain ⟨gs, td, gv⟩ := Y
    have z1 : gs.size = fs.size := by simpa using r1.length_eq
    have z2 : gs.size < scanBound := z1 ▸ sm
    refine wpAny_bind (hgive _ _ _ (wpAny_bind (wpAny_storeSet_of g1 rfl ?_ (fits_of_scanBound z2))))
    have g2 := store_at (es' := gs) (t' := td) g1 rfl
    exact wpAny_pure (k _ (u1.trans (Heap.SameBut.update _ a _)) ⟨_, gs, _, td, g2, h2, rfl, fun e he => m e (r1.mem_iff.mp he), (r1.map txOf).trans pm, nd, z2, r2⟩)
  · exact wpAny_pure (k _ u1 ⟨_, fs, _, tc, g1, h2, rfl, m, pm, nd, sm, wk⟩)
theorem add_laid {x : Str} {t : Tok} {Q : Bool → Shared → Prop} (R : Txs w s.heap a xs) (room : xs.length + 1 < scanBound) (k : ∀ hp b, Heap.SameBut a s.heap hp → Txs w hp a (more x xs) → Q b { s with heap := hp }) :
    wpAny (model P w) A (setAddHashed a (.str x t) ((strKind P w).hash x)) Q E s := by
  obtain ⟨ob, es, ep, tb, h1, h2, h3, m, pm, nd, sm, wk⟩ := R.ex
  have kx : (strKind P w).is x (.str x t) = true := str_is x t
  have sc : (Value.str x t).scannable = true := rfl
  have el : ElemsOf (strKind P w) es.toList := mem_elems m
  unfold setAddHashed setAddHashedIn
  refine wpAny_holding (wpAny_bind (wpAny_setState_of h1 h3 wk.fit ?_))
  dsimp only
  rw [byScan_of sc sm el]
  simp only [↓reduceIte]
  unfold setAddByScan
  refine wpAny_bind (wpAny_bind (wpAny_rule (wpAny_bind (wpAny_setScan_of kx h1 h3 wk.fit el ?_))))
  have inn : x ∈ xs ↔ ∃ e ∈ es.toList, (strKind P w).is x e.2 = true := by
    rw [← pm.mem_iff, List.mem_map]
    exact ⟨fun ⟨e, he, q⟩ => ⟨e, he, (mem_is (m e he) x).2 q⟩, fun ⟨e, he, q⟩ => ⟨e, he, (mem_is (m e he) x).1 q⟩⟩
  cases hf : List.findIdx? (fun e => (strKind P w).is x e.2) es.toList with
  | some j =>
    obtain ⟨hj, pj, _⟩ := List.findIdx?_eq_some_iff_getElem.mp hf
    have hx : x ∈ xs := inn.2 ⟨es.toList[j], List.getElem_mem hj, pj⟩
    refine wpAny_pure (wpAny_pure (k s.heap _ (Heap.SameBut.refl a s.heap) ?_))
    unfold more
    rw [if_pos hx]
    exact R
  | none =>
    have hx : x ∉ xs := fun z => by
      obtain ⟨e, he, q⟩ := inn.1 z
      have c := List.findIdx?_eq_none_iff.mp hf e he
      rw [q] at c
      cases c
    have gw : ∀ (b : Bool) {z : Shared} {G : Unit → Shared → Prop}, G () z → wpAny (model P w) A (match b with | true => rule "set.scan.the-table-gave-way" | false => pure ()) G E z :=
      fun b z G q => by cases b <;> first | exact wpAny_pure q | exact wpAny_rule q
    have l1 := layNew_perm tb es ((strKind P w).hash x) (.str x t)
    have l2 := layNew_fits tb es ((strKind P w).hash x) (.str x t)
    have l3 := layNew_ris tb es ((strKind P w).hash x) (.str x t) wk.ris
    have l4 := layNew_led tb es ((strKind P w).hash x) (.str x t)
    generalize layNew tb es ((strKind P w).hash x) (.str x t) = Y at l1 l2 l3 l4 ⊢
    obtain ⟨fs, tc, dm, gv⟩ := Y
    dsimp only at l1 l2 l3 l4 ⊢
    rw [Array.toList_push] at l1
    have pc := l1.trans (List.perm_append_singleton _ _)
    have m2 : ∀ e ∈ fs.toList, Mem w e := fun e he => by
      rcases List.mem_cons.mp (pc.mem_iff.mp he) with z | z
      · exact ⟨x, t, z⟩
      · exact m e z
    have p2 : (fs.toList.map txOf).Perm (more x xs) := by
      unfold more
      rw [if_neg hx]
      exact (pc.map txOf).trans (List.Perm.cons x pm)
    have z1 : fs.size = xs.length + 1 := by
      have := p2.length_eq
      unfold more at this
      rw [if_neg hx] at this
      simpa using this
    have z2 : fs.size < scanBound := z1 ▸ room
    have ld : w.params.followText "set-order" = true ∨ tc.led = true := wk.led.imp id fun z => l4.trans z
    refine wpAny_bind (gw _ ?_)
    split
    · refine wpAny_bind ?_
      rw [hashByValue_scannable 8 sc]
      refine wpAny_pure ?_
      refine lay_end ?_ h1 h2 h3 m2 p2 (more_nodup nd) z2 ?_ ?_
      · intro b z G q; cases b <;> first | exact wpAny_pure q | exact wpAny_rule q
      · split
        · exact ⟨by first | exact SetTable.fits_plain_off l2 | exact l2, l3, ld⟩
        · exact ⟨by first | exact l2 | exact SetTable.fits_plain_off l2, l3, ld⟩
      · intro hp sb r; exact wpAny_pure (k hp _ sb r)
    · refine wpAny_bind (wpAny_pure ?_)
      simp only [↓reduceIte]
      refine lay_end ?_ h1 h2 h3 m2 p2 (more_nodup nd) z2 ⟨l2, l3, ld⟩ ?_
      · intro b z G q; cases b <;> first | exact wpAny_pure q | exact wpAny_rule q
      · intro hp sb r; exact wpAny_pure (k hp _ sb r)
end
end NvSet

set_option maxRecDepth 100000
set_option maxHeartbeats 4000000
namespace NvSet
open PySem PySem.Spec PyProof.Rows L2
/-- the tracked set of texts -/
def TxO (w : World) (a : Addr) (xs : List Str) : HO := .ext fun h => Txs w h a xs
/-- a set's object when it is new -/
def newS (w : World) : Obj := { cls := .type "set", dict := none, data := .set #[] 0 (.fresh 0 0 (!w.params.followText "set-order")) }
theorem txs_new {w : World} {h : Heap} {a : Addr} (e : h.get? a = some (newS w)) : Txs w h a [] :=
  ⟨_, #[], 0, _, e, ⟨rfl, rfl, rfl⟩, rfl, (fun x hx => by simp at hx), List.Perm.nil, List.nodup_nil, by decide, ⟨rfl, List.Pairwise.nil, by
    show _ ∨ (!w.params.followText "set-order") = true
    cases w.params.followText "set-order"
    · exact .inr rfl
    · exact .inl rfl⟩⟩
theorem txo_ok {P : Program} {w : World} {H : Hp} {h : Heap} {a : Addr} {xs : List Str} (R : Txs w h a xs) : ObjOk P w H h a (TxO w a xs) := ⟨R, R.there, fun _ _ p k => p.keeps k⟩
/-- so many texts, from the first on -/
def gather : List Str → List Str
  | [] => []
  | x :: r => more x (gather r)
theorem mem_gather {y : Str} : ∀ {xs : List Str}, y ∈ gather xs ↔ y ∈ xs
  | [] => Iff.rfl
  | x :: r => by
    show y ∈ more x (gather r) ↔ _
    rw [mem_more, mem_gather, List.mem_cons]
theorem gather_len : ∀ xs : List Str, (gather xs).length ≤ xs.length
  | [] => Nat.le_refl _
  | x :: r => by
    have := gather_len r
    show (more x (gather r)).length ≤ r.length + 1
    unfold more
    split
    · omega
    · rw [List.length_cons]
      omega
section
variable {P : Program} {w : World} {A : Around} {E : Value → Shared → Prop} {s : Shared} {a : Addr} {xs : List Str}
/-- found.add(x) -/
theorem add_call {x : Str} {t : Tok} {Q : Value → Shared → Prop} (R : Txs w s.heap a xs) (room : xs.length + 1 < scanBound)
    (k : ∀ hp, Heap.SameBut a s.heap hp → Txs w hp a (more x xs) → Q .none { s with heap := hp, toks := s.toks + 1 }) :
    wpAny (model P w) A (call (.builtin "set.add") [.ref a, .str x t]) Q E s := by
  refine wpAny_call_entry F.slot_set_add R.type F.entry_set_add ?_ (F.args_set_add_2 _ _)
  unfold Builtin.«set.add» Builtin.Frozenset.oneOther
  simp only [List.isEmpty_nil, bind_assoc]
  unfold Builtin.Frozenset.addrOf setAdd
  refine wpAny_bind (wpAny_pure ?_)
  try dsimp only
  refine wpAny_bind (wpAny_pure ?_)
  try dsimp only
  refine wpAny_bind (wpAny_holding (wpAny_bind ((strKind P w).pyHash (str_is x t) ?_)))
  exact add_laid (s := { s with toks := s.toks + 1 }) R room fun hp b sb r => (show wpAny _ _ (ret Value.none) _ _ _ from wpAny_pure ⟨_, rfl, k hp sb r⟩)
/-- the loop behind set(xs): n texts, of which i are in -/
theorem update_loop {I : Addr} {fp wr : List Addr} {G : Array GenState → Array GenState → Prop} {n : Nat} {Pv : Nat → Value → Prop} {St : Nat → Shared → Prop} {R : Result → Shared → Prop} (W : WalksS P w A.in1 I fp wr G n Pv St) (S : Addr) (hSf : S ∉ fp) (ks : List Str) (hn : n = ks.length)
    (few : ks.length < 1000) (hval : ∀ i v, Pv i v → ∃ x t, ks[i]? = some x ∧ v = .str x t) (h0 : Heap) (free : ∀ b ∈ S :: wr, h0.get? b = none) :
    ∀ (j i : Nat) (s : Shared) (ys : List Str), i + j = n → St i s → (∀ b o, h0.get? b = some o → s.heap.get? b = some o) → Txs w s.heap S ys → ys.length ≤ i → (∀ y, y ∈ ys ↔ y ∈ ks.take i) →
      (∀ z ys, Moved (S :: wr) G s z → Txs w z.heap S ys → (∀ y, y ∈ ys ↔ y ∈ ks) → (∀ b o, h0.get? b = some o → z.heap.get? b = some o) → R (.ok (.ret .none)) z) →
      codeAny (model P w) A (.builtin "set.update.loop" ⟨[.ref S, .ref I], []⟩) R s := by
  have sw : S ∉ wr := fun z => hSf (W.sub _ z)
  have up : ∀ b ∈ wr, b ∈ S :: wr := fun b hb => List.mem_cons_of_mem _ hb
  have stay : ∀ {u v : Shared}, Moved wr G u v → (∀ b o, h0.get? b = some o → u.heap.get? b = some o) → ∀ b o, h0.get? b = some o → v.heap.get? b = some o := fun mv kp b o e =>
    mv.heap b o (fun z => by rw [free b (up b z)] at e; cases e) (kp b o e)
  intro j
  induction j with
  | zero =>
    intro i s ys hij st kp T _ hy hR
    obtain rfl : i = n := by omega
    refine codeAny_builtin F.entry_set_update_loop ?_
    rw [Around.under_plainId F.plain_set_update_loop _]
    show wpAny _ A.in1 (pyNext (.ref I) >>= _) _ _ s
    refine wpAny_bind (W.done s _ _ st fun z mv => ?_)
    show wpAny _ A.in1 (ret Value.none) _ _ z
    refine wpAny_pure (hR z ys (mv.mono up) (T.keeps fun o e => mv.heap S o sw e) (fun y => ?_) (stay mv kp))
    rw [hy y, hn, List.take_length]
  | succ j ih =>
    intro i s ys hij st kp T hl hy hR
    refine codeAny_builtin F.entry_set_update_loop ?_
    rw [Around.under_plainId F.plain_set_update_loop _]
    show wpAny _ A.in1 (pyNext (.ref I) >>= _) _ _ s
    refine wpAny_bind (W.item i s _ _ (by omega) st fun v z hv st2 mv => ?_)
    obtain ⟨x, t, hx, rfl⟩ := hval i v hv
    show wpAny _ A.in1 (holding [Value.str x t] (setAdd S (.str x t)) >>= _) _ _ z
    refine wpAny_bind (wpAny_holding ?_)
    unfold setAdd
    refine wpAny_holding (wpAny_bind ((strKind P w).pyHash (str_is x t) ?_))
    have T2 : Txs w z.heap S ys := T.keeps fun o e => mv.heap S o sw e
    refine add_laid (s := { z with toks := z.toks + 1 }) T2 (by unfold scanBound; omega) fun hp b sb T3 => ?_
    refine wpAny_pure ⟨plainId_quiet F.plain_set_update_loop _, ih (i + 1) _ (more x ys) (by omega) (W.frame _ z _ _ st2 (Nat.le_add_right _ _) fun b hb o e => ?_) (fun b o e => ?_) T3 ?_ (fun y => ?_) fun z2 ys2 mv2 T4 hy2 kp2 => ?_⟩
    · exact (sb.2 b (fun q : b = S => hSf (q ▸ hb))).trans e
    · exact (sb.2 b (fun q : b = S => by rw [q, free S List.mem_cons_self] at e; cases e)).trans (stay mv kp b o e)
    · unfold more
      split
      · omega
      · rw [List.length_cons]
        omega
    · rw [mem_more, hy y, List.take_add_one, hx]
      show _ ↔ y ∈ List.take i ks ++ [x]
      rw [List.mem_append, List.mem_singleton]
      exact Or.comm
    · refine hR z2 ys2 (Moved.trans W.gtrans ((mv.mono up).then_heap (Nat.le_add_right _ _) fun b o hb e => ?_) mv2) T4 hy2 kp2
      exact (sb.2 b (fun q : b = S => hb (q ▸ List.mem_cons_self))).trans e
/-- sorted(set) -/
theorem sorted_txs {Q : Value → Shared → Prop} (R : Txs w s.heap a xs) (hh : A.handled = none) (few : xs.length < 64)
    (k : ∀ z p (out : Array Value) (c : Nat) (ys : List Str), (∀ b o, s.heap.get? b = some o → z.heap.get? b = some o) → z.gens = s.gens → z.os = s.os → s.heap.objs.size ≤ p → z.heap.get? p = some (seqObj "list" out c) →
      StrsAre out.toList ys → ys.Perm xs → sortedS ys = true → Q (.ref p) z) : wpAny (model P w) A (call (.builtin "sorted") [.ref a]) Q E s := by
  obtain ⟨ob, es, ep, tb, h1, h2, h3, m, pm, nd, sm, wk⟩ := R.ex
  refine Calls.call_function_entry kind_sorted plain_sorted entry_sorted (args_sorted1 _) ?_
  unfold Builtin.«sorted»
  refine wpAny_bind (m := checkCount "sorted" 1 1 _) (wpAny_pure (wpAny_bind (collect_set (A := A.in1) hh ⟨ob, h1, h2.1, h3⟩ wk.fit sm wk.ris wk.led fun z vs k1 hz g1 o1 pv => ?_)))
  have allS : ∀ l : List Value, (∀ v ∈ l, ∃ e, Mem w e ∧ v = e.2) → ∃ ys, StrsAre l ys ∧ ∀ f : Value → Str, (∀ e, Mem w e → f e.2 = txOf e) → ys = l.map f := by
    intro l
    induction l with
    | nil => intro _; exact ⟨[], .nil, fun _ _ => rfl⟩
    | cons v l ih =>
      intro hv
      obtain ⟨ys, h1, h2⟩ := ih fun u hu => hv u (List.mem_cons_of_mem _ hu)
      obtain ⟨e, me, rfl⟩ := hv v List.mem_cons_self
      obtain ⟨t, e1, _⟩ := me.tx
      refine ⟨txOf e :: ys, ?_, fun f hf => ?_⟩
      · rw [e1]
        exact .cons _ _ h1
      · rw [List.map_cons, hf e me, ← h2 f hf]
  obtain ⟨ys, sy, fy⟩ := allS vs fun v hv => by
    obtain ⟨e, he, q⟩ := List.mem_map.mp (pv.mem_iff.mp hv)
    exact ⟨e, m e he, q.symm⟩
  have ey := fy (fun v => match v with | .str x _ => x | _ => "") (fun e me => rfl)
  have py : ys.Perm xs := by
    rw [ey]
    refine (pv.map _).trans ?_
    rw [List.map_map]
    exact pm
  have lv : vs.length = xs.length := by rw [← py.length_eq, ey, List.length_map]
  refine wpAny_bind (wpAny_newList ?_ (by rw [lv, sizeLine_eq]; omega))
  have hoL : (z.heap.push (seqObj "list" vs.toArray 0)).get? z.heap.objs.size = some (seqObj "list" vs.toArray 0) := Heap.get?_push_size _ rfl
  refine wpAny_bind (wpAny_holding (wpAny_call_entry slot_list_sort ⟨_, hoL, rfl⟩ entry_list_sort (list_sort_treeK strKind_oneLt hoL sy.keysOf (fun v₁ v₂ rest e => keyKind_strs (by rw [← e]; exact sy)) (by rw [lv]; exact few) fun st a1 a2 => ⟨_, rfl, ?_⟩) (args_list_sort _)))
  obtain ⟨ys', b1, b2, b3⟩ := sorted_out_str sy a1 a2
  obtain ⟨c, hc⟩ := sortedHeap_at (vs := vs) (out := (arrOf st).map (·.2)) hoL
  refine wpAny_pure ⟨_, rfl, k _ z.heap.objs.size _ c ys' (fun b u e => ?_) g1 o1 hz hc b1 (b2.trans py) b3⟩
  have q := k1 b u e
  have hlt := Heap.lt_size q
  show (sortedHeap (z.heap.push (seqObj "list" vs.toArray 0)) z.heap.objs.size vs _).get? b = some u
  exact (sortedHeap_old (Nat.ne_of_lt hlt) (by rw [size_push']; exact Nat.lt_succ_of_lt hlt)).trans (Heap.get?_push_of_some _ q)
end
end NvSet

set_option maxRecDepth 100000
set_option maxHeartbeats 8000000
namespace NvSet
open PySem PySem.Spec PyProof.Rows L2
section
variable {P : Program} {w : World} {A : Around} {E : Value → Shared → Prop} {s : Shared}
/-- set(xs) of a list of texts -/
theorem set_call {l : Addr} {items : Array Value} (ks : List Str) {Q : Value → Shared → Prop} (hh : A.handled = none) (hl : s.heap.IsList l items) (hlen : items.size = ks.length) (hval : ∀ (i : Nat) (v : Value), items[i]? = some v → ∃ x t, ks[i]? = some x ∧ v = Value.str x t) (few : ks.length < 1000)
    (k : ∀ (hp : Heap) (tk : Nat) ys, Txs w hp s.heap.objs.size ys → (∀ y, y ∈ ys ↔ y ∈ ks) → (∀ b o, s.heap.get? b = some o → hp.get? b = some o) → Q (.ref s.heap.objs.size) { s with heap := hp, toks := tk }) :
    wpAny (model P w) A (call (.type "set") [.ref l]) Q E s := by
  obtain ⟨c, tl, hmro⟩ := F.called_set.mro
  have hmade := F.called_set.made
  have hsub := F.called_set.sub
  refine wpAny_call (codeAny_of_tree ?_)
  show wpAny _ _ (callAny (.type "set") _) _ _ _
  refine wpAny_pure ⟨Code.quiet_builtin _ (by decide +kernel), codeAny_builtin F.entry_type_call ?_⟩
  rw [Around.under_plain (weight_type_call_type "set" [.ref l] []) rfl]
  have h1 := F.called_set.notType
  have h2 := F.called_set.canCreate
  have hct := F.typeCall_set_1 (.ref l)
  repeat (any_goals (first | assumption | wp_step))
  refine codeAny_mono (code_set_led1 (.ref l) (E := E) (Q₁ := fun obj z => obj = .ref s.heap.objs.size ∧ z = { s with heap := s.heap.push (newS w) }) ⟨rfl, rfl⟩) fun r z hr => ?_
  cases r with
  | error e => exact hr
  | ok fl =>
    cases fl with
    | ret obj =>
      obtain ⟨rfl, rfl⟩ := hr
      have at0 : (s.heap.push (newS w)).get? s.heap.objs.size = some (newS w) := Heap.get?_push_size _ rfl
      have ty0 : Shared.TypeIs { s with heap := s.heap.push (newS w) } (.ref s.heap.objs.size) "set" := ⟨_, at0, rfl⟩
      have hli := F.called_set.init.lookup
      have hbi := F.called_set.init.bind (.ref s.heap.objs.size)
      repeat (any_goals (first | assumption | wp_step))
      refine codeAny_mono (codeAny_call_builtin (R := wants (fun r z => r = .none ∧ ∃ hp tk ys, z = { s with heap := hp, toks := tk } ∧ Txs w hp s.heap.objs.size ys ∧ (∀ y, y ∈ ys ↔ y ∈ ks) ∧ ∀ b o, s.heap.get? b = some o → hp.get? b = some o) E)
        F.called_set.init.plain F.entry_set_init (check_set_init_1 ty0 ?_)) fun r z hr => ?_
      · obtain ⟨ol, hol, hcl, nl, hdl⟩ := hl
        obtain ⟨ocls, odict, odata, oslots⟩ := ol
        simp only at hcl hdl
        subst hcl; subst hdl
        have hol' : (s.heap.push (newS w)).get? l = some { cls := .type "list", dict := odict, data := .seq items nl, slots := oslots } := Heap.get?_push_of_some _ hol
        have hsls := F.sub_list_set
        have hslf := F.sub_list_frozenset
        have hne : (Value.type "list" == Value.type "dict") = false := by decide
        have hl1 : (s.heap.push (newS w)).IsList l items := ⟨_, hol', rfl, nl, rfl⟩
        unfold Builtin.«set.__init__» noKeywords Builtin.Frozenset.updateFrom
        generalize hPI : pyIter = PI
        wp_walk
        subst hPI
        refine wpAny_pyIter_list hl1 (wpAny_bind (wpAny_runValue ?_))
        have lS : l < s.heap.objs.size := Heap.lt_size hol
        have sz : (s.heap.push (newS w)).objs.size = s.heap.objs.size + 1 := Heap.size_push ..
        have nI : l ≠ (s.heap.push (newS w)).objs.size := by rw [sz]; exact Nat.ne_of_lt (Nat.lt_succ_of_lt lS)
        have nS : s.heap.objs.size ∉ [(s.heap.push (newS w)).objs.size, l] := by
          rw [sz]
          intro z
          rcases List.mem_cons.mp z with z | z
          · exact absurd z (Nat.ne_of_lt (Nat.lt_succ_self _))
          · exact absurd (List.mem_singleton.mp z) (Nat.ne_of_gt lS)
        have none_of : ∀ b, s.heap.objs.size ≤ b → s.heap.get? b = none := fun b hb => by
          cases q : s.heap.get? b with
          | none => rfl
          | some o => exact absurd (Nat.lt_of_lt_of_le (Heap.lt_size q) hb) (Nat.lt_irrefl _)
        have hh3 : A.in1.in1.in1.handled = none := by simp [hh]
        refine update_loop ((Walks.list hh3 _ l nI items).toS) s.heap.objs.size nS ks hlen few hval s.heap (fun b hb => ?_) items.size 0 _ [] (by omega) ⟨⟨_, Heap.get?_push_size _ rfl, rfl, rfl⟩, (hl1.push _)⟩ (fun b o e => Heap.get?_push_of_some _ (Heap.get?_push_of_some _ e))
          (txs_new (Heap.get?_push_of_some _ at0)) (Nat.zero_le _) (fun y => by simp) ?_
        · rcases List.mem_cons.mp hb with z | z
          · rw [z]
            exact none_of _ (Nat.le_refl _)
          · rw [List.mem_singleton.mp z, sz]
            exact none_of _ (Nat.le_succ _)
        · intro z ys mv T hy kp
          obtain ⟨h', g2, d', tk', os'⟩ := z
          have eg : g2 = s.gens := mv.gens
          have ed : d' = s.drawn := mv.drawn
          have eo : os' = s.os := mv.os
          subst eg; subst ed; subst eo
          show wpAny _ _ _ _ _ _
          refine wpAny_pure ?_
          show wpAny _ _ (ret Value.none) _ _ _
          exact wpAny_pure ⟨rfl, h', tk', ys, rfl, T, hy, kp⟩
      · cases r with
        | error e => exact hr
        | ok f2 =>
          cases f2 with
          | ret r =>
            obtain ⟨rfl, hp, tk, ys, rfl, T, hy, kp⟩ := hr
            repeat (any_goals (first | assumption | wp_step))
            exact k _ _ _ T hy kp
          | _ => exact hr.elim
    | _ => exact hr.elim
end
section
variable {X : Cx}
/-- set(xs), a list of texts -/
def rSetTx (K : PySem.W.Frag) (w : World) : List V → Hp → VK → Prop := fun vs H Q => ∃ (l : Addr) (ks : List Str), vs = [V.ref l] ∧ SqL K H l (ks.map V.str) ∧ ks.length < 1000 ∧ ∀ a ys, H a = none → ys.Nodup → (∀ y, y ∈ ys ↔ y ∈ ks) → Q (.ref a) (upd H a (TxO w a ys))
theorem str_at : ∀ {ks : List Str} {its : List Value}, Vals (ks.map V.str) its → ∀ (i : Nat) (v : Value), its[i]? = some v → ∃ x t, ks[i]? = some x ∧ v = .str x t
  | [], _, .nil, i, v, h => by cases h
  | x :: ks, _, .cons r rr, 0, v, h => by
    obtain ⟨t, e⟩ := (show RelV (V.str x) _ from r)
    have := Option.some.inj h
    exact ⟨x, t, rfl, this ▸ e⟩
  | x :: ks, _, .cons r rr, i + 1, v, h => str_at rr i v h
theorem cr_setTx (hc : X.calm = true) : CallR X (.type "set") (rSetTx X.K X.w) := by
  intro pins s σ H xs us Q I r h
  obtain ⟨l, ks, rfl, hl, few, q⟩ := h
  rw [Vals.ref1 r]
  obtain ⟨its, rv, pl, hz⟩ := I.list hl
  have nw : H s.heap.objs.size = none := I.hok.fresh (Nat.le_refl _)
  have hlen : its.toArray.size = ks.length := by
    have := rv.length
    rw [List.length_map] at this
    simpa using this.symm
  refine set_call (P := X.prog) (w := X.w) ks (I.ok.hd hc) pl.isList hlen (fun i v hv => str_at rv i v (by simpa using hv)) few fun hp tk ys T hy kp => ?_
  obtain ⟨_, _, _, _, _, _, _, _, _, nd, _⟩ := T.ex
  exact ⟨.ref s.heap.objs.size, upd H s.heap.objs.size (TxO X.w s.heap.objs.size ys), I.laid (t' := tk) kp (Nat.le_refl _) (txo_ok T), rfl, q _ ys nw nd hy⟩
/-- sorted(set) of texts -/
def rSortedTx (w : World) : List V → Hp → VK → Prop := fun vs H Q => ∃ (a : Addr) (xs : List Str), vs = [V.ref a] ∧ H a = some (TxO w a xs) ∧ xs.length < 64 ∧
  ∀ (ys : List Str) (p : Addr), ys.Perm xs → xs.Nodup → sortedS ys = true → H p = none → Q (.ref p) (upd H p (.lst (ys.map V.str)))
theorem cr_sortedTx (hc : X.calm = true) : CallR X (.builtin "sorted") (rSortedTx X.w) := by
  intro pins s σ H vs us Q I r h
  obtain ⟨a, xs, rfl, ha, few, q⟩ := h
  have R : Txs X.w s.heap a xs := (I.hok a _ ha).1
  rw [Vals.ref1 r]
  refine sorted_txs R (I.ok.hd hc) few fun z p out c ys kp g o hp hg so pm srt => ?_
  have hlen : (ys.map V.str).length ≤ sizeLine := by rw [List.length_map, pm.length_eq, sizeLine_eq]; omega
  have hn : H p = none := I.hok.fresh hp
  have J : Inv X pins σ (upd H p (.lst (ys.map V.str))) { s with heap := z.heap, gens := z.gens, drawn := z.drawn, toks := z.toks } :=
    I.call (ch := []) (Un.laid kp hp hn) (I.hok.laid kp hp ⟨hlen, out.toList, c, vals_of_strs so, hg⟩) (by rw [g]; exact I.bare) (fun _ z => nomatch z)
  have e : z = { s with heap := z.heap, gens := z.gens, drawn := z.drawn, toks := z.toks } := by
    cases z
    cases s
    cases o
    rfl
  obtain ⟨_, _, _, _, _, _, _, _, _, nd, _⟩ := R.ex
  rw [e]
  exact ⟨.ref p, _, J, rfl, q ys p pm nd srt hn⟩
/-- an added text -/
theorem add_ok {pins : List (Addr × Obj)} {σ : L2.St} {H : Hp} {s : Shared} {E : Value → Shared → Prop} {D : Addr} {xs : List Str} {y : Str} {u : Value} {Q : Value → Shared → Prop} (I : Inv X pins σ H s) (ry : RelV (.str y) u) (hD : H D = some (TxO X.w D xs)) (room : xs.length + 1 < scanBound)
    (k : ∀ z, Inv X pins σ (upd H D (TxO X.w D (more y xs))) z → Q .none z) : wpAny (model X.prog X.w) X.A (call (.builtin "set.add") [.ref D, u]) Q E s := by
  obtain ⟨t, rfl⟩ := ry
  exact add_call (I.hok D _ hD).1 room fun hp sb T => k _ (I.write (e := D) (t' := s.toks + 1) (by rw [hD]; trivial) (.inl rfl) (fun b v hb hv => (sb.2 b hb).trans hv) T.there (txo_ok T))
end
end NvSet

set_option maxRecDepth 100000
set_option maxHeartbeats 8000000
namespace NvSet
open PySem PySem.Spec PyProof.Rows L2 PpSet
section
variable {X : Cx}
/-- {elt for tg in iter if ..}, texts: D the set that is made -/
def tScT (w : World) (wi : TI) (g : TG) (tt : TT) (te : TE) (vs : List Nat) : TE := fun σ H Q => wi σ H fun J H1 => ∀ D, H1 D = none → ∃ W : Nat → Nat → Hp → Prop, (∃ m, W 0 m (upd H1 D (TxO w D []))) ∧ ∀ i m H, W i m H →
  (J.stop i H ∧ Q (.ref D) H) ∨ (J.go i H ∧ ∃ Nx : Hp → Prop, (∀ H', Nx H' → ∃ m', m' < m ∧ W (i + 1) m' H') ∧ ∀ x H', J.yld i H x H' → g x (wipe σ vs) H' fun τ H2 => wipe τ vs = wipe σ vs ∧ tt τ H2 fun b H3 =>
    if b = true then te τ H3 fun y H4 => ∃ (c : Str) (xs : List Str), y = .str c ∧ H4 D = some (TxO w D xs) ∧ xs.length + 1 < scanBound ∧ Nx (upd H4 D (TxO w D (more c xs))) else Nx H3)
/-- the blocks of a comprehension, for every start -/
abbrev InBlk (X : Cx) (sc : Scope) (F : Cx → Prop) : Prop := ∀ (s : Shared) (H : Hp) (C : Addr) (cl : List (PySem.Str × Addr)) (fp : List Addr), F (X.blk s H sc (compEnvC sc cl C X.env) fp)
theorem pe_scT {elt tg iter : Expr} {ifs : List Expr} {sc : Scope} {own : List (PySem.Str × Nat)} {pos : Pos} {wi : TI} {g : TG} {tt : TT} {te : TE} (hc : X.calm = true) (hN : X.N.Nodup) (hi : PI X tg iter wi) (ok : BlkOk X.N X.env.scope sc own)
    (hg : InBlk X sc fun Y => PG Y tg g) (ht : InBlk X sc fun Y => PTs Y ifs tt) (he : InBlk X sc fun Y => PE Y elt te) (hs : ∀ x, foldedSetIterable iter X.env x = pure x := by intro _; rfl) :
    PE X (.SetComp elt [⟨tg, iter, ifs, 0⟩] sc pos) (tScT X.w wi g tt te (own.map (·.2))) := by
  refine ⟨fun pins s σ H Q I h => ?_⟩
  rw [eval_SetComp]
  have free : ∀ y ∈ sc.names, y.2 = .free → ∃ c, X.env.cells.lookup y.1 = some c := fun y hy e => (ok.free y hy e).elim (fun z => I.ok.has _ (.inl z)) fun z => I.ok.has _ (.inr z)
  refine wpAny_comprehension_free (use := none) rfl hs (closure_ok free) ok.kind (fun y hy e => by rw [ok.uniq y hy, e]) (thn (hi.run pins s σ H _ I h) fun xv s1 hx => thn hx fun itv s2 hj => ?_)
  obtain ⟨it, fp, tn, J, H2, rfl, I2, T, st2, f2, q⟩ := hj
  refine newSet_ok (newEnv_comp ?_)
  generalize eD : s2.heap.objs.size = D
  have nD : H2 D = none := I2.hok.fresh (Nat.le_of_eq eD)
  obtain ⟨W, ⟨m0, w0⟩, turn⟩ := q D nD
  generalize e3 : ({ s2 with heap := s2.heap.push { cls := .type "set", dict := none, data := .set #[] 0 (.fresh 0 0 (!X.w.params.followText "set-order")) } } : Shared) = s3
  have p3 : s3.heap = s2.heap.push (newS X.w) := by rw [← e3]; rfl
  generalize eH : upd H2 D (TxO X.w D []) = H3 at w0
  have I3 : Inv X pins σ H3 s3 := by
    rw [← e3, ← eH]
    refine I2.laid (t' := s2.toks) (fun b o e => Heap.get?_push_of_some _ e) (Nat.le_of_eq eD) (txo_ok (txs_new ?_))
    rw [← eD]
    exact Heap.get?_push_size _ rfl
  have below : ∀ b ∈ fp, b < s2.heap.objs.size := fun b hb => by
    obtain ⟨o, e, _⟩ := T.obj _ _ st2 b hb
    exact Heap.lt_size e
  have f3 : ∀ b ∈ fp, FpOk X pins H3 b ∧ b < s3.heap.objs.size := fun b hb => by
    have lt := below b hb
    refine ⟨⟨?_, (f2 b hb).2⟩, by rw [p3, Heap.size_push]; exact Nat.lt_succ_of_lt lt⟩
    rw [← eH, upd_ne (by rw [← eD]; exact Nat.ne_of_lt lt)]
    exact (f2 b hb).1
  have st3 : tn 0 s3.heap := T.keep _ _ _ st2 fun b _ o e => by rw [p3]; exact Heap.get?_push_of_some _ e
  have I4 := block_start I3 ok hN f3
  have pg := hg s3 H3 s3.heap.objs.size (cellsFrom (s3.heap.objs.size + 1) sc.names (cloFrom X.env.cells sc.names [])) fp
  have pt := ht s3 H3 s3.heap.objs.size (cellsFrom (s3.heap.objs.size + 1) sc.names (cloFrom X.env.cells sc.names [])) fp
  have pe := he s3 H3 s3.heap.objs.size (cellsFrom (s3.heap.objs.size + 1) sc.names (cloFrom X.env.cells sc.names [])) fp
  show codeAny _ _ (.compStart (.SetComp elt [⟨tg, iter, ifs, 0⟩] sc pos) 0 (.ref it) (.ref D) (compEnvC sc (cellsFrom (s3.heap.objs.size + 1) sc.names (cloFrom X.env.cells sc.names [])) s3.heap.objs.size X.env)) (compPost (model X.prog X.w) X.A X.xe none _ (.ref D) s3.heap.objs.size) { s3 with heap := pushCells (s3.heap.push { cls := .type "dict", data := .dict #[] }) sc.names }
  generalize ec : compEnvC sc (cellsFrom (s3.heap.objs.size + 1) sc.names (cloFrom X.env.cells sc.names [])) s3.heap.objs.size X.env = ce at I4 pg pt pe ⊢
  have lc : ce.locals = s3.heap.objs.size := by subst ec; rfl
  generalize e4 : ({ s3 with heap := pushCells (s3.heap.push { cls := .type "dict", data := .dict #[] }) sc.names } : Shared) = s4 at I4 ⊢
  have st4 : tn 0 s4.heap := T.keep _ _ _ st3 fun b _ o e => by rw [← e4]; exact pushCells_keeps _ _ _ _ (Heap.get?_push_of_some _ e)
  have foot : ∀ {τ : L2.St} {G : Hp} {z : Shared}, Inv (X.blk s3 H3 sc ce fp) [] τ G z → (∀ b ∈ fp, G b = none) → ∀ b ∈ fp, FpOk (X.blk s3 H3 sc ce fp) [] G b := fun {τ G z} J' hn b hb =>
    ⟨hn b hb, (J'.ok.exf b hb).1, J'.ok.exfs b hb, .inl hb, fun x c e => (J'.ok.exf b hb).2 x c e, fun p hp => absurd (show p ∈ ([] : List (Addr × Obj)) ++ [] from hp) (by simp)⟩
  refine codeAny_compStart_set ?lp (T.self X.A 0 _ _ _ st4 ?lp)
  refine compLoopS_any (fun n z => ∃ i G, Inv (X.blk s3 H3 sc ce fp) [] (wipe σ (own.map (·.2))) G z ∧ tn i z.heap ∧ (∀ b ∈ fp, G b = none) ∧ W i n G) ?_ m0 ⟨0, H3, I4, st4, fun b hb => (f3 b hb).1.1, w0⟩
  rintro n s5 ⟨i, H5, I5, st5, n5, w5⟩
  rcases turn i n H5 w5 with ⟨stop, qq⟩ | ⟨go, Nx, hNx, step⟩
  · refine thnF (T.done (X.blk s3 H3 sc ce fp) rfl rfl rfl hc i [] s5 _ H5 (fun _ _ => False) I5 (foot I5 n5) st5 stop) fun r s6 ⟨hr, I6⟩ => ?_
    subst hr
    have I7 : Inv X pins σ H5 s6 := I3.call' (ch := fp) I6.os I6.base I6.hok I6.bare fun b hb => ⟨(f3 b hb).1.2.2.2.1, (f3 b hb).1.2.1, (f3 b hb).1.2.2.2.2.1, (f3 b hb).1.2.2.2.2.2⟩
    have nC : H5 s3.heap.objs.size = none := lc ▸ (show H5 ce.locals = none from I6.free)
    obtain ⟨m, hn, _⟩ := I6.loc
    have hn : s6.heap.Ns s3.heap.objs.size m := lc ▸ (show s6.heap.Ns ce.locals m from hn)
    refine ⟨m, hn, fun hp sb => ?_⟩
    obtain ⟨k0, k1, k2, k3, k4, k5⟩ := I3.fpOk (Nat.le_refl _) nC
    exact ⟨.ref D, H5, I7.turned (t' := s6.toks) (fun b o hb e => (sb.2 b hb).trans e) k0 k1 k3 k4 k5, rfl, qq⟩
  · refine thnF (T.item (X.blk s3 H3 sc ce fp) rfl rfl rfl hc i [] s5 _ H5 (fun _ _ => False) I5 (foot I5 n5) st5 go) fun r s6 ⟨u, hr, h6⟩ => ?_
    subst hr
    refine thnF h6 fun _ s7 ⟨x, H7, I7, r7, y7, st7, n7⟩ => ?_
    refine thnF (pg.run _ s7 _ H7 x u _ (I7.pinned (foot I7 n7) (T.obj _ _ st7)) r7 (step x H7 y7)) fun _ s8 ⟨τ, H8, I8, hw, q8⟩ => ?_
    refine thnF (pt.run _ s8 τ H8 _ I8 q8) fun b s9 ⟨H9, I9, q9⟩ => ?_
    have fin : ∀ {z : Shared} {G : Hp}, Inv (X.blk s3 H3 sc ce fp) ([] ++ pinsAt fp s7.heap) τ G z → Nx G → ∃ m, m < n ∧ ∃ i G, Inv (X.blk s3 H3 sc ce fp) [] (wipe σ (own.map (·.2))) G z ∧ tn i z.heap ∧ (∀ b ∈ fp, G b = none) ∧ W i m G := fun {z G} J' nx => by
      obtain ⟨m', hm, w'⟩ := hNx G nx
      have pin : ∀ b ∈ fp, ∀ o, s7.heap.get? b = some o → z.heap.get? b = some o ∧ G b = none := fun b hb o e =>
        let y := J'.pin (b, o) (List.mem_append_right _ (List.mem_append_right _ (mem_pinsAt hb e)))
        ⟨y.1, y.2.1⟩
      refine ⟨m', hm, i + 1, G, (J'.unpinned (pins := [])).weak (by rw [← hw, wipe_length]) (fun j v e => ?_), T.keep _ _ _ st7 fun b hb o e => (pin b hb o e).1, fun b hb => ?_, w'⟩
      · rw [← hw] at e
        exact (wipe_some e).1
      · obtain ⟨o, e, _⟩ := T.obj _ _ st7 b hb
        exact (pin b hb o e).2
    cases b with
    | false =>
      simp only [Bool.false_eq_true, if_false] at q9 ⊢
      exact fin I9 q9
    | true =>
      simp only [if_true] at q9 ⊢
      refine thnF (pe.run _ s9 τ H9 _ I9 q9) fun z s10 ⟨yv, H10, I10, r10, c, xs, ey, hD, room, nx⟩ => ?_
      subst ey
      exact add_ok (X := X.blk s3 H3 sc ce fp) I10 r10 hD room fun s11 I11 => fin I11 nx
end
end NvSet

set_option maxRecDepth 100000
set_option maxHeartbeats 4000000
namespace Nv
open PySem PySem.Spec PyProof.Rows L2
def topS (i : Nat) : Stmt := PySem.Challenge.pw_nevernought_k40_reckonings_nudged_and_tu.main.body.getD i (.Pass ⟨0, 0, 0, 0⟩)
abbrev sNE : Stmt := inClass (topS 1) 0
theorem scNE : FnScope ["self", "word", "message"] ["self", "word", "message"] (defScope sNE) := ⟨rfl, rfl, rfl, by decide +kernel, rfl, by decide +kernel, by decide +kernel⟩
/-- the fields of an exception that has its word alone -/
def wordOf (w : Str) : List (Str × V) := [(Str.ofString "word", .str w)]
/-- an exception that is being made gets its word -/
def made (a C : Addr) (w : Str) (H : Hp) (Q : VK) : Prop := ∀ dx, H dx = none → dx ≠ a → Q .non (upd (upd H dx (exd dx (wordOf w))) a (exo a C (some dx)))
def spNE (K : PySem.W.Frag) : Sp := fun vs H Q _ => ∃ (a C : Addr) (w m : Str), vs = [.ref a, .str w, .str m] ∧ OexC K C ∧ PySem.W.findIn K (.ref C) "word" = some none ∧ H a = some (exo a C none) ∧ made a C w H Q
theorem same_new {H : Hp} {p : Addr} {o : HO} (h : H p = none) : Same H (upd H p o) := fun b x e => by
  rw [upd_ne (ne_of_none e h)]
  exact e
/-- a new pair of numbers is told; all that stood stands -/
def newSh (H : Hp) (Q : VK) (t b : Int) : Prop := ∀ (p : Addr) (H' : Hp), Same H H' → H p = none → H' p = some (.tup [.int t, .int b]) → Q (.ref p) H'
theorem newSh.at_ {H : Hp} {Q : VK} {t b : Int} (q : newSh H Q t b) : ∀ p, H p = none → Q (.ref p) (upd H p (.tup [.int t, .int b])) := fun p hp => q p _ (same_new hp) hp upd_same
/-! The law's bag: [the script's numbers, a place, what is left of a great one, a salt, a count]. -/
def bagL (l : Addr) (i j s n : Int) : List V := [.ref l, .int i, .int j, .int s, .int n]
structure BagAt (l b : Addr) (H : Hp) : Prop where
  ex : ∃ i j s n : Int, H b = some (.lst (bagL l i j s n)) ∧ 0 ≤ i ∧ 0 ≤ j ∧ 0 ≤ s ∧ s < 2147483647
structure Bag (l b : Addr) (H : Hp) : Prop where
  ex : ∃ ns : List Int, l ≠ b ∧ H l = some (.lst (ns.map V.int)) ∧ BagAt l b H
/-- but for b all is as it was -/
def But (b : Addr) (H H' : Hp) : Prop := ∀ a, a ≠ b → H' a = H a
theorem But.refl (b : Addr) (H : Hp) : But b H H := fun _ _ => rfl
theorem But.trans {b : Addr} {H H1 H2 : Hp} (x : But b H H1) (y : But b H1 H2) : But b H H2 := fun a n => (y a n).trans (x a n)
theorem But.upd {b : Addr} {H H1 : Hp} {o : HO} (x : But b H H1) : But b H (upd H1 b o) := fun a n => (upd_ne n).trans (x a n)
theorem keep {a b : TS} {D : Ends} {σ : L2.St} {H : Hp} (M : L2.St → Hp → Prop) (h : ∀ σ' H', M σ' H' → b D σ' H') (k : (∀ σ' H', M σ' H' → b D σ' H') → a { D with nx := b D } σ H) : tSeq a b D σ H := k h
def spPull : Sp := fun vs H Q _ => ∃ (l b : Addr) (m : Int), vs = [.ref b, .int m] ∧ 0 < m ∧ m.natAbs < 2 ^ 8000 ∧ Bag l b H ∧ ∀ (r : Int) (H' : Hp), 0 ≤ r → r < m → Bag l b H' → But b H H' → Q (.int r) H'
/-- a number that is reckoned with -/
def Fit (i : Int) : Prop := i.natAbs < 2 ^ 1000
theorem Fit.mulOk {i j : Int} (a : Fit i) (b : Fit j) : CMulW i j := wide_mul a b (by decide) (by decide) (by decide)
theorem Fit.mul {i j : Int} (a : Fit i) (b : Fit j) : (i * j).natAbs < 2 ^ 8000 := Nat.lt_of_lt_of_le (wide_lt a b) (Nat.pow_le_pow_right (by decide) (by decide))
/-- but for b all that was tracked is as it was -/
def Grow (b : Addr) (H H' : Hp) : Prop := ∀ a o, a ≠ b → H a = some o → H' a = some o
theorem Grow.refl (b : Addr) (H : Hp) : Grow b H H := fun _ _ _ h => h
theorem Grow.trans {b : Addr} {H H1 H2 : Hp} (x : Grow b H H1) (y : Grow b H1 H2) : Grow b H H2 := fun a o n h => y a o n (x a o n h)
theorem But.grow {b : Addr} {H H' : Hp} (x : But b H H') : Grow b H H' := fun a o n h => by rw [x a n]; exact h
theorem Same.grow {b : Addr} {H H' : Hp} (x : Same H H') : Grow b H H' := fun a o _ h => x a o h
theorem Bag.is {l b : Addr} {H : Hp} (B : Bag l b H) : ∃ o, H b = some o := by
  obtain ⟨ns, _, _, ⟨i, j, s, n, hb, _⟩⟩ := B
  exact ⟨_, hb⟩
theorem Bag.ne {l b p : Addr} {H : Hp} (B : Bag l b H) (h : H p = none) : p ≠ b := fun z => by
  obtain ⟨o, e⟩ := B.is
  rw [z, e] at h
  cases h
theorem Grow.free {b p : Addr} {H H' : Hp} (x : Grow b H H') (n : p ≠ b) (h : H' p = none) : H p = none := by
  cases e : H p with
  | none => rfl
  | some o =>
    rw [x p o n e] at h
    cases h
/-- a bag stays one where all else only grows -/
theorem Bag.same {l b : Addr} {H H' : Hp} (B : Bag l b H) (x : Same H H') : Bag l b H' := by
  obtain ⟨ns, nl, hl, ⟨i, j, s, n, hb, r⟩⟩ := B
  exact ⟨ns, nl, x _ _ hl, ⟨i, j, s, n, x _ _ hb, r⟩⟩
/-- a share that the law draws -/
structure Drawn (t b : Int) : Prop where
  top : t.natAbs < 2 ^ 45
  bot : b.natAbs < 2 ^ 45
  pos : 0 < b
theorem Drawn.fitT {t b : Int} (d : Drawn t b) : Fit t := Nat.lt_of_lt_of_le d.top (Nat.pow_le_pow_right (by decide) (by decide))
theorem Drawn.fitB {t b : Int} (d : Drawn t b) : Fit b := Nat.lt_of_lt_of_le d.bot (Nat.pow_le_pow_right (by decide) (by decide))
theorem drawn_fr {t b : Int} (ht : t.natAbs < 2 ^ 45) (hb : b.natAbs < 2 ^ 45) (h0 : b ≠ 0) : Drawn (frT t b) (frB t b) := ⟨Nat.lt_of_le_of_lt (frT_le t h0) ht, Nat.lt_of_le_of_lt (frB_le t h0) hb, frB_pos t h0⟩
theorem fit8 {i : Int} {n : Nat} (h : i.natAbs < 2 ^ n) (hn : n ≤ 8000) : i.natAbs < 2 ^ 8000 := Nat.lt_of_lt_of_le h (Nat.pow_le_pow_right (by decide) hn)
def spDraw : Sp := fun vs H Q _ => ∃ l b : Addr, vs = [.ref b] ∧ Bag l b H ∧ ∀ (p : Addr) (t d : Int) (H' : Hp), Drawn t d → Bag l b H' → Grow b H H' → H p = none → H' p = some (.tup [.int t, .int d]) → Q (.ref p) H'
section
variable {P : Program} {w : World} {K : PySem.W.Frag} {mg : Str → Option Value} {base : Heap}
theorem ok_NE {f : Addr} {fd : FuncData} {k : Nat} {dvs : List V} (F : FunD K "__init__" "NeverError.__init__" (defArgs sNE) (defBody sNE) (defScope sNE) dvs [] f fd) (mv : mg "ValueError" = none)
    (vV : PySem.W.findCls K (.type "ValueError") (.type "type") "__init__" = some (.val (.builtin "ValueError.__init__"))) : FnOk P w K mg base CX0 (k + 1) f fd ["self", "word", "message"] (spNE K) := by
  refine F.ok scNE (fun vs H Q E h => ?_) (fun cdv A outer s H vs Q E hr h => ?_)
  · obtain ⟨a, C, w, m, rfl, _⟩ := h
    rfl
  · obtain ⟨a, C, w, m, rfl, ho, hn, ha, q⟩ := h
    refine ⟨_, pss_cons (ps_expr (pe_veinit (by rfl) mv vV (pa_cons (pv 0) (pa_cons (pv 2) pa_nil)))) (pss_one (ps_ost (pv 0) (pv 1))), ?_⟩
    refine ⟨_, rfl, _, rfl, a, C, [.str m], rfl, (by show 1 ≤ 1000; decide), ho, ha, ?_⟩
    exact ⟨_, rfl, _, rfl, a, C, rfl, ho, hn, .inl ⟨ha, fun dx n ne => q dx n ne⟩⟩
def spGcd : Sp := fun vs H Q _ => ∃ a b : Int, vs = [.int a, .int b] ∧ Q (.int ((Int.gcd a b : Nat) : Int)) H
def mGcd (σ : L2.St) (_ : Hp) : Nat := match σ with
  | [_, some (.int y)] => y.natAbs
  | _ => 0
abbrev sLGcd : Stmt := topS 55
theorem scLGcd : FnScope ["_law_one", "_law_other"] ["_law_one", "_law_other"] (defScope sLGcd) := ⟨rfl, rfl, rfl, by decide +kernel, rfl, by decide +kernel, by decide +kernel⟩
theorem ok_law_gcd {f : Addr} {fd : FuncData} {k : Nat} (F : Fun K "_law_gcd" "_law_gcd" sLGcd f fd) (ma : mg "abs" = none) : FnOk P w K mg base CX0 (k + 1) f fd ["_law_one", "_law_other"] spGcd := by
  refine F.ok scLGcd (fun vs H Q E h => ?_) (fun cdv A outer s H vs Q E hr h => ?_)
  · obtain ⟨a, b, rfl, _⟩ := h
    rfl
  · obtain ⟨a, b, rfl, q⟩ := h
    refine ⟨_, pss_cons (ps_while PassesOwn.never (pt_cmpR op_ne (pv 1) pe_int (nomark _))
        (pss_one (ps_par (i := 0) (j := 1) (by rfl) scLGcd.nd rfl rfl (by decide) rfl rfl (pa_cons (pv 1) (pa_cons (pe_op op_modN (pv 0) (pv 1)) pa_nil)) (by rfl))))
      (pss_one (ps_ret (pe_callB call_abs (by rfl) ma (by decide +kernel) (pa_cons (pv 0) pa_nil)))), ?_⟩
    refine while_by (fun σ H' => ∃ x y : Int, σ = [some (.int x), some (.int y)] ∧ H' = H ∧ Int.gcd x y = Int.gcd a b) mGcd ⟨a, b, rfl, rfl, rfl⟩ (fun σ H' hP => ?_) (fun σ H Q Q' hh hc => ?_)
    · obtain ⟨x, y, rfl, rfl, e⟩ := hP
      refine ⟨_, rfl, rfl, _, rfl, ?_⟩
      refine ite2 (fun c => ?_) (fun c => ?_)
      · have hy : y ≠ 0 := fun z => by
          subst z
          exact absurd c (by decide)
        refine ⟨_, rfl, _, rfl, _, rfl, x, y, rfl, rfl, hy, _, _, rfl, ⟨y, x.fmod y, rfl, rfl, ?_⟩, fmod_small x hy⟩
        rw [gcd_step]
        exact e
      · have hy : y = 0 := Classical.byContradiction fun z => c (by
          show (!decide (V.int y = V.int 0)) = true
          rw [decide_eq_false (fun q => z (V.int.inj q))]
          rfl)
        subst hy
        refine ⟨_, rfl, x, rfl, ?_⟩
        rw [gcd_zero, e]
        exact q
    · obtain ⟨v, e1, e2, k, e3, e4⟩ := hc
      exact ⟨v, e1, e2, k, e3, hh _ _ e4⟩
abbrev sGcd : Stmt := topS 26
def spPGcd : Sp := fun vs H Q _ => ∃ a b : Int, vs = [.int a, .int b] ∧ b.natAbs < 2 ^ 6000 ∧ Q (.int ((Int.gcd a b : Nat) : Int)) H
theorem scGcd : FnScope ["one", "other"] ["one", "other"] (defScope sGcd) := ⟨rfl, rfl, rfl, by decide +kernel, rfl, by decide +kernel, by decide +kernel⟩
/-- numbers of at most 6000 bits are divided as ever -/
theorem ok_gcd {f : Addr} {fd : FuncData} {k : Nat} (F : Fun K "common_divisor" "common_divisor" sGcd f fd) (ma : mg "abs" = none) (mL : ∃ t, mg "LONG" = some (.int 6000 t)) : FnOk P w K mg base CX0 (k + 1) f fd ["one", "other"] spPGcd := by
  obtain ⟨tL, hL⟩ := mL
  refine F.ok scGcd (fun vs H Q E h => ?_) (fun cdv A outer s H vs Q E hr h => ?_)
  · obtain ⟨a, b, rfl, _⟩ := h
    rfl
  · obtain ⟨a, b, rfl, hb, q⟩ := h
    refine ⟨_, pss_cons (ps_if (pt_cmpR op_gt (pe_bits (pv 1)) (pe_glob (v := .int 6000) (by rfl) hL ⟨_, rfl⟩) (nomark _)) pss_never pss_nil)
      (pss_cons (ps_while PassesOwn.never (pt_cmpR op_ne (pv 1) pe_int (nomark _))
        (pss_one (ps_par (i := 0) (j := 1) (by rfl) scGcd.nd rfl rfl (by decide) rfl rfl (pa_cons (pv 1) (pa_cons (pe_op op_modN (pv 0) (pv 1)) pa_nil)) (by rfl))))
      (pss_one (ps_ret (pe_callB call_abs (by rfl) ma (by decide +kernel) (pa_cons (pv 0) pa_nil))))), ?_⟩
    have hs : ¬ (6000 : Int) < ((Builtin.Int.intBits b : Nat) : Int) := by
      have := PyProof.Rows.intBits_le hb
      omega
    refine ⟨_, rfl, b, rfl, _, 6000, rfl, rfl, _, rfl, ite2 (fun c => absurd (of_decide_eq_true c) hs) (fun _ => ?_)⟩
    refine while_by (fun σ H' => ∃ x y : Int, σ = [some (.int x), some (.int y)] ∧ H' = H ∧ Int.gcd x y = Int.gcd a b) mGcd ⟨a, b, rfl, rfl, rfl⟩ (fun σ H' hP => ?_) (fun σ H Q Q' hh hc => ?_)
    · obtain ⟨x, y, rfl, rfl, e⟩ := hP
      refine ⟨_, rfl, rfl, _, rfl, ?_⟩
      refine ite2 (fun c => ?_) (fun c => ?_)
      · have hy : y ≠ 0 := fun z => by
          subst z
          exact absurd c (by decide)
        refine ⟨_, rfl, _, rfl, _, rfl, x, y, rfl, rfl, hy, _, _, rfl, ⟨y, x.fmod y, rfl, rfl, ?_⟩, fmod_small x hy⟩
        rw [gcd_step]
        exact e
      · have hy : y = 0 := Classical.byContradiction fun z => c (by
          show (!decide (V.int y = V.int 0)) = true
          rw [decide_eq_false (fun q => z (V.int.inj q))]
          rfl)
        subst hy
        refine ⟨_, rfl, x, rfl, ?_⟩
        rw [gcd_zero, e]
        exact q
    · obtain ⟨v, e1, e2, k, e3, e4⟩ := hc
      exact ⟨v, e1, e2, k, e3, hh _ _ e4⟩
def spFr : Sp := fun vs H Q _ => ∃ t b : Int, vs = [.int t, .int b] ∧ b ≠ 0 ∧ b.natAbs < 2 ^ 8000 ∧ newSh H Q (frT t b) (frB t b)
theorem at0 {a b : V} : atI [a, b] 0 = some a := rfl
theorem at1 {a b : V} : atI [a, b] 1 = some b := rfl
abbrev sLFr : Stmt := topS 56
theorem scLFr : FnScope ["_law_top", "_law_bottom", "_law_per"] ["_law_top", "_law_bottom"] (defScope sLFr) := ⟨rfl, rfl, rfl, by decide +kernel, rfl, by decide +kernel, by decide +kernel⟩
theorem ok_law_fr {f : Addr} {fd : FuncData} (F : Fun K "_law_fr" "_law_fr" sLFr f fd) (GG : C8.Cal P w K mg base 1 "_law_gcd" spGcd []) : FnOk P w K mg base CX0 2 f fd ["_law_top", "_law_bottom"] spFr := by
  refine F.ok scLFr (fun vs H Q E h => ?_) (fun cdv A outer s H vs Q E hr h => ?_)
  · obtain ⟨a, b, rfl, _⟩ := h
    rfl
  · obtain ⟨t, b, rfl, e, hb, q1⟩ := h
    refine ⟨_, pss_cons (ps_set (i := 2) scLFr.nd rfl (.inl rfl) (C8.pe_c GG hr (by decide) (by rfl) (pa_cons (pv 0) (pa_cons (pv 1) pa_nil))))
      (pss_cons (ps_set (i := 2) scLFr.nd rfl (.inl rfl) (pe_ifExp (pt_cmpR op_lt (pv 1) pe_int (nomark _)) (pe_op op_sub pe_int (pv 2)) (pv 2)))
      (pss_one (ps_ret (pe_tup (pa_cons (pe_op op_div (pv 0) (pv 2)) (pa_cons (pe_op op_div (pv 1) (pv 2)) pa_nil)))))), ?_⟩
    refine ⟨_, rfl, _, rfl, t, b, rfl, ?_⟩
    have fin : ∀ d : Int, d = per t b → tRet (tTup (tCons (tOp (rI DivOk fun i j => .int (i.fdiv j)) (tVar 0) (tVar 2)) (tCons (tOp (rI DivOk fun i j => .int (i.fdiv j)) (tVar 1) (tVar 2)) tNil)))
        { nx := fun _ H' => Q .non H', rt := Q } [some (.int t), some (.int b), some (.int d)] H := fun d hd => by
      have ok : DivOk t d := ⟨by rw [hd]; exact per_ne t e, by rw [hd]; exact Nat.lt_of_le_of_lt (per_le t e) hb⟩
      refine ⟨_, rfl, _, rfl, t, d, rfl, rfl, ok, _, rfl, _, rfl, b, d, rfl, rfl, ok, (by show 2 ≤ sizeLine; decide), fun p hp => ?_⟩
      rw [hd]
      exact q1.at_ p hp
    refine ⟨_, rfl, b, 0, rfl, rfl, _, rfl, ite2 (fun c2 => ?_) (fun c2 => ?_)⟩
    · have l : b < 0 := of_decide_eq_true c2
      refine ⟨_, rfl, 0, _, rfl, rfl, ?_⟩
      exact fin _ (by unfold per; rw [if_pos l]; omega)
    · have l : ¬ b < 0 := fun z => c2 (decide_eq_true z)
      refine ⟨_, rfl, ?_⟩
      exact fin _ (by unfold per; rw [if_neg l])
abbrev sPull : Stmt := topS 51
theorem scPull : FnScope ["_law_bag_here", "_law_sides", "_law_cell", "_law_got", "_law_seed"] ["_law_bag_here", "_law_sides"] (defScope sPull) := ⟨rfl, rfl, rfl, by decide +kernel, rfl, by decide +kernel, by decide +kernel⟩
theorem at_in {xs : List V} {r : Int} (h0 : 0 ≤ r) (h : r.toNat < xs.length) : atI xs r = some xs[r.toNat] := by
  obtain ⟨n, rfl⟩ := Int.eq_ofNat_of_zero_le h0
  exact atI_nat (List.getElem?_eq_getElem h)
theorem ok_pull {f : Addr} {fd : FuncData} {k : Nat} (F : Fun K "_law_pull" "_law_pull" sPull f fd) (ml : mg "len" = none) : FnOk P w K mg base CX0 (k + 1) f fd ["_law_bag_here", "_law_sides"] spPull := by
  refine F.ok scPull (fun vs H Q E h => ?_) (fun cdv A outer s H vs Q E hr h => ?_)
  · obtain ⟨l, b, m, rfl, _⟩ := h
    rfl
  · obtain ⟨l, b, m, rfl, hm, hm9, ⟨ns, nlb, hl, ⟨i, j, sa, n, hb, hi, hj, hs, hs2⟩⟩, q⟩ := h
    have hm8 : CDivW 0 m := wide_div hm hm9 (by decide) (by decide)
    refine ⟨_, pss_cons (ps_if (PW.pt (pw_and (pt_cmpR op_eq (pe_ix ix_list (pv 0) pe_int (fun _ _ => rfl)) pe_int (nomark _))
          (pw_and1 (pt_cmpR op_lt (pe_ix ix_list (pv 0) pe_int (fun _ _ => rfl)) (pe_callB call_len_seq (by rfl) ml PySem.boot_len (pa_cons (pe_ix ix_list (pv 0) pe_int (fun _ _ => rfl)) pa_nil)) (nomark _)))))
        (pss_cons (ps_set (i := 2) scPull.nd rfl (.inl rfl) (pe_ix ix_list (pe_ix ix_list (pv 0) pe_int (fun _ _ => rfl)) (pe_ix ix_list (pv 0) pe_int (fun _ _ => rfl)) (fun _ _ => rfl)))
        (pss_cons (ps_asg (pe_op op_add (pe_ix ix_list (pv 0) pe_int (fun _ _ => rfl)) pe_int) (pg_sub (pv 0) pe_int set_list))
        (pss_one (ps_if (pt_cmpR op_ge (pv 2) (pe_op op_pow pe_int pe_int) (nomark _)) (pss_one (ps_asg (pv 2) (pg_sub (pv 0) pe_int set_list)))
          (pss_one (ps_asg (pe_op op_mod (pe_op op_add (pe_op op_add (pe_op op_mul (pe_ix ix_list (pv 0) pe_int (fun _ _ => rfl)) pe_int) (pe_op op_mod (pv 2) pe_int)) pe_int) pe_int) (pg_sub (pv 0) pe_int set_list)))))))
        pss_nil)
      (pss_cons (ps_if (pt_cmpR op_gt (pe_ix ix_list (pv 0) pe_int (fun _ _ => rfl)) pe_int (nomark _))
        (pss_cons (ps_set (i := 3) scPull.nd rfl (.inl rfl) (pe_op op_mod (pe_ix ix_list (pv 0) pe_int (fun _ _ => rfl)) (pv 1)))
        (pss_cons (ps_asg (pe_op op_fdivW (pe_ix ix_list (pv 0) pe_int (fun _ _ => rfl)) (pv 1)) (pg_sub (pv 0) pe_int set_list))
        (pss_one (ps_ret (pv 3))))) pss_nil)
      (pss_cons (ps_asg (pe_op op_add (pe_ix ix_list (pv 0) pe_int (fun _ _ => rfl)) pe_int) (pg_sub (pv 0) pe_int set_list))
      (pss_cons (ps_set (i := 4) scPull.nd rfl (.inl rfl) (pe_op op_mod (pe_op op_add (pe_ix ix_list (pv 0) pe_int (fun _ _ => rfl)) (pe_op op_mul (pe_ix ix_list (pv 0) pe_int (fun _ _ => rfl)) pe_int)) pe_int))
      (pss_cons (ps_asg (pe_op op_mod (pe_op op_add (pe_op op_add (pe_op op_mul (pe_op op_mod (pe_op op_mul (pv 4) (pv 4)) pe_int) (pe_op op_add (pe_op op_mod (pv 4) pe_int) pe_int)) (pe_op op_mul pe_int (pv 4))) pe_int) pe_int) (pg_sub (pv 0) pe_int set_list))
      (pss_one (ps_ret (pe_op op_mod (pe_op op_add (pe_op op_fdiv (pe_ix ix_list (pv 0) pe_int (fun _ _ => rfl)) pe_int) (pe_op op_mul (pe_op op_mod (pe_ix ix_list (pv 0) pe_int (fun _ _ => rfl)) pe_int) pe_int)) (pv 1)))))))), ?_⟩
    refine keep (fun σ' H' => ∃ (i j sa n : Int) (y : Option V), σ' = [some (.ref b), some (.int m), y, none, none] ∧ H' b = some (.lst (bagL l i j sa n)) ∧ 0 ≤ i ∧ 0 ≤ j ∧ 0 ≤ sa ∧ sa < 2147483647 ∧ But b H H') (fun σ' H1 hM => ?_) (fun rest => ?_)
    · obtain ⟨i, j, sa, n, y, rfl, hb, hi, hj, hs, hs2, bt⟩ := hM
      have bagOf : ∀ (H2 : Hp), But b H H2 → BagAt l b H2 → Bag l b H2 := fun H2 bt2 x => ⟨ns, nlb, by rw [bt2 l nlb]; exact hl, x⟩
      refine ⟨_, rfl, b, _, 2, _, rfl, rfl, SqL.of hb, rfl, j, 0, rfl, rfl, _, rfl, ite2 (fun c => ?_) (fun c => ?_)⟩
      · -- what is left of a great number
        refine ⟨_, rfl, b, _, 2, _, rfl, rfl, SqL.of hb, rfl, _, rfl, j, m, rfl, rfl, hm, ?_⟩
        refine ⟨_, rfl, b, _, 2, _, rfl, rfl, SqL.of hb, rfl, _, rfl, j, m, rfl, rfl, hm8, _, rfl, b, _, 2, 2, rfl, rfl, hb, rfl, ?_⟩
        refine ⟨_, rfl, ?_⟩
        exact q _ _ (Int.emod_nonneg j (by omega)) (Int.emod_lt_of_pos j hm) (bagOf _ bt.upd ⟨⟨i, j / m, sa, n, upd_same, hi, Int.ediv_nonneg hj (by omega), hs, hs2⟩⟩) bt.upd
      · refine ⟨_, rfl, b, _, 4, _, rfl, rfl, SqL.of hb, rfl, n, 1, rfl, rfl, _, rfl, b, _, 4, 4, rfl, rfl, hb, rfl, ?_⟩
        have hb2 : (upd H1 b (.lst (bagL l i j sa (n + 1)))) b = some (.lst (bagL l i j sa (n + 1))) := upd_same
        refine ⟨_, rfl, b, _, 3, _, rfl, rfl, SqL.of hb2, rfl, _, rfl, b, _, 4, _, rfl, rfl, SqL.of hb2, rfl, n + 1, 7211, rfl, rfl, .inr ⟨by decide, by decide⟩, sa, _, rfl, rfl, _, 2147483647, rfl, rfl, (by show (0 : Int) < _; decide), ?_⟩
        have r0 := Int.emod_nonneg (sa + (n + 1) * 7211) (show (2147483647 : Int) ≠ 0 by decide)
        have r1 := Int.emod_lt_of_pos (sa + (n + 1) * 7211) (show (0 : Int) < 2147483647 by decide)
        show tSeq _ _ _ [some (.ref b), some (.int m), y, none, some (.int ((sa + (n + 1) * 7211) % 2147483647))] _
        generalize (sa + (n + 1) * 7211) % 2147483647 = sd at r0 r1 ⊢
        have t0 := Int.emod_nonneg (sd * sd) (show (2147483629 : Int) ≠ 0 by decide)
        have t1 := Int.emod_lt_of_pos (sd * sd) (show (0 : Int) < 2147483629 by decide)
        refine ⟨_, rfl, _, rfl, sd, sd, rfl, rfl, .inl ⟨by omega, by omega⟩, _, 2147483629, rfl, rfl, (by show (0 : Int) < _; decide), _, rfl, sd, 30011, rfl, rfl, (by show (0 : Int) < _; decide), _, 5, rfl, rfl, _, _, rfl, rfl, .inl ⟨by omega, by omega⟩, _, rfl, 20011, sd, rfl, rfl, .inl ⟨by decide, by decide⟩, _, _, rfl, rfl, _, 977, rfl, rfl, _, 2147483647, rfl, rfl, (by show (0 : Int) < _; decide), _, rfl, b, _, 3, 3, rfl, rfl, hb2, rfl, ?_⟩
        have s0 := Int.emod_nonneg (sd * sd % 2147483629 * (sd % 30011 + 5) + 20011 * sd + 977) (show (2147483647 : Int) ≠ 0 by decide)
        have s1 := Int.emod_lt_of_pos (sd * sd % 2147483629 * (sd % 30011 + 5) + 20011 * sd + 977) (show (0 : Int) < 2147483647 by decide)
        have hb3 : (upd (upd H1 b (.lst (bagL l i j sa (n + 1)))) b (.lst (bagL l i j ((sd * sd % 2147483629 * (sd % 30011 + 5) + 20011 * sd + 977) % 2147483647) (n + 1)))) b = some (.lst (bagL l i j ((sd * sd % 2147483629 * (sd % 30011 + 5) + 20011 * sd + 977) % 2147483647) (n + 1))) := upd_same
        refine ⟨_, rfl, b, _, 3, _, rfl, rfl, SqL.of hb3, rfl, _, 71, rfl, rfl, ⟨by decide, by decide⟩, _, rfl, b, _, 3, _, rfl, rfl, SqL.of hb3, rfl, _, 8191, rfl, rfl, (by show (0 : Int) < _; decide), _, 41, rfl, rfl, .inr ⟨by decide, by decide⟩, _, _, rfl, rfl, _, rfl, _, m, rfl, rfl, hm, ?_⟩
        exact q _ _ (Int.emod_nonneg _ (by omega)) (Int.emod_lt_of_pos _ hm) (bagOf _ bt.upd.upd ⟨⟨i, j, _, n + 1, upd_same, hi, hj, s0, s1⟩⟩) bt.upd.upd
    · have stay := rest [some (.ref b), some (.int m), none, none, none] H ⟨i, j, sa, n, none, rfl, hb, hi, hj, hs, hs2, But.refl b H⟩
      refine ⟨_, rfl, b, _, 2, _, rfl, rfl, SqL.of hb, rfl, rfl, _, rfl, ite2 (fun c => ?_) (fun c => ?_)⟩
      · refine ⟨_, rfl, b, _, 1, _, rfl, rfl, SqL.of hb, rfl, _, rfl, b, _, 0, _, rfl, rfl, SqL.of hb, rfl, l, _, rfl, .inl (SqL.of hl), i, _, rfl, rfl, _, rfl, ite2 (fun c2 => ?_) (fun c2 => ?_)⟩
        · have hlt : i < ((ns.map V.int).length : Int) := of_decide_eq_true c2
          rw [List.length_map] at hlt
          obtain ⟨cell, hc⟩ : ∃ cell : Int, atI (ns.map V.int) i = some (.int cell) := by
            have h1 : i.toNat < (ns.map V.int).length := by rw [List.length_map]; omega
            refine ⟨ns[i.toNat]'(by rw [List.length_map] at h1; exact h1), ?_⟩
            rw [at_in hi h1, List.getElem_map]
          refine ⟨_, rfl, b, _, 0, _, rfl, rfl, SqL.of hb, rfl, _, rfl, b, _, 1, _, rfl, rfl, SqL.of hb, rfl, l, _, i, _, rfl, rfl, SqL.of hl, hc, ?_⟩
          refine ⟨_, rfl, b, _, 1, _, rfl, rfl, SqL.of hb, rfl, i, 1, rfl, rfl, _, rfl, b, _, 1, 1, rfl, rfl, hb, rfl, ?_⟩
          have hb2 : (upd H b (.lst (bagL l (i + 1) j sa n))) b = some (.lst (bagL l (i + 1) j sa n)) := upd_same
          refine ⟨_, rfl, 10, 18, rfl, rfl, ⟨by decide, by decide, by decide⟩, cell, _, rfl, rfl, _, rfl, ite2 (fun c3 => ?_) (fun c3 => ?_)⟩
          · have hbig : (10 : Int) ^ (18 : Int).toNat ≤ cell := of_decide_eq_true c3
            have hpos : (0 : Int) ≤ cell := Int.le_trans (by decide) hbig
            refine ⟨_, rfl, _, rfl, b, _, 2, 2, rfl, rfl, hb2, rfl, ?_⟩
            exact rest _ _ ⟨i + 1, cell, sa, n, _, rfl, upd_same, by omega, hpos, hs, hs2, (But.refl b H).upd.upd⟩
          · refine ⟨_, rfl, b, _, 3, _, rfl, rfl, SqL.of hb2, rfl, sa, 40283, rfl, rfl, .inr ⟨by decide, by decide⟩, _, rfl, cell, 2147483587, rfl, rfl, (by show (0 : Int) < _; decide), _, _, rfl, rfl, _, 7, rfl, rfl, _, 2147483647, rfl, rfl, (by show (0 : Int) < _; decide), _, rfl, b, _, 3, 3, rfl, rfl, hb2, rfl, ?_⟩
            exact rest _ _ ⟨i + 1, j, _, n, _, rfl, upd_same, by omega, hj, Int.emod_nonneg _ (by decide), Int.emod_lt_of_pos _ (by decide), (But.refl b H).upd.upd⟩
        · exact stay
      · exact iteF stay
abbrev sOf : Stmt := topS 52
theorem scOf : FnScope ["_law_bag_here", "_law_some"] ["_law_bag_here", "_law_some"] (defScope sOf) := ⟨rfl, rfl, rfl, by decide +kernel, rfl, by decide +kernel, by decide +kernel⟩
/-- one of those that are there -/
def spOf : Sp := fun vs H Q _ => ∃ (l b o : Addr) (xs : List V), vs = [.ref b, .ref o] ∧ o ≠ b ∧ H o = some (.lst xs) ∧ 0 < xs.length ∧ xs.length ≤ 1000 ∧ Bag l b H ∧ ∀ (v : V) (H' : Hp), v ∈ xs → Bag l b H' → But b H H' → Q v H'
theorem small_fit {n : Nat} (h : n ≤ 1000) : ((n : Int)).natAbs < 2 ^ 8000 := Nat.lt_of_le_of_lt (show ((n : Int)).natAbs ≤ 2 ^ 10 by omega) (Nat.pow_lt_pow_right (by decide) (by decide))
theorem ok_of {f : Addr} {fd : FuncData} (F : Fun K "_law_of" "_law_of" sOf f fd) (GP : C8.Cal P w K mg base 1 "_law_pull" spPull []) (ml : mg "len" = none) : FnOk P w K mg base CX0 2 f fd ["_law_bag_here", "_law_some"] spOf := by
  refine F.ok scOf (fun vs H Q E h => ?_) (fun cdv A outer s H vs Q E hr h => ?_)
  · obtain ⟨l, b, o, xs, rfl, _⟩ := h
    rfl
  · obtain ⟨l, b, o, xs, rfl, nob, ho, h0, h1, hB, q⟩ := h
    refine ⟨_, pss_one (ps_ret (pe_ix ix_list (pv 1) (C8.pe_c GP hr (by decide) (by rfl) (pa_cons (pv 0) (pa_cons (pe_callB call_len_seq (by rfl) ml PySem.boot_len (pa_cons (pv 1) pa_nil)) pa_nil))) (fun _ _ => rfl))), ?_⟩
    refine ⟨_, rfl, _, rfl, _, rfl, o, xs, rfl, .inl (SqL.of ho), l, b, _, rfl, by omega, small_fit h1, hB, fun r H' r0 r1 hB' bt => ?_⟩
    have ho' : H' o = some (.lst xs) := by rw [bt o nob]; exact ho
    have hlt : r.toNat < xs.length := by omega
    exact ⟨o, xs, r, xs[r.toNat], rfl, rfl, SqL.of ho', at_in r0 hlt, q _ _ (List.getElem_mem hlt) hB' bt⟩
abbrev sLight : Stmt := topS 57
theorem scLight : FnScope ["_law_bag_here"] ["_law_bag_here"] (defScope sLight) := ⟨rfl, rfl, rfl, by decide +kernel, rfl, by decide +kernel, by decide +kernel⟩
/-- the end of a drawing: fr(t, d) -/
theorem draw_end {l b : Addr} {H H1 : Hp} {Q : VK} {E : XK} {t d : Int} (g : Grow b H H1) (B : Bag l b H1) (ht : t.natAbs < 2 ^ 45) (hd : d.natAbs < 2 ^ 45) (h0 : d ≠ 0)
    (q : ∀ (p : Addr) (t d : Int) (H' : Hp), Drawn t d → Bag l b H' → Grow b H H' → H p = none → H' p = some (.tup [.int t, .int d]) → Q (.ref p) H') : spFr [.int t, .int d] H1 Q E :=
  ⟨t, d, rfl, h0, fit8 hd (by decide), fun p H' sm hp ep => q p _ _ _ (drawn_fr ht hd h0) (B.same sm) (g.trans (Same.grow sm)) (g.free (B.ne hp) hp) ep⟩
theorem ok_light {f : Addr} {fd : FuncData} (F : Fun K "_law_light" "_law_light" sLight f fd) (GF : C8.Cal P w K mg base 2 "_law_fr" spFr []) (GP : C8.Cal P w K mg base 1 "_law_pull" spPull []) : FnOk P w K mg base CX0 3 f fd ["_law_bag_here"] spDraw := by
  refine F.ok scLight (fun vs H Q E h => ?_) (fun cdv A outer s H vs Q E hr h => ?_)
  · obtain ⟨l, b, rfl, _⟩ := h
    rfl
  · obtain ⟨l, b, rfl, B, q⟩ := h
    refine ⟨_, pss_one (ps_ret (C8.pe_c GF hr (by decide) (by rfl) (pa_cons (pe_op op_sub (C8.pe_c GP hr (by decide) (by rfl) (pa_cons (pv 0) (pa_cons pe_int pa_nil))) pe_int)
      (pa_cons (pe_ix ix_list (pe_lst (pa_cons pe_int (pa_cons pe_int (pa_cons pe_int (pa_cons pe_int (pa_cons pe_int (pa_cons pe_int pa_nil))))))) (C8.pe_c GP hr (by decide) (by rfl) (pa_cons (pv 0) (pa_cons pe_int pa_nil))) (fun _ _ => rfl)) pa_nil)))), ?_⟩
    refine ⟨_, rfl, l, b, 9, rfl, by decide, fit8 (n := 4) (by decide) (by decide), B, fun r H1 r0 r1 B1 t1 => ?_⟩
    refine ⟨r, 4, rfl, rfl, (by show 6 ≤ sizeLine; decide), fun o no => ?_⟩
    have B2 := B1.same (same_new (o := .lst [.int 1, .int 1, .int 1, .int 2, .int 3, .int 5]) no)
    refine ⟨_, rfl, l, b, 6, rfl, by decide, fit8 (n := 4) (by decide) (by decide), B2, fun r2 H2 s0 s1 B3 t2 => ?_⟩
    have nob := B1.ne no
    have ho : H2 o = some (.lst [.int 1, .int 1, .int 1, .int 2, .int 3, .int 5]) := by rw [t2 o nob, upd_same]
    have g : Grow b H H2 := t1.grow.trans ((Same.grow (same_new no)).trans t2.grow)
    have pick : ∃ d : Int, atI [V.int 1, V.int 1, V.int 1, V.int 2, V.int 3, V.int 5] r2 = some (.int d) ∧ 0 < d ∧ d ≤ 5 := by
      have : r2 = 0 ∨ r2 = 1 ∨ r2 = 2 ∨ r2 = 3 ∨ r2 = 4 ∨ r2 = 5 := by omega
      rcases this with e | e | e | e | e | e <;> subst e
      · exact ⟨1, rfl, by decide, by decide⟩
      · exact ⟨1, rfl, by decide, by decide⟩
      · exact ⟨1, rfl, by decide, by decide⟩
      · exact ⟨2, rfl, by decide, by decide⟩
      · exact ⟨3, rfl, by decide, by decide⟩
      · exact ⟨5, rfl, by decide, by decide⟩
    obtain ⟨d, hd, d0, d5⟩ := pick
    exact ⟨o, _, r2, _, rfl, rfl, SqL.of ho, hd, draw_end (E := C8.E0) g B3 (Nat.lt_of_le_of_lt (show (r - 4).natAbs ≤ 9 by omega) (by decide)) (Nat.lt_of_le_of_lt (show d.natAbs ≤ 9 by omega) (by decide)) (by omega) q⟩
abbrev sBag : Stmt := topS 50
theorem scBag : FnScope ["_law_script", "_law_salt", "_law_cell"] ["_law_script"] (defScope sBag) := ⟨rfl, rfl, rfl, by decide +kernel, rfl, by decide +kernel, by decide +kernel⟩
/-- a new bag of a script -/
def spBag (K : PySem.W.Frag) : Sp := fun vs H Q _ => ∃ (a : Addr) (ns : List Int), vs = [.ref a] ∧ SqL K H a (ns.map V.int) ∧ ∀ (l b : Addr) (H' : Hp), Same H H' → H b = none → H l = none → Bag l b H' → Q (.ref b) H'
theorem cut63 (ns : List Int) : ∃ ms : List Int, cutV (ns.map V.int) none (some 63) = ms.map V.int := by
  refine ⟨(ns.drop (HT.sIx ns.length 0 none)).take (HT.sIx ns.length ns.length (some 63) - HT.sIx ns.length 0 none), ?_⟩
  unfold cutV
  rw [List.length_map, List.map_take, List.map_drop]
theorem ok_bag {f : Addr} {fd : FuncData} {k : Nat} (F : Fun K "_law_bag" "_law_bag" sBag f fd) (ml : mg "list" = none) : FnOk P w K mg base CX0 (k + 1) f fd ["_law_script"] (spBag K) := by
  refine F.ok scBag (fun vs H Q E h => ?_) (fun cdv A outer s H vs Q E hr h => ?_)
  · obtain ⟨a, ns, rfl, _⟩ := h
    rfl
  · obtain ⟨a, ns, rfl, hS, q⟩ := h
    refine ⟨_, pss_cons (ps_set (i := 1) scBag.nd rfl (.inl rfl) pe_int)
      (pss_cons (ps_for PassesOwn.never rfl (pi_list (pe_slice sl_list (pv 0) po_none (po_some pe_int))) (pg_name (i := 2) scBag.nd rfl (.inl rfl))
        (pss_one (ps_set (i := 1) scBag.nd rfl (.inl rfl) (pe_op op_mod (pe_op op_add (pe_op op_add (pe_op op_mul (pv 1) pe_int) (pe_op op_mod (pv 2) pe_int)) pe_int) pe_int))))
      (pss_one (ps_ret (pe_lst (pa_cons (pe_callTy call_list_of (by rfl) ml (by decide +kernel) (pa_cons (pe_slice sl_list (pv 0) po_none (po_some pe_int)) pa_nil)) (pa_cons pe_int (pa_cons pe_int (pa_cons (pv 1) (pa_cons pe_int pa_nil))))))))), ?_⟩
    obtain ⟨ms, em⟩ := cut63 ns
    refine ⟨_, rfl, 63, rfl, a, _, rfl, hS, fun c nc => ?_⟩
    rw [em]
    have sm : Same H (upd H c (.lst (ms.map V.int))) := same_new nc
    refine ⟨c, rfl, ⟨_, SqL.of upd_same⟩, for_list (K := K) (a := c) (xs := ms.map V.int) (fun i σ H' => ∃ (sa : Int) (y : Option V), σ = [some (.ref a), some (.int sa), y] ∧ 0 ≤ sa ∧ sa < 2147483647 ∧ H' = upd H c (.lst (ms.map V.int))) ⟨9454, none, rfl, by decide, by decide, rfl⟩
      (fun i σ H' _ hP => by obtain ⟨_, _, _, _, _, e⟩ := hP; rw [e]; exact SqL.of upd_same) ?_ ?_⟩
    · rintro i y σ H' hi ⟨sa, y2, rfl, h0, h1, rfl⟩
      obtain ⟨z, rfl⟩ : ∃ z : Int, y = .int z := by
        rw [List.getElem?_map] at hi
        cases e : ms[i]? with
        | none =>
          rw [e] at hi
          cases hi
        | some z =>
          rw [e] at hi
          exact ⟨z, (Option.some.inj hi).symm⟩
      refine ⟨_, rfl, sa, 48611, rfl, rfl, .inr ⟨by decide, by decide⟩, _, rfl, z, 2147483629, rfl, rfl, (by show (0 : Int) < _; decide), _, _, rfl, rfl, _, 23, rfl, rfl, _, 2147483647, rfl, rfl, (by show (0 : Int) < _; decide), ?_⟩
      exact ⟨_, some (.int z), rfl, Int.emod_nonneg _ (by decide), Int.emod_lt_of_pos _ (by decide), rfl⟩
    · rintro σ H' ⟨sa, y2, rfl, h0, h1, rfl⟩
      refine ⟨_, rfl, 63, rfl, a, _, rfl, sm.seq hS, fun c2 nc2 => ?_⟩
      rw [em]
      refine ⟨c2, _, rfl, .inl (SqL.of upd_same), fun l nl => ?_⟩
      refine ⟨_, rfl, (by show 5 ≤ sizeLine; decide), fun b nb => ?_⟩
      have s2 := sm.trans (same_new (o := .lst (ms.map V.int)) nc2)
      have s3 := s2.trans (same_new (o := .lst (ms.map V.int)) nl)
      have s4 := s3.trans (same_new (o := .lst (bagL l 0 0 sa 0)) nb)
      refine q l b _ s4 (s3.free nb) (s2.free nl) ⟨ms, ne_of_none upd_same nb, ?_, ⟨0, 0, sa, 0, upd_same, by decide, by decide, h0, h1⟩⟩
      rw [upd_ne (ne_of_none upd_same nb), upd_same]
end
/-! The law's own comparison: of equal data it tells True. -/
structure Scal (K : PySem.W.Frag) (x : V) : Prop where
  ex : ∃ (t : Value) (b1 b2 b3 : Bool), (∀ H, TyX K H x t) ∧ PySem.W.kitAny K t [.type "list", .type "tuple"] = some false ∧ PySem.W.kitOne K t (.type "bool") = some b1 ∧ PySem.W.kitOne K t (.type "int") = some b2 ∧ PySem.W.kitOne K t (.type "str") = some b3 ∧ scal x x = true
theorem kit2 {K : PySem.W.Frag} {t : String} {a b : String} (h1 : kitB t a = some false) (h2 : kitB t b = some false) : PySem.W.kitAny K (.type t) [.type a, .type b] = some false :=
  kitAny_cons (b := false) (kit_ty h1) (fun _ => kitAny_cons (b := false) (kit_ty h2) (fun _ => kitAny_nil) (fun z => nomatch z)) (fun z => nomatch z)
theorem Scal.int {K : PySem.W.Frag} (i : Int) : Scal K (.int i) := ⟨.type "int", false, true, false, fun _ => .base (.int i), kit2 (by decide +kernel) (by decide +kernel), kit_ty (by decide +kernel), kit_ty (by decide +kernel), kit_ty (by decide +kernel), rfl⟩
theorem Scal.str {K : PySem.W.Frag} (z : Str) : Scal K (.str z) := ⟨.type "str", false, false, true, fun _ => .base (.str z), kit2 (by decide +kernel) (by decide +kernel), kit_ty (by decide +kernel), kit_ty (by decide +kernel), kit_ty (by decide +kernel), rfl⟩
theorem Scal.bl {K : PySem.W.Frag} (b : Bool) : Scal K (.bl b) := ⟨.type "bool", true, true, false, fun _ => .base (.bl b), kit2 (by decide +kernel) (by decide +kernel), kit_ty (by decide +kernel), kit_ty (by decide +kernel), kit_ty (by decide +kernel), rfl⟩
theorem Scal.non {K : PySem.W.Frag} : Scal K .non := ⟨.type "NoneType", false, false, false, fun _ => .base .non, kit2 (by decide +kernel) (by decide +kernel), kit_ty (by decide +kernel), kit_ty (by decide +kernel), kit_ty (by decide +kernel), rfl⟩
/-- x and y are equal data, at most n within one another -/
def Twin (K : PySem.W.Frag) (H : Hp) : Nat → V → V → Prop
  | 0, x, y => x = y ∧ Scal K x
  | n + 1, x, y => (x = y ∧ Scal K x) ∨ ∃ (a b : Addr) (xs ys : List V), x = .ref a ∧ y = .ref b ∧ ((SqL K H a xs ∧ SqL K H b ys) ∨ (SqT K H a xs ∧ SqT K H b ys)) ∧ xs.length = ys.length ∧ ys.length ≤ 1000 ∧ ∀ (i : Nat) (u v : V), xs[i]? = some u → ys[i]? = some v → Twin K H n u v
theorem seqT {K : PySem.W.Frag} {H H' : Hp} {a : Addr} {xs : List V} (e : Same H H') (h : SqT K H a xs) : SqT K H' a xs := by
  rcases h with (h | ⟨o, h⟩) | h
  · exact .inl (.inl (e _ _ h))
  · exact .inl (.inr ⟨o, e _ _ h⟩)
  · exact .inr h
theorem Twin.same {K : PySem.W.Frag} {H H' : Hp} (s : Same H H') : ∀ {n : Nat} {x y : V}, Twin K H n x y → Twin K H' n x y
  | 0, _, _, h => h
  | n + 1, _, _, h => by
    rcases h with h | ⟨a, b, xs, ys, e1, e2, q, l, m, r⟩
    · exact .inl h
    · refine .inr ⟨a, b, xs, ys, e1, e2, ?_, l, m, fun i u v hu hv => (r i u v hu hv).same s⟩
      rcases q with ⟨q1, q2⟩ | ⟨q1, q2⟩
      · exact .inl ⟨s.seq q1, s.seq q2⟩
      · exact .inr ⟨seqT s q1, seqT s q2⟩
theorem Twin.one {K : PySem.W.Frag} {H : Hp} {x : V} (s : Scal K x) : ∀ n : Nat, Twin K H n x x
  | 0 => ⟨rfl, s⟩
  | _ + 1 => .inl ⟨rfl, s⟩
theorem tyL {K : PySem.W.Frag} {H : Hp} {a : Addr} {xs : List V} (h : SqL K H a xs) : TyX K H (.ref a) (.type "list") := by
  rcases h with (h | ⟨o, h⟩) | ⟨o, its, n, h1, h2, _⟩
  · exact .base (.lst h)
  · exact .base (.frz h)
  · exact .kList h1 h2
theorem tyT {K : PySem.W.Frag} {H : Hp} {a : Addr} {xs : List V} (h : SqT K H a xs) : TyX K H (.ref a) (.type "tuple") := by
  rcases h with (h | ⟨o, h⟩) | ⟨o, its, n, h1, h2, _⟩
  · exact .base (.tup h)
  · exact .fTuple h
  · exact .kTuple h1 h2
abbrev sSame : Stmt := topS 53
theorem scSame : FnScope ["_law_found", "_law_due", "_law_k"] ["_law_found", "_law_due"] (defScope sSame) := ⟨rfl, rfl, rfl, by decide +kernel, rfl, by decide +kernel, by decide +kernel⟩
def spSame (K : PySem.W.Frag) (n : Nat) : Sp := fun vs H Q _ => ∃ x y : V, vs = [x, y] ∧ Twin K H n x y ∧ ∀ H', Same H H' → Q (.bl true) H'
/-- the names that the comparison reads stand for the built-in ones -/
structure Blt (mg : Str → Option Value) : Prop where
  isi : mg "isinstance" = none
  lst : mg "list" = none
  tup : mg "tuple" = none
  len : mg "len" = none
  all : mg "all" = none
  rng : mg "range" = none
  bol : mg "bool" = none
  int : mg "int" = none
  str : mg "str" = none
  abs : mg "abs" = none
section
variable {P : Program} {w : World} {K : PySem.W.Frag} {mg : Str → Option Value} {base : Heap}
theorem not_same {b : Bool} {A B : Prop} (h : B) : if (!decide (V.bl b = V.bl b)) = true then A else B := by
  rw [decide_eq_true rfl]
  exact iteF h
theorem yes_if {σ : L2.St} {H : Hp} {A B : Hp → Prop} (h : A H) : tYes σ H fun b H3 => if b = true then A H3 else B H3 := by
  show if true = true then A H else B H
  exact iteT h
theorem ok_same {f : Addr} {fd : FuncData} (F : Fun K "_law_same" "_law_same" sSame f fd) (gf : mg "_law_same" = some (.ref f)) (bf : Binds K fd ["_law_found", "_law_due"] []) (T : Blt mg) :
    ∀ n : Nat, FnOk P w K mg base CX0 (n + 1) f fd ["_law_found", "_law_due"] (spSame K n) := by
  have top : ∀ (n k : Nat), (n = 0 ∨ ∃ m, n = m + 1 ∧ k = m + 1 ∧ FnOk P w K mg base CX0 (m + 1) f fd ["_law_found", "_law_due"] (spSame K m)) → FnOk P w K mg base CX0 (k + 1) f fd ["_law_found", "_law_due"] (spSame K n) := by
    intro n k hn
    -- what the recursion keeps: nothing at depth 0
    have G : ∃ (j : Nat) (sp : Sp), j ≤ k ∧ FnOk P w K mg base CX0 j f fd ["_law_found", "_law_due"] sp ∧ ∀ m, n = m + 1 → sp = spSame K m := by
      rcases hn with e | ⟨m, e, ek, g⟩
      · subst e
        exact ⟨0, fun _ _ _ _ => False, Nat.zero_le _, ⟨fun _ _ _ _ z => z.elim, fun _ _ _ _ _ _ _ _ _ _ _ _ _ z => z.elim⟩, fun m z => nomatch z⟩
      · exact ⟨m + 1, spSame K m, by omega, g, fun m' z => by rw [e] at z; cases z; rfl⟩
    obtain ⟨j, sp, hj, g, hsp⟩ := G
    refine F.ok scSame (fun vs H Q E h => ?_) (fun cdv A outer s H vs Q E hr h => ?_)
    · obtain ⟨x, y, rfl, _⟩ := h
      rfl
    · obtain ⟨x, y, rfl, tw, q⟩ := h
      refine ⟨_, pss_cons (ps_if (pt_val (pe_callB call_isiT (by rfl) T.isi (by decide +kernel) (pa_cons (pv 1) (pa_cons (pe_tup (pa_cons (pe_bltn (v := .ty "list") (by rfl) T.lst (by decide +kernel) rfl) (pa_cons (pe_bltn (v := .ty "tuple") (by rfl) T.tup (by decide +kernel) rfl) pa_nil))) pa_nil))))
          (pss_cons (ps_if (PW.pt (pw_or (pt_cmpR op_ne (pe_callB call_isi (by rfl) T.isi (by decide +kernel) (pa_cons (pv 0) (pa_cons (pe_bltn (v := .ty "list") (by rfl) T.lst (by decide +kernel) rfl) pa_nil))) (pe_callB call_isi (by rfl) T.isi (by decide +kernel) (pa_cons (pv 1) (pa_cons (pe_bltn (v := .ty "list") (by rfl) T.lst (by decide +kernel) rfl) pa_nil))) (nomark _))
              (pw_or1 (pt_cmpR op_ne (pe_callB call_isi (by rfl) T.isi (by decide +kernel) (pa_cons (pv 0) (pa_cons (pe_bltn (v := .ty "tuple") (by rfl) T.tup (by decide +kernel) rfl) pa_nil))) (pe_callB call_isi (by rfl) T.isi (by decide +kernel) (pa_cons (pv 1) (pa_cons (pe_bltn (v := .ty "tuple") (by rfl) T.tup (by decide +kernel) rfl) pa_nil))) (nomark _))))) (pss_one (ps_ret pe_bl)) pss_nil)
          (pss_one (ps_ret (pe_and (pe_cmpR op_eq (pe_callB call_len_seq (by rfl) T.len PySem.boot_len (pa_cons (pv 0) pa_nil)) (pe_callB call_len_seq (by rfl) T.len PySem.boot_len (pa_cons (pv 1) pa_nil)) (nomark _))
            (pe_one (pe_callB (cr_all rfl) (by rfl) T.all (by decide +kernel) (pa_cons (pe_lc (own := [("_law_k", 2)]) (g := gName 2) (tt := tYes) rfl scSame.nd (pi_range1 (by rfl) T.rng (pa_cons (pe_callB call_len_seq (by rfl) T.len PySem.boot_len (pa_cons (pv 1) pa_nil)) pa_nil))
              (blkOk_by (N := ["_law_found", "_law_due", "_law_k"]) (sc := defScope sSame) (by decide +kernel)) (fun _ _ _ _ _ => pg_name (i := 2) scSame.nd rfl (Or.inl rfl)) (fun _ _ _ _ _ => pts_nil)
              (fun _ _ _ _ _ => pe_call g (hr.mono hj) (by rfl) gf F.kp bf .nil pass0 (pa_cons (pe_ix (r := rIx K) ix_seq (pv 0) (pv 2) (fun _ _ => rfl)) (pa_cons (pe_ix (r := rIx K) ix_seq (pv 1) (pv 2) (fun _ _ => rfl)) pa_nil)))) pa_nil))))))) pss_nil)
        (pss_cons (ps_if (PW.pt (pw_or (pt_cmpR op_isN (pv 1) pe_non (nomark _)) (pw_or1 (pt_cmpR op_isN (pv 0) pe_non (nomark _))))) (pss_one (ps_ret (pe_and (pe_cmpR op_isN (pv 0) pe_non (nomark _)) (pe_one (pe_cmpR op_isN (pv 1) pe_non (nomark _)))))) pss_nil)
        (pss_cons (ps_if (PW.pt (pw_or (pt_cmpR op_ne (pe_callB call_isi (by rfl) T.isi (by decide +kernel) (pa_cons (pv 1) (pa_cons (pe_bltn (v := .ty "bool") (by rfl) T.bol (by decide +kernel) rfl) pa_nil))) (pe_callB call_isi (by rfl) T.isi (by decide +kernel) (pa_cons (pv 0) (pa_cons (pe_bltn (v := .ty "bool") (by rfl) T.bol (by decide +kernel) rfl) pa_nil))) (nomark _))
              (pw_or1 (pt_cmpR op_ne (pe_callB call_isi (by rfl) T.isi (by decide +kernel) (pa_cons (pv 1) (pa_cons (pe_bltn (v := .ty "int") (by rfl) T.int (by decide +kernel) rfl) pa_nil))) (pe_callB call_isi (by rfl) T.isi (by decide +kernel) (pa_cons (pv 0) (pa_cons (pe_bltn (v := .ty "int") (by rfl) T.int (by decide +kernel) rfl) pa_nil))) (nomark _))))) (pss_one (ps_ret pe_bl)) pss_nil)
        (pss_one (ps_ret (pe_and (pe_cmpR op_eq (pe_callB call_isi (by rfl) T.isi (by decide +kernel) (pa_cons (pv 1) (pa_cons (pe_bltn (v := .ty "str") (by rfl) T.str (by decide +kernel) rfl) pa_nil))) (pe_callB call_isi (by rfl) T.isi (by decide +kernel) (pa_cons (pv 0) (pa_cons (pe_bltn (v := .ty "str") (by rfl) T.str (by decide +kernel) rfl) pa_nil))) (nomark _))
            (pe_one (pe_cmpR op_eq (pv 0) (pv 1) (nomark _)))))))), ?_⟩
      refine ⟨_, rfl, (by show 2 ≤ sizeLine; decide), fun c nc => ?_⟩
      have sm : Same H (upd H c (.tup [.ty "list", .ty "tuple"])) := same_new nc
      have lt : Paired ClsV [V.ty "list", V.ty "tuple"] [.type "list", .type "tuple"] := .cons (.ty _) (.cons (.ty _) .nil)
      by_cases hs : x = y ∧ Scal K x
      · obtain ⟨rfl, ⟨t, b1, b2, b3, ty, k0, k1, k2, k3, ks⟩⟩ := hs
        refine ⟨x, c, _, t, _, false, rfl, upd_same, lt, ty _, k0, _, rfl, iteF ?_⟩
        refine ⟨_, rfl, rfl, _, rfl, ite2 (fun e => ?_) (fun e => ?_)⟩
        · have en : x = .non := of_decide_eq_true e
          subst en
          refine iteT ⟨_, rfl, rfl, _, rfl, iteT ⟨_, rfl, rfl, ?_⟩⟩
          exact q _ sm
        · refine ⟨_, rfl, rfl, _, rfl, ?_⟩
          rw [eq_false_of_ne_true e]
          refine iteF ?_
          refine ⟨_, rfl, x, _, t, _, b1, rfl, .ty _, ty _, k1, _, rfl, x, _, t, _, b1, rfl, .ty _, ty _, k1, rfl, _, rfl, not_same ?_⟩
          refine ⟨_, rfl, x, _, t, _, b2, rfl, .ty _, ty _, k2, _, rfl, x, _, t, _, b2, rfl, .ty _, ty _, k2, rfl, _, rfl, not_same ?_⟩
          refine ⟨_, rfl, x, _, t, _, b3, rfl, .ty _, ty _, k3, _, rfl, x, _, t, _, b3, rfl, .ty _, ty _, k3, rfl, _, rfl, ?_⟩
          rw [decide_eq_true rfl]
          refine iteT ⟨_, rfl, _, rfl, ks, ?_⟩
          rw [decide_eq_true rfl]
          exact q _ sm
      · cases n with
        | zero => exact absurd tw hs
        | succ m =>
          have esp := hsp m rfl
          subst esp
          rcases tw with tw | ⟨a, b, xs, ys, rfl, rfl, kd, hl, hl2, r⟩
          · exact absurd tw hs
          · have kd' : ∀ H', Same H H' → (SqL K H' a xs ∧ SqL K H' b ys) ∨ (SqT K H' a xs ∧ SqT K H' b ys) := fun H' z => by
              rcases kd with ⟨q1, q2⟩ | ⟨q1, q2⟩
              · exact .inl ⟨z.seq q1, z.seq q2⟩
              · exact .inr ⟨seqT z q1, seqT z q2⟩
            have tys : ∃ (t : Value) (b1 b2 : Bool), (∀ H', Same H H' → TyX K H' (.ref a) t ∧ TyX K H' (.ref b) t) ∧ PySem.W.kitAny K t [.type "list", .type "tuple"] = some true ∧ PySem.W.kitOne K t (.type "list") = some b1 ∧ PySem.W.kitOne K t (.type "tuple") = some b2 := by
              rcases kd with ⟨q1, q2⟩ | ⟨q1, q2⟩
              · exact ⟨.type "list", true, false, fun H' z => ⟨tyL (z.seq q1), tyL (z.seq q2)⟩, kitAny_cons (b := true) (kit_ty (by decide +kernel)) (fun z => nomatch z) (fun _ => rfl), kit_ty (by decide +kernel), kit_ty (by decide +kernel)⟩
              · exact ⟨.type "tuple", false, true, fun H' z => ⟨tyT (seqT z q1), tyT (seqT z q2)⟩, kitAny_cons (b := false) (kit_ty (by decide +kernel)) (fun _ => kitAny_cons (b := true) (kit_ty (by decide +kernel)) (fun z => nomatch z) (fun _ => rfl)) (fun z => nomatch z), kit_ty (by decide +kernel), kit_ty (by decide +kernel)⟩
            obtain ⟨t, b1, b2, ty, k0, k1, k2⟩ := tys
            have ls : ∀ H', Same H H' → (SqL K H' a xs ∨ SqT K H' a xs) ∧ (SqL K H' b ys ∨ SqT K H' b ys) := fun H' z => by
              rcases kd' H' z with ⟨q1, q2⟩ | ⟨q1, q2⟩
              · exact ⟨.inl q1, .inl q2⟩
              · exact ⟨.inr q1, .inr q2⟩
            have ixs : ∀ (H' : Hp), Same H H' → ∀ (zs : List V) (z : Addr) (i : Nat) (v : V) (Q' : VK), (SqL K H' z zs ∨ SqT K H' z zs) → zs[i]? = some v → Q' v H' → rIx K (.ref z) (.int (0 + (i : Int))) H' Q' := fun H' _ zs z i v Q' hz hv hq => by
              have e : (0 : Int) + (i : Int) = (i : Int) := Int.zero_add _
              rw [e]
              rcases hz with hz | hz
              · exact .inl ⟨z, zs, i, v, rfl, rfl, hz, atI_nat hv, hq⟩
              · exact .inr (.inl ⟨z, zs, i, v, rfl, rfl, hz, atI_nat hv, hq⟩)
            refine ⟨_, c, _, t, _, true, rfl, upd_same, lt, (ty _ sm).2, k0, _, rfl, iteT ?_⟩
            refine ⟨_, rfl, _, _, t, _, b1, rfl, .ty _, (ty _ sm).1, k1, _, rfl, _, _, t, _, b1, rfl, .ty _, (ty _ sm).2, k1, rfl, _, rfl, not_same ?_⟩
            refine ⟨_, rfl, _, _, t, _, b2, rfl, .ty _, (ty _ sm).1, k2, _, rfl, _, _, t, _, b2, rfl, .ty _, (ty _ sm).2, k2, rfl, _, rfl, not_same ?_⟩
            refine ⟨_, rfl, a, xs, rfl, (ls _ sm).1, _, rfl, b, ys, rfl, (ls _ sm).2, rfl, _, rfl, ?_⟩
            rw [hl, decide_eq_true rfl]
            refine iteT ⟨_, rfl, b, ys, rfl, (ls _ sm).2, (ys.length : Int), rfl, by omega, by omega, fun D hD => ?_⟩
            have sD := sm.trans (same_new (o := .lst []) hD)
            refine lc_range (lo := 0) (n := (ys.length : Int).toNat) (fun i H' => Same H H' ∧ H D = none ∧ H' D = some (.lst ((List.replicate i true).map V.bl))) ⟨sD, sm.free hD, upd_same⟩ (fun i H' hi hP => ?_) (fun H' hP => ?_)
            · obtain ⟨s1, nD, eD⟩ := hP
              have hi' : i < ys.length := by omega
              have hx : xs[i]? = some (xs[i]'(by omega)) := List.getElem?_eq_getElem (by omega)
              have hy : ys[i]? = some ys[i] := List.getElem?_eq_getElem hi'
              refine ⟨rfl, yes_if ?_⟩
              refine ⟨_, rfl, _, rfl, ixs H' s1 xs a i _ _ (ls _ s1).1 hx ⟨_, rfl, _, rfl, ixs H' s1 ys b i _ _ (ls _ s1).2 hy ⟨_, _, rfl, (r i _ _ hx hy).same s1, fun H2 s2 => ?_⟩⟩⟩
              refine ⟨_, s2 _ _ eD, ?_, ?_, nD, ?_⟩
              · rw [List.length_map, List.length_replicate]
                exact small1000 (by omega)
              · exact fun z o hz => by
                  rw [upd_ne (ne_of_none hz nD)]
                  exact s2 _ _ (s1 _ _ hz)
              · rw [upd_same, List.replicate_succ', List.map_append]
                rfl
            · obtain ⟨s1, nD, eD⟩ := hP
              refine ⟨D, List.replicate (ys.length : Int).toNat true, rfl, SqL.of eD, ?_⟩
              have e : (List.replicate (ys.length : Int).toNat true).all id = true := by
                rw [List.all_replicate]
                split <;> rfl
              rw [e]
              exact q _ s1
  intro n
  induction n with
  | zero => exact top 0 0 (.inl rfl)
  | succ m ih => exact top (m + 1) (m + 1) (.inr ⟨m, rfl, rfl, ih⟩)
end
open LamX
/-- keep, behind a statement -/
theorem keepN {a b : TS} {D : Ends} {rt : VK} {bk ct : L2.St → Hp → Prop} {σ : L2.St} {H : Hp} (M : L2.St → Hp → Prop) (h : ∀ σ' H', M σ' H' → b D σ' H') (k : (∀ σ' H', M σ' H' → b D σ' H') → a { D with nx := b D } σ H) : Ends.nx { nx := tSeq a b D, rt := rt, bk := bk, ct := ct } σ H := k h
/-- the bag and the tables of code objects stand -/
structure Ok (l b : Addr) (T : List (Addr × Str)) (H : Hp) : Prop where
  bag : Bag l b H
  tab : Tabs T H
theorem tabs_lst {D : Addr} {xs : List V} {T : List (Addr × Str)} {H H' : Hp} (hD : H D = some (.lst xs)) (t : Tabs T H) (g : Grow D H H') : Tabs T H' := fun p hp => by
  obtain ⟨ps, h1, h2, h3⟩ := t p hp
  refine ⟨ps, g _ _ (fun z => ?_) h1, h2, fun pos cv hc => ?_⟩
  · rw [z, hD] at h1
    cases h1
  · obtain ⟨c, e1, e2⟩ := h3 pos cv hc
    refine ⟨c, e1, g _ _ (fun z => ?_) e2⟩
    rw [z, hD] at e2
    have e3 := Option.some.inj e2
    unfold CodeO at e3
    cases e3
theorem tabs_grow {l b : Addr} {T : List (Addr × Str)} {H H' : Hp} (B : Bag l b H) (t : Tabs T H) (g : Grow b H H') : Tabs T H' := by
  obtain ⟨ns, _, _, ⟨i, j, s, n, hb, _⟩⟩ := B
  exact tabs_lst hb t g
theorem Ok.grow {l b : Addr} {T : List (Addr × Str)} {H H' : Hp} (o : Ok l b T H) (g : Grow b H H') (B : Bag l b H') : Ok l b T H' := ⟨B, tabs_grow o.bag o.tab g⟩
theorem Ok.same {l b : Addr} {T : List (Addr × Str)} {H H' : Hp} (o : Ok l b T H) (s : Same H H') : Ok l b T H' := ⟨o.bag.same s, o.tab.ext s⟩
theorem Ok.ext {l b : Addr} {T : List (Addr × Str)} {H H' : Hp} (o : Ok l b T H) (e : ExtN H H') (t : Tabs T H') : Ok l b T H' := by
  obtain ⟨ns, nl, hl, ⟨i, j, s, n, hb, r⟩⟩ := o.bag
  exact ⟨⟨ns, nl, e _ _ hl (fun _ z => nomatch z), ⟨i, j, s, n, e _ _ hb (fun _ z => nomatch z), r⟩⟩, t⟩
/-- a list that is being built stands beside the bag -/
theorem Bag.beside {l b D : Addr} {H : Hp} {o : HO} (B : Bag l b H) (n1 : D ≠ b) (n2 : D ≠ l) : Bag l b (upd H D o) := by
  obtain ⟨ns, nl, hl, ⟨i, j, s, n, hb, r⟩⟩ := B
  exact ⟨ns, nl, by rw [upd_ne n2.symm]; exact hl, ⟨i, j, s, n, by rw [upd_ne n1.symm]; exact hb, r⟩⟩
theorem Bag.neL {l b p : Addr} {H : Hp} (B : Bag l b H) (h : H p = none) : p ≠ l := fun z => by
  obtain ⟨ns, nl, hl, _⟩ := B
  rw [z, hl] at h
  cases h
def shV (t b : Int) : HO := .tup [.int t, .int b]
theorem twin_sh {K : PySem.W.Frag} {H : Hp} {p q : Addr} {t b : Int} (hp : H p = some (shV t b)) (hq : H q = some (shV t b)) : Twin K H 1 (.ref p) (.ref q) :=
  .inr ⟨p, q, _, _, rfl, rfl, .inr ⟨SqT.of hp, SqT.of hq⟩, rfl, (by show 2 ≤ 1000; decide), fun i u v hu hv => by
    have e : u = v := Option.some.inj (hu.symm.trans hv)
    subst e
    match i with
    | 0 => cases hu; exact ⟨rfl, Scal.int t⟩
    | 1 => cases hu; exact ⟨rfl, Scal.int b⟩
    | i + 2 => cases hu⟩
theorem Twin.up {K : PySem.W.Frag} {H : Hp} : ∀ {n : Nat} {x y : V}, Twin K H n x y → Twin K H (n + 1) x y
  | 0, _, _, h => .inl h
  | n + 1, _, _, h => by
    rcases h with h | ⟨a, b, xs, ys, e1, e2, q, l, m, r⟩
    · exact .inl h
    · exact .inr ⟨a, b, xs, ys, e1, e2, q, l, m, fun i u v hu hv => (r i u v hu hv).up⟩
theorem paired_at {R : V → V → Prop} : ∀ {xs ys : List V}, Paired R xs ys → ∀ (i : Nat) (u v : V), xs[i]? = some u → ys[i]? = some v → R u v
  | _, _, .nil, _, _, _, hu, _ => by cases hu
  | _, _, .cons h _, 0, _, _, hu, hv => by cases hu; cases hv; exact h
  | _, _, .cons _ r, i + 1, u, v, hu, hv => paired_at r i u v hu hv
/-- lists or tuples item by item -/
theorem twin_all {K : PySem.W.Frag} {H : Hp} {n : Nat} {a b : Addr} {xs ys : List V} (h : (SqL K H a xs ∧ SqL K H b ys) ∨ (SqT K H a xs ∧ SqT K H b ys)) (l : ys.length ≤ 1000) (r : Paired (Twin K H n) xs ys) : Twin K H (n + 1) (.ref a) (.ref b) :=
  .inr ⟨a, b, xs, ys, rfl, rfl, h, Paired.length r, l, paired_at r⟩
end Nv

set_option maxRecDepth 100000
set_option maxHeartbeats 4000000
/-! Reckonings as they stand in memory, some of their tuples perhaps constants of the top (NvTerm, with SqT for the tuples). -/
namespace Nv
open PySem PySem.Spec PyProof.Rows L2
/-- the frag whose constants may be meant -/
class KFx (K : outParam PySem.W.Frag) : Prop where
  yes : True
variable {K : PySem.W.Frag} [KFx K]
/-- a tuple stands there -/
abbrev Tu [KFx K] (H : Hp) (p : Addr) (xs : List V) : Prop := SqT K H p xs
inductive Op where
  | plus | less | times
  deriving DecidableEq
def Op.word : Op → Str
  | .plus => "plus"
  | .less => "less"
  | .times => "times"
/-- a reckoning with the addresses of its tuples -/
inductive AT where
  | sh (p q : Addr) (t b : Int)
  | le (p : Addr) (x : Str)
  | two (p : Addr) (o : Op) (A B : AT)
  | un (p : Addr) (A : AT)
def AT.at_ : AT → Addr
  | .sh p _ _ _ => p
  | .le p _ => p
  | .two p _ _ _ => p
  | .un p _ => p
def AT.v (T : AT) : V := .ref T.at_
def AT.word : AT → Str
  | .sh _ _ _ _ => "share"
  | .le _ _ => "letter"
  | .two _ o _ _ => o.word
  | .un _ _ => "undo"
def AT.kids : AT → List AT
  | .sh _ _ _ _ => []
  | .le _ _ => []
  | .two _ _ A B => [A, B]
  | .un _ A => [A]
/-- what stands in its tuple behind the word -/
def AT.rest : AT → List V
  | .sh _ q _ _ => [.ref q]
  | .le _ x => [.str x]
  | .two _ _ A B => [A.v, B.v]
  | .un _ A => [A.v]
def AT.items (T : AT) : List V := .str T.word :: T.rest
/-- its tuples stand so -/
def AT.In (H : Hp) : AT → Prop
  | .sh p q t b => Tu H p [.str "share", .ref q] ∧ Tu H q [.int t, .int b]
  | .le p x => Tu H p [.str "letter", .str x]
  | .two p o A B => Tu H p [.str o.word, A.v, B.v] ∧ A.In H ∧ B.In H
  | .un p A => Tu H p [.str "undo", A.v] ∧ A.In H
def AT.parts : AT → List AT
  | .two p o A B => .two p o A B :: (A.parts ++ B.parts)
  | .un p A => .un p A :: A.parts
  | T => [T]
def AT.count : AT → Nat
  | .two _ _ A B => 1 + A.count + B.count
  | .un _ A => 1 + A.count
  | _ => 1
def AT.deep : AT → Nat
  | .two _ _ A B => max A.deep B.deep
  | .un _ A => A.deep + 1
  | _ => 0
/-- its letters, by places -/
def AT.lets : AT → List Str
  | .le _ x => [x]
  | .two _ _ A B => A.lets ++ B.lets
  | .un _ A => A.lets
  | _ => []
def AT.undos : AT → Nat → List Nat
  | .two _ _ A B, n => A.undos (n + 1) ++ B.undos (n + 1 + A.count)
  | .un _ A, n => A.undos (n + 1) ++ [n]
  | _, _ => []
/-- a letter is a text of 1 to 6 small letters -/
structure Small (x : Str) : Prop where
  lo : 1 ≤ x.length
  hi : x.length ≤ 6
  all : ∀ c ∈ x.cps.toList, c ∈ (Str.ofString "abcdefghijklmnopqrstuvwxyz").cps.toList
structure ShOk (t b : Int) : Prop where
  top : t.natAbs < 10 ^ 12
  bot : b < 10 ^ 12
  pos : 1 ≤ b
  low : Int.gcd t b = 1
/-- its shares and letters are such -/
def AT.Ok : AT → Prop
  | .sh _ _ t b => ShOk t b
  | .le _ x => Small x
  | .two _ _ A B => A.Ok ∧ B.Ok
  | .un _ A => A.Ok
/-- tuples stay -/
def TupKeep [KFx K] (H H' : Hp) : Prop := ∀ a xs, Tu H a xs → Tu H' a xs
theorem TupKeep.refl (H : Hp) : TupKeep H H := fun _ _ h => h
theorem TupKeep.trans {H H1 H2 : Hp} (x : TupKeep H H1) (y : TupKeep H1 H2) : TupKeep H H2 := fun a xs h => y a xs (x a xs h)
theorem tk_by {H H' : Hp} (h : ∀ a o, H a = some o → (∀ ys, o ≠ .lst ys) → (∀ ys, o ≠ .dK ys) → H' a = some o) : TupKeep H H' := fun a xs e => by
  rcases e with (e | ⟨o, e⟩) | e
  · exact .inl (.inl (h _ _ e (fun _ z => nomatch z) fun _ z => nomatch z))
  · exact .inl (.inr ⟨o, h _ _ e (fun _ z => nomatch z) fun _ z => nomatch z⟩)
  · exact .inr e
theorem Same.tk {H H' : Hp} (s : Same H H') : TupKeep H H' := tk_by fun a o e _ _ => s a o e
theorem tk_new {H : Hp} {p : Addr} {o : HO} (h : H p = none) : TupKeep H (upd H p o) := tk_by fun a u e _ _ => by
  rw [upd_ne (ne_of_none e h)]
  exact e
/-- a list is stored to -/
theorem tk_lst {H : Hp} {p : Addr} {ys : List V} {o : HO} (h : H p = some (.lst ys)) : TupKeep H (upd H p o) := tk_by fun a u e n _ => by
  rw [upd_ne (fun z => by rw [z, h] at e; cases e; exact n _ rfl)]
  exact e
theorem AT.In.keep {H H' : Hp} (k : TupKeep H H') : ∀ {T : AT}, T.In H → T.In H'
  | .sh _ _ _ _, h => ⟨k _ _ h.1, k _ _ h.2⟩
  | .le _ _, h => k _ _ h
  | .two _ _ _ _, h => ⟨k _ _ h.1, h.2.1.keep k, h.2.2.keep k⟩
  | .un _ _, h => ⟨k _ _ h.1, h.2.keep k⟩
theorem AT.In.tup {H : Hp} : ∀ {T : AT}, T.In H → Tu H T.at_ T.items
  | .sh _ _ _ _, h => h.1
  | .le _ _, h => h
  | .two _ _ _ _, h => h.1
  | .un _ _, h => h.1
theorem AT.In.kid {H : Hp} : ∀ {T : AT}, T.In H → ∀ A ∈ T.kids, A.In H
  | .sh _ _ _ _, _, _, hA => nomatch hA
  | .le _ _, _, _, hA => nomatch hA
  | .two _ _ _ _, h, A, hA => by
    rcases List.mem_cons.mp hA with e | e
    · rw [e]; exact h.2.1
    · rw [List.mem_singleton.mp e]; exact h.2.2
  | .un _ _, h, A, hA => by rw [List.mem_singleton.mp hA]; exact h.2
theorem AT.Ok.kid : ∀ {T : AT}, T.Ok → ∀ A ∈ T.kids, A.Ok
  | .sh _ _ _ _, _, _, hA => nomatch hA
  | .le _ _, _, _, hA => nomatch hA
  | .two _ _ _ _, h, A, hA => by
    rcases List.mem_cons.mp hA with e | e
    · rw [e]; exact h.1
    · rw [List.mem_singleton.mp e]; exact h.2
  | .un _ _, h, A, hA => by rw [List.mem_singleton.mp hA]; exact h
theorem AT.count_pos : ∀ T : AT, 1 ≤ T.count
  | .sh _ _ _ _ => Nat.le_refl _
  | .le _ _ => Nat.le_refl _
  | .two _ _ A B => by show 1 ≤ 1 + A.count + B.count; omega
  | .un _ A => by show 1 ≤ 1 + A.count; omega
theorem AT.parts_len : ∀ T : AT, T.parts.length = T.count
  | .sh _ _ _ _ => rfl
  | .le _ _ => rfl
  | .two _ _ A B => by
    show (A.parts ++ B.parts).length + 1 = 1 + A.count + B.count
    rw [List.length_append, A.parts_len, B.parts_len]
    omega
  | .un _ A => by
    show A.parts.length + 1 = 1 + A.count
    rw [A.parts_len]
    omega
theorem AT.parts_eq : ∀ T : AT, T.parts = T :: (T.kids.map AT.parts).flatten
  | .sh _ _ _ _ => rfl
  | .le _ _ => rfl
  | .two _ _ A B => by simp [AT.parts, AT.kids]
  | .un _ A => by simp [AT.parts, AT.kids]
theorem AT.count_eq : ∀ T : AT, T.count = 1 + (T.kids.map AT.count).sum
  | .sh _ _ _ _ => rfl
  | .le _ _ => rfl
  | .two _ _ A B => by simp [AT.count, AT.kids]; omega
  | .un _ A => by simp [AT.count, AT.kids]
theorem AT.kid_count : ∀ {T A : AT}, A ∈ T.kids → A.count < T.count
  | .sh _ _ _ _, _, h => nomatch h
  | .le _ _, _, h => nomatch h
  | .two _ _ A B, C, h => by
    show C.count < 1 + A.count + B.count
    rcases List.mem_cons.mp h with e | e
    · rw [e]; omega
    · rw [List.mem_singleton.mp e]; omega
  | .un _ A, C, h => by
    show C.count < 1 + A.count
    rw [List.mem_singleton.mp h]
    omega
theorem AT.In.parts {H : Hp} : ∀ {T : AT}, T.In H → ∀ A ∈ T.parts, A.In H
  | .sh _ _ _ _, h, A, hA => by rw [List.mem_singleton.mp hA]; exact h
  | .le _ _, h, A, hA => by rw [List.mem_singleton.mp hA]; exact h
  | .two _ _ _ _, h, A, hA => by
    rcases List.mem_cons.mp hA with e | e
    · rw [e]; exact h
    · rcases List.mem_append.mp e with e | e
      · exact h.2.1.parts A e
      · exact h.2.2.parts A e
  | .un _ _, h, A, hA => by
    rcases List.mem_cons.mp hA with e | e
    · rw [e]; exact h
    · exact h.2.parts A e
theorem AT.kids_len : ∀ T : AT, T.kids.length ≤ 2
  | .sh _ _ _ _ => Nat.zero_le _
  | .le _ _ => Nat.zero_le _
  | .two _ _ _ _ => Nat.le_refl _
  | .un _ _ => by show 1 ≤ 2; omega
/-- the letters, by the parts -/
theorem AT.lets_parts : ∀ T : AT, T.lets = (T.parts.filterMap fun A => match A with | .le _ x => some x | _ => none)
  | .sh _ _ _ _ => rfl
  | .le _ _ => rfl
  | .two p o A B => by
    show A.lets ++ B.lets = _
    rw [A.lets_parts, B.lets_parts]
    show _ = (List.filterMap _ (AT.two p o A B :: (A.parts ++ B.parts)))
    rw [List.filterMap_cons_none rfl, List.filterMap_append]
  | .un p A => by
    show A.lets = _
    rw [A.lets_parts]
    show _ = (List.filterMap _ (AT.un p A :: A.parts))
    rw [List.filterMap_cons_none rfl]
end Nv

set_option maxRecDepth 100000
set_option maxHeartbeats 4000000
namespace Nv
open PySem PySem.Spec PyProof.Rows L2
variable {K : PySem.W.Frag} [KFx K]
abbrev sNum : Stmt := topS 35
abbrev sIsSh : Stmt := topS 36
abbrev sIsLe : Stmt := topS 37
abbrev sBuilt : Stmt := topS 38
abbrev sThings : Stmt := topS 39
theorem scNum : FnScope ["thing"] ["thing"] (defScope sNum) := ⟨rfl, rfl, rfl, by decide +kernel, rfl, by decide +kernel, by decide +kernel⟩
theorem scIsSh : FnScope ["thing", "top", "bottom"] ["thing"] (defScope sIsSh) := ⟨rfl, rfl, rfl, by decide +kernel, rfl, by decide +kernel, by decide +kernel⟩
theorem scIsLe : FnScope ["thing", "sign"] ["thing"] (defScope sIsLe) := ⟨rfl, rfl, rfl, by decide +kernel, rfl, by decide +kernel, by decide +kernel⟩
theorem scBuilt : FnScope ["thing", "word"] ["thing"] (defScope sBuilt) := ⟨rfl, rfl, rfl, by decide +kernel, rfl, by decide +kernel, by decide +kernel⟩
theorem scThings : FnScope ["term"] ["term"] (defScope sThings) := ⟨rfl, rfl, rfl, by decide +kernel, rfl, by decide +kernel, by decide +kernel⟩
/-- the module's constants -/
structure Consts (K : PySem.W.Frag) (mg : Str → Option Value) (o2 : Addr) : Prop where
  parts : ∃ t, mg "MOST_PARTS" = some (.int 24 t)
  lets : ∃ t, mg "MOST_LETTERS" = some (.int 4 t)
  deep : ∃ t, mg "MOST_DEEP" = some (.int 4 t)
  signs : ∃ t, mg "MOST_SIGNS" = some (.int 6 t)
  small : ∃ t, mg "SMALL_LETTERS" = some (.str "abcdefghijklmnopqrstuvwxyz" t)
  great : ∃ t, mg "TOO_GREAT" = some (.int (10 ^ 12) t)
  two : mg "OF_TWO" = some (.ref o2)
  twoIs : ∀ H, SqT K H o2 [.str "plus", .str "less", .str "times"]
theorem ifP {p : Prop} [Decidable p] {A B : Prop} (hp : p) (h : A) : if decide p = true then A else B := by rw [decide_eq_true hp]; exact iteT h
theorem ifN {p : Prop} [Decidable p] {A B : Prop} (hp : ¬ p) (h : B) : if decide p = true then A else B := by rw [decide_eq_false hp]; exact iteF h
theorem ifNP {p : Prop} [Decidable p] {A B : Prop} (hp : p) (h : B) : if (!decide p) = true then A else B := by rw [decide_eq_true hp]; exact iteF h
theorem ifNN {p : Prop} [Decidable p] {A B : Prop} (hp : ¬ p) (h : A) : if (!decide p) = true then A else B := by rw [decide_eq_false hp]; exact iteT h
section
variable {P : Program} {w : World} {mg : Str → Option Value} {base : Heap} {o2 : Addr}
def spNum : Sp := fun vs H Q _ => ∃ i : Int, vs = [.int i] ∧ Q (.bl true) H
theorem ok_num {f : Addr} {fd : FuncData} {k : Nat} (F : Fun K "is_number" "is_number" sNum f fd) (T : Blt mg) : FnOk P w K mg base CX0 (k + 1) f fd ["thing"] spNum := by
  refine F.ok scNum (fun vs H Q E h => ?_) (fun cdv A outer s H vs Q E hr h => ?_)
  · obtain ⟨i, rfl, _⟩ := h
    rfl
  · obtain ⟨i, rfl, q⟩ := h
    refine ⟨_, pss_one (ps_ret (pe_and (pe_callB call_isi (by rfl) T.isi (by decide +kernel) (pa_cons (pv 0) (pa_cons (pe_bltn (v := .ty "int") (by rfl) T.int (by decide +kernel) rfl) pa_nil)))
      (pe_one (pe_not (pe_callB call_isi (by rfl) T.isi (by decide +kernel) (pa_cons (pv 0) (pa_cons (pe_bltn (v := .ty "bool") (by rfl) T.bol (by decide +kernel) rfl) pa_nil))))))), ?_⟩
    refine ⟨_, rfl, .int i, _, .type "int", _, true, rfl, .ty _, .base (.int i), kit_ty (by decide +kernel), _, rfl, iteT ?_⟩
    exact ⟨_, rfl, .int i, _, .type "int", _, false, rfl, .ty _, .base (.int i), kit_ty (by decide +kernel), _, rfl, q⟩
def spIsSh : Sp := fun vs H Q _ => ∃ (p : Addr) (t b : Int), vs = [.ref p] ∧ Tu H p [.int t, .int b] ∧ ShOk t b ∧ Q (.bl true) H
theorem ok_isSh {f : Addr} {fd : FuncData} (F : Fun K "is_share" "is_share" sIsSh f fd) (T : Blt mg) (C : Consts K mg o2) (GN : C8.Cal P w K mg base 1 "is_number" spNum []) (GG : C8.Cal P w K mg base 1 "common_divisor" spPGcd []) : FnOk P w K mg base CX0 2 f fd ["thing"] spIsSh := by
  obtain ⟨tg, eg⟩ := C.great
  refine F.ok scIsSh (fun vs H Q E h => ?_) (fun cdv A outer s H vs Q E hr h => ?_)
  · obtain ⟨p, t, b, rfl, _⟩ := h
    rfl
  · obtain ⟨p, t, b, rfl, hp, ok, q⟩ := h
    refine ⟨_, pss_cons (ps_if (PW.pt (pw_or (pt_not (pt_val (pe_callB call_isi (by rfl) T.isi (by decide +kernel) (pa_cons (pv 0) (pa_cons (pe_bltn (v := .ty "tuple") (by rfl) T.tup (by decide +kernel) rfl) pa_nil)))))
          (pw_or1 (pt_cmpR op_ne (pe_callB call_len_seq (by rfl) T.len PySem.boot_len (pa_cons (pv 0) pa_nil)) pe_int (nomark _))))) (pss_one (ps_ret pe_bl)) pss_nil)
      (pss_cons (ps_asg (pv 0) (pg_tup rfl (pgs_cons (pg_name (i := 1) scIsSh.nd rfl (.inl rfl)) (pgs_cons (pg_name (i := 2) scIsSh.nd rfl (.inl rfl)) pgs_nil))))
      (pss_cons (ps_if (PW.pt (pw_or (pt_not (pt_val (C8.pe_c GN hr (by decide) (by rfl) (pa_cons (pv 1) pa_nil)))) (pw_or1 (pt_not (pt_val (C8.pe_c GN hr (by decide) (by rfl) (pa_cons (pv 2) pa_nil))))))) (pss_one (ps_ret pe_bl)) pss_nil)
      (pss_cons (ps_if (PW.pt (pw_or (pt_cmpR op_ge (pe_callB call_abs (by rfl) T.abs (by decide +kernel) (pa_cons (pv 1) pa_nil)) (pe_glob (v := .int (10 ^ 12)) (by rfl) eg ⟨_, rfl⟩) (nomark _))
          (pw_or1 (pt_not (pt_chain op_le op_lt pe_int (pv 2) (pe_glob (v := .int (10 ^ 12)) (by rfl) eg ⟨_, rfl⟩)))))) (pss_one (ps_ret pe_bl)) pss_nil)
      (pss_one (ps_ret (pe_cmpR op_eq (C8.pe_c GG hr (by decide) (by rfl) (pa_cons (pv 1) (pa_cons (pv 2) pa_nil))) pe_int (nomark _))))))), ?_⟩
    refine ⟨_, rfl, _, _, .type "tuple", _, true, rfl, .ty _, tyT hp, kit_ty (by decide +kernel), _, rfl, iteF ?_⟩
    refine ⟨_, rfl, p, _, rfl, .inr hp, rfl, _, rfl, iteF ?_⟩
    refine ⟨_, rfl, p, _, rfl, hp, rfl, _, _, rfl, _, _, rfl, rfl, ?_⟩
    refine ⟨_, rfl, t, rfl, _, rfl, iteF ⟨_, rfl, b, rfl, _, rfl, iteF ?_⟩⟩
    have h1 : (if t < 0 then -t else t) < 10 ^ 12 := by
      have := ok.top
      split <;> omega
    refine ⟨_, rfl, t, rfl, _, _, rfl, rfl, _, rfl, ite2 (fun c => ?_) (fun _ => ?_)⟩
    · have c' := of_decide_eq_true c
      omega
    have k : (10 : Int) ^ 12 = 1000000000000 := by decide
    have h2 := ok.pos
    have h3 := ok.bot
    refine ⟨_, rfl, 1, b, rfl, rfl, _, rfl, ifP h2 ⟨b, _, rfl, rfl, _, rfl, ifNP h3 ?_⟩⟩
    refine ⟨_, rfl, _, rfl, t, b, rfl, Nat.lt_of_le_of_lt (show b.natAbs ≤ 2 ^ 45 by omega) (Nat.pow_lt_pow_right (by decide) (by decide)), rfl, ?_⟩
    rw [ok.low]
    exact q
def spIsLe : Sp := fun vs H Q _ => ∃ x : Str, vs = [.str x] ∧ Small x ∧ ∀ H', Same H H' → Q (.bl true) H'
theorem ok_isLe {f : Addr} {fd : FuncData} {k : Nat} (F : Fun K "is_letter" "is_letter" sIsLe f fd) (T : Blt mg) (C : Consts K mg o2) : FnOk P w K mg base CX0 (k + 1) f fd ["thing"] spIsLe := by
  obtain ⟨tg, eg⟩ := C.signs
  obtain ⟨ts, es⟩ := C.small
  refine F.ok scIsLe (fun vs H Q E h => ?_) (fun cdv A outer s H vs Q E hr h => ?_)
  · obtain ⟨x, rfl, _⟩ := h
    rfl
  · obtain ⟨x, rfl, ok, q⟩ := h
    refine ⟨_, pss_cons (ps_if (PW.pt (pw_or (pt_not (pt_val (pe_callB call_isi (by rfl) T.isi (by decide +kernel) (pa_cons (pv 0) (pa_cons (pe_bltn (v := .ty "str") (by rfl) T.str (by decide +kernel) rfl) pa_nil)))))
          (pw_or1 (pt_not (pt_chain op_le op_le pe_int (pe_callB call_len_str (by rfl) T.len PySem.boot_len (pa_cons (pv 0) pa_nil)) (pe_glob (v := .int 6) (by rfl) eg ⟨_, rfl⟩)))))) (pss_one (ps_ret pe_bl)) pss_nil)
      (pss_one (ps_ret (pe_callB (cr_all rfl) (by rfl) T.all (by decide +kernel) (pa_cons (pe_lc (own := [("sign", 1)]) (g := gName 1) (tt := tYes) rfl scIsLe.nd (pi_str (pv 0)) (blkOk_by (N := ["thing", "sign"]) (sc := defScope sIsLe) (by decide +kernel))
        (fun _ _ _ _ _ => pg_name (i := 1) scIsLe.nd rfl (Or.inl rfl)) (fun _ _ _ _ _ => pts_nil) (fun _ _ _ _ _ => pe_cmpR op_in_sign (pv 1) (pe_glob (v := .str "abcdefghijklmnopqrstuvwxyz") (by rfl) es ⟨_, rfl⟩) (by rfl))) pa_nil)))), ?_⟩
    have hlen : x.length ≤ sizeLine := by have := ok.hi; rw [sizeLine_eq]; omega
    have hlo := ok.lo
    have hhi := ok.hi
    refine ⟨_, rfl, _, _, .type "str", _, true, rfl, .ty _, .base (.str x), kit_ty (by decide +kernel), _, rfl, iteF ?_⟩
    refine ⟨_, rfl, x, rfl, hlen, 1, _, rfl, rfl, _, rfl, ifP (by omega) ⟨_, 6, rfl, rfl, _, rfl, ifNP (by omega) ?_⟩⟩
    refine ⟨_, rfl, _, rfl, fun D hD => ?_⟩
    refine lc_it (walk_str (z := x)) (fun i H' => Same H H' ∧ H' D = some (.lst ((List.replicate i true).map V.bl))) ⟨same_new hD, upd_same⟩ (fun _ _ _ _ => trivial) (fun i c H1 H2 hi hP hY => ?_) (fun H' hP => ?_)
    · obtain ⟨s1, eD⟩ := hP
      obtain ⟨rfl, c0, hc0, rfl⟩ := hY
      have hc1 : c0 ∈ x.cps.toList := by
        rw [← Array.getElem?_toList] at hc0
        exact List.mem_of_getElem? hc0
      have hsz : x.cps.size = x.length := rfl
      refine ⟨rfl, yes_if ⟨_, rfl, c0, _, rfl, rfl, _, eD, ?_, ?_, ?_⟩⟩
      · rw [List.length_map, List.length_replicate]
        exact small1000 (by omega)
      · exact fun z o hz => by
          rw [upd_ne (ne_of_none hz hD)]
          exact s1 _ _ hz
      · rw [upd_same, decide_eq_true (ok.all c0 hc1), List.replicate_succ', List.map_append]
        rfl
    · obtain ⟨s1, eD⟩ := hP
      refine ⟨D, _, rfl, SqL.of eD, ?_⟩
      rw [show (List.replicate x.cps.size true).all id = true by simp]
      exact q _ s1
/-- is_built, of a part -/
def spBuilt : Sp := fun vs H Q _ => ∃ T : AT, vs = [T.v] ∧ T.In H ∧ T.Ok ∧ ∀ H', Same H H' → Q (.bl true) H'
theorem ok_built {f : Addr} {fd : FuncData} (F : Fun K "is_built" "is_built" sBuilt f fd) (T : Blt mg) (C : Consts K mg o2) (GS : C8.Cal P w K mg base 2 "is_share" spIsSh []) (GL : C8.Cal P w K mg base 1 "is_letter" spIsLe []) : FnOk P w K mg base CX0 3 f fd ["thing"] spBuilt := by
  refine F.ok scBuilt (fun vs H Q E h => ?_) (fun cdv A outer s H vs Q E hr h => ?_)
  · obtain ⟨T, rfl, _⟩ := h
    rfl
  · obtain ⟨Z, rfl, hin, ok, q⟩ := h
    refine ⟨_, pss_cons (ps_if (PW.pt (pw_or (pt_not (pt_val (pe_callB call_isi (by rfl) T.isi (by decide +kernel) (pa_cons (pv 0) (pa_cons (pe_bltn (v := .ty "tuple") (by rfl) T.tup (by decide +kernel) rfl) pa_nil)))))
          (pw_or1 (pt_cmpR op_lt (pe_callB call_len_seq (by rfl) T.len PySem.boot_len (pa_cons (pv 0) pa_nil)) pe_int (nomark _))))) (pss_one (ps_ret pe_bl)) pss_nil)
      (pss_cons (ps_set (i := 1) scBuilt.nd rfl (.inl rfl) (pe_ix ix_tup (pv 0) pe_int (fun _ _ => rfl)))
      (pss_cons (ps_if (pt_cmpR op_in_seq (pv 1) (pe_glob (v := .ref o2) (by rfl) C.two rfl) (by rfl)) (pss_one (ps_ret (pe_cmpR op_eq (pe_callB call_len_seq (by rfl) T.len PySem.boot_len (pa_cons (pv 0) pa_nil)) pe_int (nomark _)))) pss_nil)
      (pss_cons (ps_if (pt_cmpR op_ne (pe_callB call_len_seq (by rfl) T.len PySem.boot_len (pa_cons (pv 0) pa_nil)) pe_int (nomark _)) (pss_one (ps_ret pe_bl)) pss_nil)
      (pss_cons (ps_if (pt_cmpR op_eq (pv 1) pe_str (nomark _)) (pss_one (ps_ret (C8.pe_c GS hr (by decide) (by rfl) (pa_cons (pe_ix ix_tup (pv 0) pe_int (fun _ _ => rfl)) pa_nil)))) pss_nil)
      (pss_cons (ps_if (pt_cmpR op_eq (pv 1) pe_str (nomark _)) (pss_one (ps_ret (C8.pe_c GL hr (by decide) (by rfl) (pa_cons (pe_ix ix_tup (pv 0) pe_int (fun _ _ => rfl)) pa_nil)))) pss_nil)
      (pss_one (ps_ret (pe_cmpR op_eq (pv 1) pe_str (nomark _))))))))), ?_⟩
    have hp := hin.tup
    refine ⟨_, rfl, _, _, .type "tuple", _, true, rfl, .ty _, tyT hp, kit_ty (by decide +kernel), _, rfl, iteF ?_⟩
    cases Z with
    | sh p qq t b =>
      refine ⟨_, rfl, p, _, rfl, .inr hp, _, _, rfl, rfl, _, rfl, iteF ?_⟩
      refine ⟨_, rfl, p, _, 0, _, rfl, rfl, hp, atI_nat (j := 0) rfl, ?_⟩
      refine ⟨_, rfl, o2, _, rfl, .inr (C.twoIs H), rfl, rfl, _, rfl, iteF ?_⟩
      refine ⟨_, rfl, p, _, rfl, .inr hp, rfl, _, rfl, iteF ?_⟩
      refine ⟨_, rfl, rfl, _, rfl, iteT ?_⟩
      exact ⟨_, rfl, p, _, 1, _, rfl, rfl, hp, atI_nat (j := 1) rfl, qq, t, b, rfl, hin.2, ok, q _ (fun _ _ h => h)⟩
    | le p x =>
      refine ⟨_, rfl, p, _, rfl, .inr hp, _, _, rfl, rfl, _, rfl, iteF ?_⟩
      refine ⟨_, rfl, p, _, 0, _, rfl, rfl, hp, atI_nat (j := 0) rfl, ?_⟩
      refine ⟨_, rfl, o2, _, rfl, .inr (C.twoIs H), rfl, rfl, _, rfl, iteF ?_⟩
      refine ⟨_, rfl, p, _, rfl, .inr hp, rfl, _, rfl, iteF ?_⟩
      refine ⟨_, rfl, rfl, _, rfl, iteF ?_⟩
      refine ⟨_, rfl, rfl, _, rfl, iteT ?_⟩
      exact ⟨_, rfl, p, _, 1, _, rfl, rfl, hp, atI_nat (j := 1) rfl, x, rfl, ok, q⟩
    | two p o A B =>
      refine ⟨_, rfl, p, _, rfl, .inr hp, _, _, rfl, rfl, _, rfl, iteF ?_⟩
      refine ⟨_, rfl, p, _, 0, _, rfl, rfl, hp, atI_nat (j := 0) rfl, ?_⟩
      refine ⟨_, rfl, o2, _, rfl, .inr (C.twoIs H), rfl, rfl, _, rfl, ?_⟩
      rw [show inV (V.str (AT.two p o A B).word) [V.str (Str.ofString "plus"), V.str (Str.ofString "less"), V.str (Str.ofString "times")] = true by cases o <;> rfl]
      refine iteT ?_
      exact ⟨_, rfl, p, _, rfl, .inr hp, rfl, q _ (fun _ _ h => h)⟩
    | un p A =>
      refine ⟨_, rfl, p, _, rfl, .inr hp, _, _, rfl, rfl, _, rfl, iteF ?_⟩
      refine ⟨_, rfl, p, _, 0, _, rfl, rfl, hp, atI_nat (j := 0) rfl, ?_⟩
      refine ⟨_, rfl, o2, _, rfl, .inr (C.twoIs H), rfl, rfl, _, rfl, iteF ?_⟩
      refine ⟨_, rfl, p, _, rfl, .inr hp, rfl, _, rfl, iteF ?_⟩
      refine ⟨_, rfl, rfl, _, rfl, iteF ?_⟩
      refine ⟨_, rfl, rfl, _, rfl, iteF ?_⟩
      exact ⟨_, rfl, rfl, q _ (fun _ _ h => h)⟩
/-- things_in: the parts right in a part, in a tuple -/
def spThings (K : PySem.W.Frag) [KFx K] : Sp := fun vs H Q _ => ∃ T : AT, vs = [T.v] ∧ T.In H ∧ ∀ (p : Addr) (H' : Hp), Same H H' → SqT K H' p (T.kids.map AT.v) → Q (.ref p) H'
theorem ok_things {f : Addr} {fd : FuncData} {k : Nat} (F : Fun K "things_in" "things_in" sThings f fd) : FnOk P w K mg base CX0 (k + 1) f fd ["term"] (spThings K) := by
  refine F.ok scThings (fun vs H Q E h => ?_) (fun cdv A outer s H vs Q E hr h => ?_)
  · obtain ⟨T, rfl, _⟩ := h
    rfl
  · obtain ⟨Z, rfl, hin, q⟩ := h
    refine ⟨_, pss_cons (ps_if (PW.pt (pw_or (pt_cmpR op_eq (pe_ix ix_tup (pv 0) pe_int (fun _ _ => rfl)) pe_str (nomark _)) (pw_or1 (pt_cmpR op_eq (pe_ix ix_tup (pv 0) pe_int (fun _ _ => rfl)) pe_str (nomark _)))))
        (pss_one (ps_ret (pe_tup pa_nil))) pss_nil)
      (pss_one (ps_ret (pe_slice sl_tup (pv 0) (po_some pe_int) po_none))), ?_⟩
    have hp := hin.tup
    have none_ : ∀ {H' : Hp}, Z.kids = [] → Same H H' → ∀ p, H' p = some (.tup []) → Q (.ref p) H' := fun e sm p ep => q p _ sm (by rw [e]; exact SqT.of ep)
    cases Z with
    | sh p qq t b =>
      refine ⟨_, rfl, p, _, 0, _, rfl, rfl, hp, atI_nat (j := 0) rfl, rfl, _, rfl, iteT (iteT ?_)⟩
      exact ⟨Nat.zero_le _, fun e ne => none_ rfl (same_new ne) e upd_same⟩
    | le p x =>
      refine ⟨_, rfl, p, _, 0, _, rfl, rfl, hp, atI_nat (j := 0) rfl, rfl, _, rfl, iteF ?_⟩
      refine ⟨_, rfl, p, _, 0, _, rfl, rfl, hp, atI_nat (j := 0) rfl, rfl, _, rfl, iteT ?_⟩
      exact ⟨Nat.zero_le _, fun e ne => none_ rfl (same_new ne) e upd_same⟩
    | two p o A B =>
      have nw : ∀ x : Str, o.word = x → x ≠ "share" ∧ x ≠ "letter" := fun x e => by subst e; cases o <;> decide +kernel
      obtain ⟨n1, n2⟩ := nw _ rfl
      refine ⟨_, rfl, p, _, 0, _, rfl, rfl, hp, atI_nat (j := 0) rfl, rfl, _, rfl, ifN (fun z => n1 (V.str.inj z)) ?_⟩
      refine ⟨_, rfl, p, _, 0, _, rfl, rfl, hp, atI_nat (j := 0) rfl, rfl, _, rfl, ifN (fun z => n2 (V.str.inj z)) ?_⟩
      refine ⟨_, rfl, 1, rfl, p, _, rfl, hp, (fun z => by cases z.1), fun e ne => q e _ (same_new ne) (SqT.of ?_)⟩
      rw [upd_same]
      rfl
    | un p A =>
      refine ⟨_, rfl, p, _, 0, _, rfl, rfl, hp, atI_nat (j := 0) rfl, rfl, _, rfl, iteF ?_⟩
      refine ⟨_, rfl, p, _, 0, _, rfl, rfl, hp, atI_nat (j := 0) rfl, rfl, _, rfl, iteF ?_⟩
      refine ⟨_, rfl, 1, rfl, p, _, rfl, hp, (fun z => by cases z.1), fun e ne => q e _ (same_new ne) (SqT.of ?_)⟩
      rw [upd_same]
      rfl
end
end Nv

set_option maxRecDepth 100000
set_option maxHeartbeats 4000000
namespace Nv
open PySem PySem.Spec PyProof.Rows L2
variable {K : PySem.W.Frag} [KFx K]
abbrev sFlaw : Stmt := topS 40
abbrev sNeedT : Stmt := topS 41
abbrev nFlaw : List Str := ["term", "waiting", "many", "deepest", "found", "thing", "deep", "inner"]
theorem scFlaw : FnScope nFlaw ["term"] (defScope sFlaw) := ⟨rfl, rfl, rfl, by decide +kernel, rfl, by decide +kernel, by decide +kernel⟩
theorem scNeedT : FnScope ["term", "flaw"] ["term"] (defScope sNeedT) := ⟨rfl, rfl, rfl, by decide +kernel, rfl, by decide +kernel, by decide +kernel⟩
/-- pigeons -/
theorem nodup_le {α : Type} [DecidableEq α] : ∀ {l D : List α}, l.Nodup → (∀ x ∈ l, x ∈ D) → l.length ≤ D.length
  | [], _, _, _ => Nat.zero_le _
  | x :: l, D, hn, hs => by
    obtain ⟨h1, h2⟩ := List.nodup_cons.mp hn
    have hx : x ∈ D := hs x List.mem_cons_self
    have ih := nodup_le (D := D.erase x) h2 fun y hy => (List.mem_erase_of_ne (fun e : y = x => h1 (by rw [← e]; exact hy))).2 (hs y (List.mem_cons_of_mem _ hy))
    have e := List.length_erase_of_mem hx
    have hp : 0 < D.length := List.length_pos_of_mem hx
    rw [List.length_cons]
    omega
/-- a dict whose keys are among some texts -/
structure KeysIn (L : List Str) (kvs : List (Key × V)) : Prop where
  nd : (kvs.map (·.1)).Nodup
  sub : ∀ k ∈ kvs.map (·.1), k ∈ L.map Sum.inr
theorem KeysIn.len {L : List Str} {kvs : List (Key × V)} (h : KeysIn L kvs) : kvs.length ≤ L.length := by
  have := nodup_le h.nd h.sub
  rwa [List.length_map, List.length_map] at this
theorem KeysIn.put {L : List Str} {kvs : List (Key × V)} {x : Str} {v : V} (h : KeysIn L kvs) (hx : x ∈ L) : KeysIn L (putK kvs (Sum.inr x) v) := by
  unfold putK
  split
  · have e : (kvs.map fun kv => if kv.1 = Sum.inr x then (kv.1, v) else kv).map (·.1) = kvs.map (·.1) := by
      rw [List.map_map]
      refine List.map_congr_left fun kv _ => ?_
      show (if kv.1 = Sum.inr x then (kv.1, v) else kv).1 = kv.1
      split <;> rfl
    exact ⟨by rw [e]; exact h.nd, by rw [e]; exact h.sub⟩
  · rename_i c
    have hn : (Sum.inr x : Key) ∉ kvs.map (·.1) := fun z => by
      obtain ⟨kv, hkv, e⟩ := List.mem_map.mp z
      exact c (List.any_eq_true.mpr ⟨kv, hkv, decide_eq_true e⟩)
    refine ⟨?_, fun k hk => ?_⟩
    · rw [List.map_append]
      exact List.nodup_append.mpr ⟨h.nd, by simp, fun a ha b hb => fun z => hn (by have e : b = Sum.inr x := List.mem_singleton.mp hb; rw [← e, ← z]; exact ha)⟩
    · rw [List.map_append] at hk
      rcases List.mem_append.mp hk with z | z
      · exact h.sub k z
      · rw [List.mem_singleton.mp z]
        exact List.mem_map_of_mem hx
theorem same_upd {H H' : Hp} {p : Addr} {o : HO} (s : Same H H') (h : H p = none) : Same H (upd H' p o) := fun a x e => by
  rw [upd_ne (ne_of_none e h)]
  exact s a x e
def WaitV (H : Hp) (v : V) (x : AT × Nat) : Prop := ∃ p, v = .ref p ∧ Tu H p [x.1.v, .int (x.2 : Int)]
theorem WaitV.keep {H H' : Hp} (k : TupKeep H H') {v : V} {x : AT × Nat} (h : WaitV H v x) : WaitV H' v x := by
  obtain ⟨p, e, hp⟩ := h
  exact ⟨p, e, k _ _ hp⟩
theorem Paired.imp' {α β : Type} {R S : α → β → Prop} (h : ∀ a b, R a b → S a b) : ∀ {xs : List α} {ys : List β}, Paired R xs ys → Paired S xs ys
  | _, _, .nil => .nil
  | _, _, .cons a r => .cons (h _ _ a) (Paired.imp' h r)
theorem Paired.snoc' {α β : Type} {R : α → β → Prop} {x : α} {y : β} (h : R x y) : ∀ {xs : List α} {ys : List β}, Paired R xs ys → Paired R (xs ++ [x]) (ys ++ [y])
  | _, _, .nil => .cons h .nil
  | _, _, .cons a r => .cons a (Paired.snoc' h r)
/-- the last ones -/
theorem Paired.last {α β : Type} {R : α → β → Prop} : ∀ {ys : List β} {y : β} {xs : List α}, Paired R xs (ys ++ [y]) → ∃ (zs : List α) (z : α), xs = zs ++ [z] ∧ Paired R zs ys ∧ R z y
  | [], y, _, .cons h .nil => ⟨[], _, rfl, .nil, h⟩
  | _ :: ys, y, _, .cons h r => by
    obtain ⟨zs, z, e, h1, h2⟩ := Paired.last r
    exact ⟨_ :: zs, z, by rw [e]; rfl, .cons h h1, h2⟩
theorem gN {i : Nat} {v : V} {σ : L2.St} {H : Hp} {k : L2.St → Hp → Prop} (h : k (σ.set i (some v)) H) : gName i v σ H k := h
theorem nxS {a b : TS} {D : Ends} {rt : VK} {bk ct : L2.St → Hp → Prop} {σ : L2.St} {H : Hp} (h : a { D with nx := b D } σ H) : Ends.nx { nx := tSeq a b D, rt := rt, bk := bk, ct := ct } σ H := h
theorem seqT_upd {H : Hp} {W a : Addr} {ys xs : List V} {o : HO} (h : H W = some (.lst ys)) (q : SqT K H a xs) : SqT K (upd H W o) a xs := by
  rcases q with (q | ⟨z, q⟩) | q
  · exact .inl (.inl (by rw [upd_ne (fun z => by rw [z, h] at q; cases q)]; exact q))
  · exact .inl (.inr ⟨z, by rw [upd_ne (fun z => by rw [z, h] at q; cases q)]; exact q⟩)
  · exact .inr q
def sumC (ws : List (AT × Nat)) : Nat := (ws.map fun x => x.1.count).sum
theorem sumC_snoc (ws : List (AT × Nat)) (x : AT × Nat) : sumC (ws ++ [x]) = sumC ws + x.1.count := by simp [sumC]
theorem sumC_app (ws us : List (AT × Nat)) : sumC (ws ++ us) = sumC ws + sumC us := by simp [sumC]
theorem sumC_len : ∀ ws : List (AT × Nat), ws.length ≤ sumC ws
  | [] => Nat.zero_le _
  | x :: r => by
    have := x.1.count_pos
    have := sumC_len r
    show r.length + 1 ≤ x.1.count + sumC r
    omega
theorem sumC_kids (T : AT) (d : Nat) : sumC (T.kids.map fun B => (B, d)) + 1 = T.count := by
  rw [T.count_eq, sumC, List.map_map]
  show (T.kids.map AT.count).sum + 1 = _
  omega
/-- how deep the parts in a part lie -/
def AT.step : AT → Nat
  | .un _ _ => 1
  | _ => 0
theorem AT.kid_deep : ∀ {T B : AT}, B ∈ T.kids → T.step + B.deep ≤ T.deep
  | .sh _ _ _ _, _, h => nomatch h
  | .le _ _, _, h => nomatch h
  | .two _ _ A C, B, h => by
    show 0 + B.deep ≤ max A.deep C.deep
    rcases List.mem_cons.mp h with e | e
    · rw [e]; omega
    · rw [List.mem_singleton.mp e]; omega
  | .un _ A, B, h => by
    show 1 + B.deep ≤ A.deep + 1
    rw [List.mem_singleton.mp h]
    omega
theorem AT.step_deep : ∀ T : AT, T.step ≤ T.deep
  | .sh _ _ _ _ => Nat.le_refl _
  | .le _ _ => Nat.le_refl _
  | .two _ _ _ _ => Nat.zero_le _
  | .un _ A => by show 1 ≤ A.deep + 1; omega
theorem AT.kid_lets : ∀ {T B : AT}, B ∈ T.kids → ∀ x ∈ B.lets, x ∈ T.lets
  | .sh _ _ _ _, _, h => nomatch h
  | .le _ _, _, h => nomatch h
  | .two _ _ A C, B, h => fun x hx => by
    show x ∈ A.lets ++ C.lets
    rcases List.mem_cons.mp h with e | e
    · exact List.mem_append_left _ (e ▸ hx)
    · exact List.mem_append_right _ ((List.mem_singleton.mp e) ▸ hx)
  | .un _ A, B, h => fun x hx => (List.mem_singleton.mp h) ▸ hx
theorem ne_undo1 : (Str.ofString "share") ≠ Str.ofString "undo" := by decide +kernel
theorem ne_undo2 : (Str.ofString "letter") ≠ Str.ofString "undo" := by decide +kernel
theorem ne_undo3 (o : Op) : o.word ≠ Str.ofString "undo" := by cases o <;> decide +kernel
theorem ne_let1 : (Str.ofString "share") ≠ Str.ofString "letter" := by decide +kernel
theorem ne_let2 : (Str.ofString "undo") ≠ Str.ofString "letter" := by decide +kernel
theorem ne_let3 (o : Op) : o.word ≠ Str.ofString "letter" := by cases o <;> decide +kernel
theorem word_undo : ∀ T : AT, (V.str T.word = V.str (Str.ofString "undo")) ↔ T.step = 1
  | .sh _ _ _ _ => ⟨fun z => absurd (V.str.inj z) ne_undo1, fun z => nomatch z⟩
  | .le _ _ => ⟨fun z => absurd (V.str.inj z) ne_undo2, fun z => nomatch z⟩
  | .two _ o _ _ => ⟨fun z => absurd (V.str.inj z) (ne_undo3 o), fun z => nomatch z⟩
  | .un _ _ => ⟨fun _ => rfl, fun _ => rfl⟩
/-- a letter, and the others -/
theorem word_letter : ∀ T : AT, (∃ p x, T = .le p x) ∨ V.str T.word ≠ V.str (Str.ofString "letter")
  | .sh _ _ _ _ => .inr fun z => ne_let1 (V.str.inj z)
  | .le p x => .inl ⟨p, x, rfl⟩
  | .two _ o _ _ => .inr fun z => ne_let3 o (V.str.inj z)
  | .un _ _ => .inr fun z => ne_let2 (V.str.inj z)
theorem AT.step_le : ∀ T : AT, T.step = 0 ∨ T.step = 1
  | .sh _ _ _ _ => .inl rfl
  | .le _ _ => .inl rfl
  | .two _ _ _ _ => .inl rfl
  | .un _ _ => .inr rfl
/-- well-built reckonings: the letters are among L, four at most -/
structure Fair (T : AT) (L : List Str) : Prop where
  ok : T.Ok
  cnt : T.count ≤ 200
  few : L.length ≤ 4
  lets : ∀ x ∈ T.lets, x ∈ L
/-- what is asked: a reckoning, or a tuple of a word alone -/
inductive TH where
  | ok (A : AT)
  | bad (p : Addr) (x : Str)
def TH.v : TH → V
  | .ok A => A.v
  | .bad p _ => .ref p
def TH.In (H : Hp) : TH → Prop
  | .ok A => A.In H
  | .bad p x => Tu H p [.str x]
def TH.Fine (L : List Str) : TH → Prop
  | .ok A => Fair A L
  | .bad _ _ => True
theorem TH.In.keep {H H' : Hp} (k : TupKeep H H') : ∀ {T : TH}, T.In H → T.In H'
  | .ok _, h => AT.In.keep k h
  | .bad _ _, h => k _ _ h
/-- the flaw of a reckoning -/
def AT.flaw (A : AT) : Option Str := if 24 < A.count then some (Str.ofString "many") else if 4 < A.deep then some (Str.ofString "deep") else none
def TH.flaw : TH → Option Str
  | .ok A => A.flaw
  | .bad _ _ => some (Str.ofString "form")
def flawV : Option Str → V
  | none => .non
  | some x => .str x
def mxD (ws : List (AT × Nat)) : Nat := (ws.map fun x => x.2 + x.1.deep).foldr max 0
theorem mxD_cons (x : AT × Nat) (ws : List (AT × Nat)) : mxD (x :: ws) = max (x.2 + x.1.deep) (mxD ws) := rfl
theorem mxD_app : ∀ (ws us : List (AT × Nat)), mxD (ws ++ us) = max (mxD ws) (mxD us)
  | [], us => by show mxD us = max 0 (mxD us); omega
  | x :: ws, us => by
    show max (x.2 + x.1.deep) (mxD (ws ++ us)) = max (max (x.2 + x.1.deep) (mxD ws)) (mxD us)
    rw [mxD_app ws us]
    omega
theorem mxD_kids (d : Nat) : ∀ A : AT, d + A.deep = max (d + A.step) (mxD (A.kids.map fun B => (B, d + A.step)))
  | .sh _ _ _ _ => by show d + 0 = max (d + 0) 0; omega
  | .le _ _ => by show d + 0 = max (d + 0) 0; omega
  | .two _ _ A B => by
    show d + max A.deep B.deep = max (d + 0) (max (d + 0 + A.deep) (max (d + 0 + B.deep) 0))
    omega
  | .un _ A => by
    show d + (A.deep + 1) = max (d + 1) (max (d + 1 + A.deep) 0)
    omega
/-- is_built, of a tuple of a word alone too -/
def spBuilt2 : Sp := fun vs H Q _ => (∃ T : AT, vs = [T.v] ∧ T.In H ∧ T.Ok ∧ ∀ H', Same H H' → Q (.bl true) H') ∨ ∃ (p : Addr) (x : Str), vs = [.ref p] ∧ Tu H p [.str x] ∧ Q (.bl false) H
/-- a part that waits -/
structure WaitOk (H : Hp) (L : List Str) (x : AT × Nat) : Prop where
  inn : x.1.In H
  ok : x.1.Ok
  lets : ∀ y ∈ x.1.lets, y ∈ L
def mFlaw (σ : L2.St) (_ : Hp) : Nat := match σ with
  | [_, _, some (.int m), _, _, _, _, _] => 200 - m.toNat
  | _ => 0
section
variable {P : Program} {w : World} {mg : Str → Option Value} {base : Heap} {o2 : Addr}
theorem ok_built2 {f : Addr} {fd : FuncData} (F : Fun K "is_built" "is_built" sBuilt f fd) (T : Blt mg) (C : Consts K mg o2) (GS : C8.Cal P w K mg base 2 "is_share" spIsSh []) (GL : C8.Cal P w K mg base 1 "is_letter" spIsLe []) : FnOk P w K mg base CX0 3 f fd ["thing"] spBuilt2 := by
  refine F.ok scBuilt (fun vs H Q E h => ?_) (fun cdv A outer s H vs Q E hr h => ?_)
  · rcases h with ⟨T, rfl, _⟩ | ⟨p, x, rfl, _⟩ <;> rfl
  · refine ⟨_, pss_cons (ps_if (PW.pt (pw_or (pt_not (pt_val (pe_callB call_isi (by rfl) T.isi (by decide +kernel) (pa_cons (pv 0) (pa_cons (pe_bltn (v := .ty "tuple") (by rfl) T.tup (by decide +kernel) rfl) pa_nil)))))
          (pw_or1 (pt_cmpR op_lt (pe_callB call_len_seq (by rfl) T.len PySem.boot_len (pa_cons (pv 0) pa_nil)) pe_int (nomark _))))) (pss_one (ps_ret pe_bl)) pss_nil)
      (pss_cons (ps_set (i := 1) scBuilt.nd rfl (.inl rfl) (pe_ix ix_tup (pv 0) pe_int (fun _ _ => rfl)))
      (pss_cons (ps_if (pt_cmpR op_in_seq (pv 1) (pe_glob (v := .ref o2) (by rfl) C.two rfl) (by rfl)) (pss_one (ps_ret (pe_cmpR op_eq (pe_callB call_len_seq (by rfl) T.len PySem.boot_len (pa_cons (pv 0) pa_nil)) pe_int (nomark _)))) pss_nil)
      (pss_cons (ps_if (pt_cmpR op_ne (pe_callB call_len_seq (by rfl) T.len PySem.boot_len (pa_cons (pv 0) pa_nil)) pe_int (nomark _)) (pss_one (ps_ret pe_bl)) pss_nil)
      (pss_cons (ps_if (pt_cmpR op_eq (pv 1) pe_str (nomark _)) (pss_one (ps_ret (C8.pe_c GS hr (by decide) (by rfl) (pa_cons (pe_ix ix_tup (pv 0) pe_int (fun _ _ => rfl)) pa_nil)))) pss_nil)
      (pss_cons (ps_if (pt_cmpR op_eq (pv 1) pe_str (nomark _)) (pss_one (ps_ret (C8.pe_c GL hr (by decide) (by rfl) (pa_cons (pe_ix ix_tup (pv 0) pe_int (fun _ _ => rfl)) pa_nil)))) pss_nil)
      (pss_one (ps_ret (pe_cmpR op_eq (pv 1) pe_str (nomark _))))))))), ?_⟩
    rcases h with ⟨Z, rfl, hin, ok, q⟩ | ⟨p, x, rfl, hp, q⟩
    case inr =>
      refine ⟨_, rfl, _, _, .type "tuple", _, true, rfl, .ty _, tyT hp, kit_ty (by decide +kernel), _, rfl, iteF ?_⟩
      refine ⟨_, rfl, p, _, rfl, .inr hp, _, _, rfl, rfl, _, rfl, iteT ?_⟩
      exact q
    have hp := hin.tup
    refine ⟨_, rfl, _, _, .type "tuple", _, true, rfl, .ty _, tyT hp, kit_ty (by decide +kernel), _, rfl, iteF ?_⟩
    cases Z with
    | sh p qq t b =>
      refine ⟨_, rfl, p, _, rfl, .inr hp, _, _, rfl, rfl, _, rfl, iteF ?_⟩
      refine ⟨_, rfl, p, _, 0, _, rfl, rfl, hp, atI_nat (j := 0) rfl, ?_⟩
      refine ⟨_, rfl, o2, _, rfl, .inr (C.twoIs H), rfl, rfl, _, rfl, iteF ?_⟩
      refine ⟨_, rfl, p, _, rfl, .inr hp, rfl, _, rfl, iteF ?_⟩
      refine ⟨_, rfl, rfl, _, rfl, iteT ?_⟩
      exact ⟨_, rfl, p, _, 1, _, rfl, rfl, hp, atI_nat (j := 1) rfl, qq, t, b, rfl, hin.2, ok, q _ (fun _ _ h => h)⟩
    | le p x =>
      refine ⟨_, rfl, p, _, rfl, .inr hp, _, _, rfl, rfl, _, rfl, iteF ?_⟩
      refine ⟨_, rfl, p, _, 0, _, rfl, rfl, hp, atI_nat (j := 0) rfl, ?_⟩
      refine ⟨_, rfl, o2, _, rfl, .inr (C.twoIs H), rfl, rfl, _, rfl, iteF ?_⟩
      refine ⟨_, rfl, p, _, rfl, .inr hp, rfl, _, rfl, iteF ?_⟩
      refine ⟨_, rfl, rfl, _, rfl, iteF ?_⟩
      refine ⟨_, rfl, rfl, _, rfl, iteT ?_⟩
      exact ⟨_, rfl, p, _, 1, _, rfl, rfl, hp, atI_nat (j := 1) rfl, x, rfl, ok, q⟩
    | two p o A B =>
      refine ⟨_, rfl, p, _, rfl, .inr hp, _, _, rfl, rfl, _, rfl, iteF ?_⟩
      refine ⟨_, rfl, p, _, 0, _, rfl, rfl, hp, atI_nat (j := 0) rfl, ?_⟩
      refine ⟨_, rfl, o2, _, rfl, .inr (C.twoIs H), rfl, rfl, _, rfl, ?_⟩
      rw [show inV (V.str (AT.two p o A B).word) [V.str (Str.ofString "plus"), V.str (Str.ofString "less"), V.str (Str.ofString "times")] = true by cases o <;> rfl]
      refine iteT ?_
      exact ⟨_, rfl, p, _, rfl, .inr hp, rfl, q _ (fun _ _ h => h)⟩
    | un p A =>
      refine ⟨_, rfl, p, _, rfl, .inr hp, _, _, rfl, rfl, _, rfl, iteF ?_⟩
      refine ⟨_, rfl, p, _, 0, _, rfl, rfl, hp, atI_nat (j := 0) rfl, ?_⟩
      refine ⟨_, rfl, o2, _, rfl, .inr (C.twoIs H), rfl, rfl, _, rfl, iteF ?_⟩
      refine ⟨_, rfl, p, _, rfl, .inr hp, rfl, _, rfl, iteF ?_⟩
      refine ⟨_, rfl, rfl, _, rfl, iteF ?_⟩
      refine ⟨_, rfl, rfl, _, rfl, iteF ?_⟩
      exact ⟨_, rfl, rfl, q _ (fun _ _ h => h)⟩
/-- what stands at each turn -/
def FlawAt (H : Hp) (T : AT) (L : List Str) (σ : L2.St) (H' : Hp) : Prop := ∃ (W Fd : Addr) (vs : List V) (ws : List (AT × Nat)) (m d : Nat) (kvs : List (Key × V)) (y5 y6 y7 : Option V),
  σ = [some T.v, some (.ref W), some (.int (m : Int)), some (.int (d : Int)), some (.ref Fd), y5, y6, y7] ∧ Same H H' ∧ H W = none ∧ H Fd = none ∧ H' W = some (.lst vs) ∧ Paired (WaitV H') vs ws ∧ (∀ x ∈ ws, WaitOk H' L x) ∧ H' Fd = some (.dK kvs) ∧ KeysIn L kvs ∧ max d (mxD ws) = T.deep ∧ m + sumC ws = T.count
def spFlaw : Sp := fun vs H Q _ => ∃ (T : TH) (L : List Str), vs = [T.v] ∧ T.In H ∧ T.Fine L ∧ ∀ H', Same H H' → Q (flawV T.flaw) H'
theorem ok_flaw {f : Addr} {fd : FuncData} (F : Fun K "flaw_of" "flaw_of" sFlaw f fd) (T : Blt mg) (mx : mg "max" = none) (C : Consts K mg o2) (GB : C8.Cal P w K mg base 3 "is_built" spBuilt2 []) (GT : C8.Cal P w K mg base 1 "things_in" (spThings K) []) :
    FnOk P w K mg base CX0 4 f fd ["term"] spFlaw := by
  obtain ⟨t1, e1⟩ := C.parts
  obtain ⟨t2, e2⟩ := C.lets
  obtain ⟨t3, e3⟩ := C.deep
  refine F.ok scFlaw (fun vs H Q E h => ?_) (fun cdv A outer s H vs Q E hr h => ?_)
  · obtain ⟨T, L, rfl, _⟩ := h
    rfl
  · obtain ⟨Y, L, rfl, hin, gd, q⟩ := h
    refine ⟨_, pss_cons (ps_set (i := 1) scFlaw.nd rfl (.inl rfl) (pe_lst (pa_cons (pe_tup (pa_cons (pv 0) (pa_cons pe_int pa_nil))) pa_nil)))
      (pss_cons (ps_set (i := 2) scFlaw.nd rfl (.inl rfl) pe_int)
      (pss_cons (ps_set (i := 3) scFlaw.nd rfl (.inl rfl) pe_int)
      (pss_cons (ps_set (i := 4) scFlaw.nd rfl (.inl rfl) pe_dnewK)
      (pss_cons (ps_while PassesOwn.never (pt_truth (pv 1) (by intro _; rfl))
        (pss_cons (ps_asg (pe_bm0 PySem.F.plainAttrs_list PySem.F.slot_list_pop PySem.F.type_list_pop mt_pop (pv 1)) (pg_tup rfl (pgs_cons (pg_name (i := 5) scFlaw.nd rfl (.inl rfl)) (pgs_cons (pg_name (i := 6) scFlaw.nd rfl (.inl rfl)) pgs_nil))))
        (pss_cons (ps_if (pt_not (pt_val (C8.pe_c GB hr (by decide) (by rfl) (pa_cons (pv 5) pa_nil)))) (pss_one (ps_ret pe_str)) pss_nil)
        (pss_cons (ps_aug (i := 2) scFlaw.nd rfl (.inl rfl) pe_int ip_add)
        (pss_cons (ps_if (pt_cmpR op_eq (pe_ix ix_tup (pv 5) pe_int (fun _ _ => rfl)) pe_str (nomark _)) (pss_one (ps_dput (hu_of hr) (pv 4) (pe_ix ix_tup (pv 5) pe_int (fun _ _ => rfl)) pe_bl rfl)) pss_nil)
        (pss_cons (ps_if (pt_cmpR op_eq (pe_ix ix_tup (pv 5) pe_int (fun _ _ => rfl)) pe_str (nomark _)) (pss_one (ps_aug (i := 6) scFlaw.nd rfl (.inl rfl) pe_int ip_add)) pss_nil)
        (pss_cons (ps_set (i := 3) scFlaw.nd rfl (.inl rfl) (pe_callB (call_max2 rfl) (by rfl) mx (by decide +kernel) (pa_cons (pv 3) (pa_cons (pv 6) pa_nil))))
        (pss_one (ps_for PassesOwn.never rfl (pi_tup (C8.pe_c GT hr (by decide) (by rfl) (pa_cons (pv 5) pa_nil))) (pg_name (i := 7) scFlaw.nd rfl (.inl rfl))
          (pss_one (ps_expr (pe_bm PySem.F.plainAttrs_list PySem.F.slot_list_append PySem.F.type_list_append mt_append (pv 1) (pa_cons (pe_tup (pa_cons (pv 7) (pa_cons (pv 6) pa_nil))) pa_nil)))))))))))))
      (pss_cons (ps_if (pt_cmpR op_gt (pv 2) (pe_glob (v := .int 24) (by rfl) e1 ⟨_, rfl⟩) (nomark _)) (pss_one (ps_ret pe_str)) pss_nil)
      (pss_cons (ps_if (pt_cmpR op_gt (pe_callB call_lenD (by rfl) T.len PySem.boot_len (pa_cons (pv 4) pa_nil)) (pe_glob (v := .int 4) (by rfl) e2 ⟨_, rfl⟩) (nomark _)) (pss_one (ps_ret pe_str)) pss_nil)
      (pss_cons (ps_if (pt_cmpR op_gt (pv 3) (pe_glob (v := .int 4) (by rfl) e3 ⟨_, rfl⟩) (nomark _)) (pss_one (ps_ret pe_str)) pss_nil)
      (pss_one (ps_ret pe_non))))))))), ?_⟩
    cases Y with
    | bad pb xb =>
      have hb : Tu H pb [.str xb] := hin
      refine ⟨_, rfl, (by show 2 ≤ sizeLine; decide), fun tp ntp => ⟨(by show 1 ≤ sizeLine; decide), fun W nW => ?_⟩⟩
      intro Fd nF
      have nW' : H W = none := (same_new ntp).free nW
      have s1 := Same.trans (same_new (o := .tup [(TH.bad pb xb).v, .int 0]) ntp) (same_new (o := .lst [.ref tp]) nW)
      have nF' : H Fd = none := s1.free nF
      have s2 := Same.trans s1 (same_new (o := .dK []) nF)
      have etp : (upd (upd (upd H tp (.tup [(TH.bad pb xb).v, .int 0])) W (.lst [.ref tp])) Fd (.dK [])) tp = some (.tup [(TH.bad pb xb).v, .int 0]) := same_new nF _ _ (same_new nW _ _ upd_same)
      have eW : (upd (upd (upd H tp (.tup [(TH.bad pb xb).v, .int 0])) W (.lst [.ref tp])) Fd (.dK [])) W = some (.lst [.ref tp]) := same_new nF _ _ upd_same
      refine gN (nxS ?_)
      generalize upd (upd (upd H tp (.tup [(TH.bad pb xb).v, .int 0])) W (.lst [.ref tp])) Fd (.dK []) = H2 at s2 etp eW ⊢
      refine while_by (fun σ' H' => σ' = [some (TH.bad pb xb).v, some (.ref W), some (.int 0), some (.int 0), some (.ref Fd), none, none, none] ∧ H' = H2) mFlaw ⟨rfl, rfl⟩ (fun σ H1 hP => ?_) (fun σ H Q Q' hh hc => ?_)
      · obtain ⟨rfl, rfl⟩ := hP
        refine ⟨_, rfl, true, .inl ⟨_, SqL.of eW, rfl⟩, iteT ?_⟩
        refine ⟨_, rfl, .inl ⟨rfl, _, SqL.of eW⟩, W, _, .ref tp, rfl, rfl, eW, rfl, ?_⟩
        have k2 : TupKeep H1 (upd H1 W (.lst [])) := tk_lst eW
        have sm2 : Same H (upd H1 W (.lst [])) := same_upd s2 nW'
        refine ⟨tp, _, rfl, (k2 _ _ (SqT.of etp)), rfl, _, _, rfl, _, _, rfl, rfl, ?_⟩
        refine ⟨_, rfl, .inr ⟨pb, xb, rfl, k2 _ _ (Same.tk s2 _ _ hb), ⟨_, rfl, iteT ?_⟩⟩⟩
        exact q _ sm2
      · obtain ⟨v, e1, k, e2, e3⟩ := hc
        exact ⟨v, e1, k, e2, hh _ _ e3⟩
    | ok Z =>
    replace hin : Z.In H := hin
    replace gd : Fair Z L := gd
    have q : ∀ H', Same H H' → Q (flawV Z.flaw) H' := q
    -- the first one waits
    refine ⟨_, rfl, (by show 2 ≤ sizeLine; decide), fun tp ntp => ⟨(by show 1 ≤ sizeLine; decide), fun W nW => ?_⟩⟩
    intro Fd nF
    have nW' : H W = none := (same_new ntp).free nW
    have s1 := Same.trans (same_new (o := .tup [Z.v, .int 0]) ntp) (same_new (o := .lst [.ref tp]) nW)
    have nF' : H Fd = none := s1.free nF
    have s2 := Same.trans s1 (same_new (o := .dK []) nF)
    have etp : (upd (upd (upd H tp (.tup [Z.v, .int 0])) W (.lst [.ref tp])) Fd (.dK [])) tp = some (.tup [Z.v, .int 0]) := same_new nF _ _ (same_new nW _ _ upd_same)
    have eW : (upd (upd (upd H tp (.tup [Z.v, .int 0])) W (.lst [.ref tp])) Fd (.dK [])) W = some (.lst [.ref tp]) := same_new nF _ _ upd_same
    refine gN (nxS ?_)
    refine while_by (FlawAt H Z L) mFlaw ⟨W, Fd, _, [(Z, 0)], 0, 0, [], none, none, none, rfl, s2, nW', nF', eW, .cons ⟨tp, rfl, SqT.of etp⟩ .nil, (fun x hx => ?_), upd_same, ⟨by simp, by simp⟩, ?_, ?_⟩ (fun σ H1 hP => ?_) (fun σ H Q Q' hh hc => ?_)
    · rw [List.mem_singleton.mp hx]
      exact ⟨hin.keep (Same.tk s2), gd.ok, gd.lets⟩
    · show max 0 (max (0 + Z.deep) 0) = Z.deep
      omega
    · show 0 + (Z.count + 0) = Z.count
      omega
    · obtain ⟨W, Fd, vs, ws, m, d, kvs, y5, y6, y7, rfl, sm, nW, nF, eW, pw, wo, eF, ki, hd, hm⟩ := hP
      refine ⟨_, rfl, !vs.isEmpty, .inl ⟨vs, SqL.of eW, rfl⟩, ?_⟩
      rcases List.eq_nil_or_concat ws with rfl | ⟨ws', ⟨A, d0⟩, rfl⟩
      · cases pw
        refine iteF ?_
        have em : m = Z.count := hm
        have ed : d = Z.deep := by
          have : max d 0 = Z.deep := hd
          omega
        have hq := q _ sm
        unfold AT.flaw at hq
        refine ⟨_, rfl, _, _, rfl, rfl, _, rfl, ?_⟩
        by_cases c1 : 24 < Z.count
        · rw [if_pos c1] at hq
          exact ifP (by omega) hq
        rw [if_neg c1] at hq
        refine ifN (by omega) ?_
        have := ki.len
        have := gd.few
        refine ⟨_, rfl, Fd, kvs, rfl, eF, _, _, rfl, rfl, _, rfl, ifN (by omega) ?_⟩
        refine ⟨_, rfl, _, _, rfl, rfl, _, rfl, ?_⟩
        by_cases c2 : 4 < Z.deep
        · rw [if_pos c2] at hq
          exact ifP (by omega) hq
        · rw [if_neg c2] at hq
          exact ifN (by omega) hq
      · rw [List.concat_eq_append] at pw wo hm hd
        obtain ⟨zs, z, rfl, pz, tpA, rfl, etA⟩ := Paired.last pw
        rw [show (!(zs ++ [V.ref tpA]).isEmpty) = true by simp]
        refine iteT ?_
        have hA := wo (A, d0) (List.mem_append_right _ (List.mem_singleton.mpr rfl))
        rw [sumC_snoc] at hm
        have hm : m + (sumC ws' + A.count) = Z.count := hm
        rw [mxD_app] at hd
        have hd : max d (max (mxD ws') (max (d0 + A.deep) 0)) = Z.deep := hd
        have hcn := gd.cnt
        have nWF : W ≠ Fd := fun z => by rw [z, eF] at eW; cases eW
        -- pop
        refine ⟨_, rfl, .inl ⟨rfl, _, SqL.of eW⟩, W, _, .ref tpA, rfl, rfl, eW, by simp, ?_⟩
        rw [List.dropLast_concat]
        have k2 : TupKeep H1 (upd H1 W (.lst zs)) := tk_lst eW
        have sm2 : Same H (upd H1 W (.lst zs)) := same_upd sm nW
        have eW2 : (upd H1 W (.lst zs)) W = some (.lst zs) := upd_same
        have eF2 : (upd H1 W (.lst zs)) Fd = some (.dK kvs) := by rw [upd_ne nWF.symm]; exact eF
        generalize upd H1 W (.lst zs) = H2 at k2 sm2 eW2 eF2
        have pz2 := Paired.imp' (fun _ _ => WaitV.keep k2) pz
        have wo2 : ∀ x ∈ ws', WaitOk H2 L x := fun x hx => let y := wo x (List.mem_append_left _ hx); ⟨y.inn.keep k2, y.ok, y.lets⟩
        have inA : A.In H2 := hA.inn.keep k2
        refine ⟨tpA, _, rfl, (k2 _ _ etA), rfl, _, _, rfl, _, _, rfl, rfl, ?_⟩
        -- is_built
        refine ⟨_, rfl, .inl ⟨A, rfl, inA, hA.ok, fun H3 s3 => ⟨_, rfl, iteF ?_⟩⟩⟩
        have sm3 := Same.trans sm2 s3
        have k3 := Same.tk s3
        replace inA := inA.keep k3
        replace pz2 := Paired.imp' (fun _ _ => WaitV.keep k3) pz2
        replace wo2 : ∀ x ∈ ws', WaitOk H3 L x := fun x hx => let y := wo2 x hx; ⟨y.inn.keep k3, y.ok, y.lets⟩
        replace eW2 := s3 _ _ eW2
        replace eF2 := s3 _ _ eF2
        refine ⟨_, rfl, _, 1, rfl, rfl, ?_⟩
        let base8 (y7 : Option V) (dd : Int) (d1 : Nat) : L2.St := [some Z.v, some (.ref W), some (.int ((m : Int) + 1)), some (.int dd), some (.ref Fd), some A.v, some (.int (d1 : Int)), y7]
        let stand (H' : Hp) (vs : List V) (ws : List (AT × Nat)) : Prop := Same H H' ∧ A.In H' ∧ Paired (WaitV H') vs ws ∧ (∀ x ∈ ws, WaitOk H' L x) ∧ H' W = some (.lst vs) ∧ ∃ kvs', H' Fd = some (.dK kvs') ∧ KeysIn L kvs'
        refine keepN (fun σ' H' => σ' = base8 y7 d d0 ∧ stand H' zs ws') (fun σ' H4 hM => ?_) (fun rest => ?_)
        · obtain ⟨rfl, st4⟩ := hM
          -- undo
          refine keep (fun σ' H' => σ' = base8 y7 d (d0 + A.step) ∧ stand H' zs ws') (fun σ' H5 hM => ?_) (fun rest => ?_)
          · obtain ⟨rfl, st5⟩ := hM
            obtain ⟨sm5, inA5, pz5, wo5, eW5, kvs', eF5, ki5⟩ := st5
            have hst := A.step_deep
            refine ⟨_, rfl, _, rfl, _, _, rfl, ?_⟩
            refine ⟨_, rfl, A, rfl, inA5, fun p H6 s6 hp => ?_⟩
            refine ⟨p, rfl, ⟨_, hp⟩, for_tup (K := K) (a := p) (xs := A.kids.map AT.v) (fun i σ' H' => ∃ y7 vs, σ' = base8 y7 (if ((d0 + A.step : Nat) : Int) > (d : Int) then ((d0 + A.step : Nat) : Int) else (d : Int)) (d0 + A.step) ∧ stand H' vs (ws' ++ (A.kids.take i).map fun B => (B, d0 + A.step)) ∧ SqT K H' p (A.kids.map AT.v)) ?_ ?_ ?_ ?_⟩
            · have k6 := Same.tk s6
              refine ⟨y7, zs, rfl, ⟨Same.trans sm5 s6, inA5.keep k6, ?_, ?_, s6 _ _ eW5, kvs', s6 _ _ eF5, ki5⟩, hp⟩
              · rw [List.take_zero, List.map_nil, List.append_nil]
                exact Paired.imp' (fun _ _ => WaitV.keep k6) pz5
              · rw [List.take_zero, List.map_nil, List.append_nil]
                exact fun x hx => let y := wo5 x hx; ⟨y.inn.keep k6, y.ok, y.lets⟩
            · rintro i σ' H' _ ⟨_, _, _, _, h⟩
              exact h
            · rintro i x σ' H' hx ⟨y7', vs, rfl, ⟨sm6, inA6, pz6, wo6, eW6, kv6, eF6, ki6⟩, hp6⟩
              rw [List.getElem?_map] at hx
              obtain ⟨B, hB, rfl⟩ := Option.map_eq_some_iff.mp hx
              have mB : B ∈ A.kids := List.mem_of_getElem? hB
              refine ⟨_, rfl, .inl ⟨rfl, _, SqL.of eW6⟩, _, rfl, _, rfl, (by show 2 ≤ sizeLine; decide), fun tq nq => ?_⟩
              have k7 := tk_new (o := .tup [B.v, .int ((d0 + A.step : Nat) : Int)]) nq
              have s7 := same_new (o := .tup [B.v, .int ((d0 + A.step : Nat) : Int)]) nq
              have eW7 := s7 _ _ eW6
              have lvs : vs.length ≤ 210 := by
                have e := Paired.length pz6
                rw [List.length_append, List.length_map, List.length_take] at e
                have l2 := A.kids_len
                have l3 := sumC_len ws'
                omega
              refine ⟨W, _, _, rfl, rfl, eW7, small1000 (by omega), ?_⟩
              have k8 := TupKeep.trans k7 (tk_lst (o := .lst (vs ++ [.ref tq])) eW7)
              have sm7 := Same.trans sm6 s7
              refine ⟨_, vs ++ [.ref tq], rfl, ⟨same_upd sm7 nW, inA6.keep k8, ?_, ?_, upd_same, kv6, ?_, ki6⟩, seqT_upd eW7 (seqT s7 hp6)⟩
              · rw [List.take_add_one, hB, List.map_append, ← List.append_assoc]
                exact Paired.snoc' ⟨tq, rfl, tk_lst eW7 _ _ (SqT.of upd_same)⟩ (Paired.imp' (fun _ _ => WaitV.keep k8) pz6)
              · intro x hx
                rw [List.take_add_one, hB, List.map_append, ← List.append_assoc] at hx
                rcases List.mem_append.mp hx with hx | hx
                · let y := wo6 x hx
                  exact ⟨y.inn.keep k8, y.ok, y.lets⟩
                · rw [List.mem_singleton.mp hx]
                  exact ⟨(inA6.kid B mB).keep k8, hA.ok.kid B mB, fun z hz => hA.lets z (A.kid_lets mB z hz)⟩
              · rw [upd_ne nWF.symm]
                exact s7 _ _ eF6
            · rintro σ' H' ⟨y7', vs, rfl, ⟨sm6, inA6, pz6, wo6, eW6, kv6, eF6, ki6⟩, hp6⟩
              rw [List.length_map, List.take_length] at pz6 wo6
              have hc := sumC_kids A (d0 + A.step)
              have cp := A.count_pos
              refine ⟨⟨W, Fd, vs, _, m + 1, max d (d0 + A.step), kv6, some A.v, some (.int ((d0 + A.step : Nat) : Int)), y7', ?_, sm6, nW, nF, eW6, pz6, wo6, eF6, ki6, ?_, ?_⟩, ?_⟩
              · have e1 : (if ((d0 + A.step : Nat) : Int) > (d : Int) then ((d0 + A.step : Nat) : Int) else (d : Int)) = ((max d (d0 + A.step) : Nat) : Int) := by split <;> omega
                rw [e1]
                rfl
              · have := mxD_kids d0 A
                rw [mxD_app]
                omega
              · rw [sumC_app]
                omega
              · show 200 - ((m : Int) + 1).toNat < 200 - (m : Int).toNat
                omega
          · obtain ⟨sm4, inA4, r4⟩ := id st4
            refine ⟨_, rfl, A.at_, _, 0, _, rfl, rfl, inA4.tup, atI_nat (j := 0) rfl, rfl, _, rfl, ite2 (fun c => ?_) (fun c => ?_)⟩
            · have e := (word_undo A).1 (of_decide_eq_true c)
              refine ⟨_, rfl, _, 1, rfl, rfl, rest _ _ ⟨?_, st4⟩⟩
              rw [e]
              rfl
            · have e : A.step = 0 := (A.step_le).resolve_right fun z => c (decide_eq_true ((word_undo A).2 z))
              exact rest _ _ ⟨by rw [e]; rfl, st4⟩
        · have st3 : stand H3 zs ws' := ⟨sm3, inA, pz2, wo2, eW2, kvs, eF2, ki⟩
          refine ⟨_, rfl, A.at_, _, 0, _, rfl, rfl, inA.tup, atI_nat (j := 0) rfl, rfl, _, rfl, ?_⟩
          rcases word_letter A with ⟨p, x, rfl⟩ | ne
          · refine ifP rfl ?_
            have hx : x ∈ L := hA.lets x (List.mem_singleton.mpr rfl)
            refine ⟨_, rfl, _, rfl, p, _, 1, _, rfl, rfl, inA.tup, atI_nat (j := 1) rfl, Fd, _, rfl, DPut.k (k := Sum.inr x) eF2 (small1000 (by have := ki.len; have := gd.few; omega)), ?_⟩
            have nFW : ∀ {a : Addr} {ys : List V}, H3 a = some (.tup ys) → (upd H3 Fd (.dK (putK kvs (Sum.inr x) (.bl true)))) a = some (.tup ys) := fun {a ys} h => by
              rw [upd_ne (fun z => by rw [z, eF2] at h; cases h)]
              exact h
            have k4 : TupKeep H3 (upd H3 Fd (.dK (putK kvs (Sum.inr x) (.bl true)))) := tk_by fun a u h _ n => by
              rw [upd_ne (fun z => by rw [z, eF2] at h; cases h; exact n _ rfl)]
              exact h
            refine rest _ _ ⟨rfl, same_upd sm3 nF, inA.keep k4, Paired.imp' (fun _ _ => WaitV.keep k4) pz2, fun x hx => let y := wo2 x hx; ⟨y.inn.keep k4, y.ok, y.lets⟩, ?_, _, upd_same, ki.put hx⟩
            rw [upd_ne nWF]
            exact eW2
          · exact ifN ne (rest _ _ ⟨rfl, st3⟩)
    · obtain ⟨v, e1, k, e2, e3⟩ := hc
      exact ⟨v, e1, k, e2, hh _ _ e3⟩
end
end Nv

set_option maxRecDepth 100000
set_option maxHeartbeats 4000000
namespace Nv
open PySem PySem.Spec PyProof.Rows L2
variable {K : PySem.W.Frag} [KFx K]
section
variable {P : Program} {w : World} {mg : Str → Option Value} {base : Heap} {o2 : Addr}
/-- a new list of the parts -/
def spParts (n : Nat) : Sp := fun vs H Q _ => ∃ T : AT, vs = [T.v] ∧ T.In H ∧ T.count ≤ n ∧ n ≤ 100 ∧ ∀ (p : Addr) (H' : Hp), Same H H' → H p = none → H' p = some (.lst (T.parts.map AT.v)) → Q (.ref p) H'
/-- the parts of the first things -/
def kidParts (T : AT) (i : Nat) : List AT := ((T.kids.take i).map AT.parts).flatten
theorem kidParts_all (T : AT) : T :: kidParts T T.kids.length = T.parts := by rw [kidParts, List.take_length, ← T.parts_eq]
theorem kidParts_succ {T B : AT} {i : Nat} (h : T.kids[i]? = some B) : kidParts T (i + 1) = kidParts T i ++ B.parts := by
  unfold kidParts
  rw [List.take_add_one, h, List.map_append, List.flatten_append]
  simp
theorem kidParts_len (T : AT) (i : Nat) : (kidParts T i).length ≤ T.count := by
  have : kidParts T i <+: kidParts T T.kids.length := by
    unfold kidParts
    rw [List.take_length]
    have : T.kids.take i <+: T.kids := List.take_prefix _ _
    obtain ⟨r, e⟩ := this
    exact ⟨(r.map AT.parts).flatten, by rw [← List.flatten_append, ← List.map_append, e]⟩
  have l := this.length_le
  have e := congrArg List.length (kidParts_all T)
  rw [List.length_cons, T.parts_len] at e
  omega
end
end Nv

set_option maxRecDepth 100000
namespace NvSet
open PySem PySem.Spec PyProof.Rows L2
theorem str_of_list {a b : Str} (h : a.cps.toList = b.cps.toList) : a = b := by
  cases a; cases b
  exact congrArg Str.mk (Array.toList_inj.mp h)
/-- no earlier than -/
def Le (a b : Str) : Prop := ¬ b.cps.toList < a.cps.toList
theorem Le.trans {a b c : Str} (h1 : Le a b) (h2 : Le b c) : Le a c := List.not_lt.mpr (List.le_trans (List.not_lt.mp h1) (List.not_lt.mp h2))
theorem Le.anti {a b : Str} (h1 : Le a b) (h2 : Le b a) : a = b := str_of_list (List.le_antisymm (List.not_lt.mp h1) (List.not_lt.mp h2))
theorem le_of {a b : Str} (h : (!ltCps b.cps.toList a.cps.toList) = true) : Le a b := fun z => by
  rw [ltCps_eq, decide_eq_true z] at h
  cases h
theorem rising_pw : ∀ (l : List Str) (p : Str), risingS p l = true → (p :: l).Pairwise Le
  | [], p, _ => List.pairwise_singleton _ _
  | x :: r, p, h => by
    have h' : (!ltCps x.cps.toList p.cps.toList && risingS x r) = true := h
    rw [Bool.and_eq_true] at h'
    have ih := rising_pw r x h'.2
    have px := le_of h'.1
    refine List.pairwise_cons.mpr ⟨fun y hy => ?_, ih⟩
    rcases List.mem_cons.mp hy with e | e
    · rw [e]; exact px
    · exact px.trans ((List.pairwise_cons.mp ih).1 y e)
theorem sorted_pw : ∀ {l : List Str}, sortedS l = true → l.Pairwise Le
  | [], _ => List.Pairwise.nil
  | x :: r, h => rising_pw r x h
theorem pw_unique : ∀ {l m : List Str}, l.Pairwise Le → m.Pairwise Le → l.Nodup → m.Nodup → (∀ y, y ∈ l ↔ y ∈ m) → l = m
  | [], [], _, _, _, _, _ => rfl
  | [], y :: m, _, _, _, _, h => by cases (h y).2 List.mem_cons_self
  | x :: l, [], _, _, _, _, h => by cases (h x).1 List.mem_cons_self
  | x :: l, y :: m, h1, h2, n1, n2, h => by
    obtain ⟨a1, b1⟩ := List.pairwise_cons.mp h1
    obtain ⟨a2, b2⟩ := List.pairwise_cons.mp h2
    obtain ⟨c1, d1⟩ := List.nodup_cons.mp n1
    obtain ⟨c2, d2⟩ := List.nodup_cons.mp n2
    have e : x = y := by
      rcases List.mem_cons.mp ((h x).1 List.mem_cons_self) with e | e
      · exact e
      · rcases List.mem_cons.mp ((h y).2 List.mem_cons_self) with e' | e'
        · exact e'.symm
        · exact (a1 y e').anti (a2 x e)
    subst e
    refine congrArg (List.cons x) (pw_unique b1 b2 d1 d2 fun z => ⟨fun hz => ?_, fun hz => ?_⟩)
    · rcases List.mem_cons.mp ((h z).1 (List.mem_cons_of_mem _ hz)) with e | e
      · exact absurd (e ▸ hz) c1
      · exact e
    · rcases List.mem_cons.mp ((h z).2 (List.mem_cons_of_mem _ hz)) with e | e
      · exact absurd (e ▸ hz) c2
      · exact e
/-- the texts xs, each once, rising -/
structure Rising (ys xs : List Str) : Prop where
  srt : sortedS ys = true
  nd : ys.Nodup
  mem : ∀ y, y ∈ ys ↔ y ∈ xs
theorem Rising.eq {ys zs xs : List Str} (a : Rising ys xs) (b : Rising zs xs) : ys = zs := pw_unique (sorted_pw a.srt) (sorted_pw b.srt) a.nd b.nd fun y => (a.mem y).trans (b.mem y).symm
/-- a comprehension of texts over a list that stays -/
theorem sc_list {w : World} {K : PySem.W.Frag} {a : Addr} {xs : List V} {g : TG} {tt : TT} {te : TE} {vs : List Nat} {σ : L2.St} {H1 : Hp} {D : Addr} {Qd : Hp → Prop} (Pv : Nat → Hp → Prop) (h0 : Pv 0 (upd H1 D (TxO w D []))) (hl : ∀ i H, i ≤ xs.length → Pv i H → SqL K H a xs)
    (hs : ∀ i x H, xs[i]? = some x → Pv i H → g x (wipe σ vs) H fun τ H2 => wipe τ vs = wipe σ vs ∧ tt τ H2 fun b H3 =>
      if b = true then te τ H3 fun y H4 => ∃ (c : Str) (us : List Str), y = .str c ∧ H4 D = some (TxO w D us) ∧ us.length + 1 < scanBound ∧ Pv (i + 1) (upd H4 D (TxO w D (more c us))) else Pv (i + 1) H3) (hd : ∀ H, Pv xs.length H → Qd H) :
    ∃ W : Nat → Nat → Hp → Prop, (∃ m, W 0 m (upd H1 D (TxO w D []))) ∧ ∀ i m H, W i m H →
      ((Itl K a).stop i H ∧ Qd H) ∨ ((Itl K a).go i H ∧ ∃ Nx : Hp → Prop, (∀ H', Nx H' → ∃ m', m' < m ∧ W (i + 1) m' H') ∧ ∀ x H', (Itl K a).yld i H x H' → g x (wipe σ vs) H' fun τ H2 => wipe τ vs = wipe σ vs ∧ tt τ H2 fun b H3 =>
        if b = true then te τ H3 fun y H4 => ∃ (c : Str) (us : List Str), y = .str c ∧ H4 D = some (TxO w D us) ∧ us.length + 1 < scanBound ∧ Nx (upd H4 D (TxO w D (more c us))) else Nx H3) := by
  refine ⟨fun i m H => m + i = xs.length ∧ Pv i H, ⟨xs.length, rfl, h0⟩, ?_⟩
  rintro i m H ⟨hm, p⟩
  have st := hl i H (by omega) p
  by_cases lt : i < xs.length
  · refine .inr ⟨⟨xs, xs[i], st, List.getElem?_eq_getElem lt⟩, Pv (i + 1), fun H' p' => ⟨m - 1, by omega, by omega, p'⟩, ?_⟩
    rintro x H' ⟨rfl, y⟩
    exact hs i x _ (y xs st) p
  · obtain rfl : i = xs.length := by omega
    exact .inl ⟨⟨xs, st, Nat.le_refl _⟩, hd H p⟩
end NvSet

set_option maxRecDepth 100000
set_option maxHeartbeats 4000000
namespace Nv
open PySem PySem.Spec PyProof.Rows L2 NvSet
variable {K : PySem.W.Frag} [KFx K]
abbrev letOf : AT → Option Str := fun A => match A with | .le _ x => some x | _ => none
section
variable {P : Program} {w : World} {mg : Str → Option Value} {base : Heap} {o2 : Addr}
/-- a new list of the letters, each once, rising -/
def spLets (n : Nat) : Sp := fun vs H Q _ => ∃ T : AT, vs = [T.v] ∧ T.In H ∧ T.count ≤ n ∧ n ≤ 60 ∧ ∀ (p : Addr) (ys : List Str) (H' : Hp), Same H H' → H p = none → Rising ys T.lets → H' p = some (.lst (ys.map V.str)) → Q (.ref p) H'
theorem more_len (x : Str) (xs : List Str) : (more x xs).length ≤ xs.length + 1 := by
  unfold more
  split
  · omega
  · exact Nat.le_refl _
end
end Nv

set_option maxRecDepth 100000
set_option maxHeartbeats 4000000
namespace Nv
open PySem PySem.Spec PyProof.Rows L2 NvSet
variable {K : PySem.W.Frag} [KFx K]
theorem fr_low (t : Int) {b : Int} (hb : b ≠ 0) : Int.gcd (frT t b) (frB t b) = 1 := by
  have e1 : frT t b * per t b = t := fdiv_mul (per_dvd_l t b)
  have e2 : frB t b * per t b = b := fdiv_mul (per_dvd_r t b)
  have g : Int.gcd (frT t b * per t b) (frB t b * per t b) = Int.gcd (frT t b) (frB t b) * (per t b).natAbs := Int.gcd_mul_right ..
  rw [e1, e2] at g
  have p : (per t b).natAbs = Int.gcd t b := by
    unfold per
    split <;> omega
  rw [p] at g
  have pos := gcd_pos t hb
  have : 1 * Int.gcd t b = Int.gcd (frT t b) (frB t b) * Int.gcd t b := by rw [Nat.one_mul]; exact g
  exact (Nat.eq_of_mul_eq_mul_right pos this).symm
theorem sh_fr {t b : Int} (ht : t.natAbs ≤ 1000) (hb : b.natAbs ≤ 1000) (h0 : b ≠ 0) : ShOk (frT t b) (frB t b) := by
  have h1 := frT_le t h0
  have h2 := frB_le t h0
  have h3 := frB_pos t h0
  exact ⟨by omega, by omega, by omega, fr_low t h0⟩
abbrev sAbc : Stmt := topS 58
abbrev sLeaf : Stmt := topS 59
abbrev sDrawn : Stmt := topS 60
abbrev nAbc : List Str := ["_law_bag_here", "_law_many", "_law_first", "_law_found", "_law_pad", "_law_at", "_law_k", "_law_sign"]
theorem scAbc : FnScope nAbc ["_law_bag_here", "_law_many"] (defScope sAbc) := ⟨rfl, rfl, rfl, by decide +kernel, rfl, by decide +kernel, by decide +kernel⟩
theorem scLeaf : FnScope ["_law_bag_here", "_law_signs"] ["_law_bag_here", "_law_signs"] (defScope sLeaf) := ⟨rfl, rfl, rfl, by decide +kernel, rfl, by decide +kernel, by decide +kernel⟩
theorem scDrawn : FnScope ["_law_bag_here", "_law_signs", "_law_room", "_law_deep", "_law_way", "_law_half", "_law_one"] ["_law_bag_here", "_law_signs", "_law_room", "_law_deep"] (defScope sDrawn) := ⟨rfl, rfl, rfl, by decide +kernel, rfl, by decide +kernel, by decide +kernel⟩
def spLight : Sp := fun vs H Q _ => ∃ l b : Addr, vs = [.ref b] ∧ Bag l b H ∧ ∀ (p : Addr) (t d : Int) (H' : Hp), ShOk t d → Bag l b H' → Grow b H H' → H p = none → H' p = some (.tup [.int t, .int d]) → Q (.ref p) H'
/-- tuples stay where the bag alone changes -/
theorem Bag.tk {l b : Addr} {H H' : Hp} (B : Bag l b H) (g : Grow b H H') : TupKeep H H' := fun a xs h => by
  obtain ⟨ns, _, _, ⟨i, j, s, n, hb, _⟩⟩ := B
  exact tk_by (fun a u h n _ => g a _ (fun z => by rw [z, hb] at h; cases h; exact n _ rfl) h) a xs h
section
variable {P : Program} {w : World} {mg : Str → Option Value} {base : Heap}
theorem ok_light8 {f : Addr} {fd : FuncData} (F : Fun K "_law_light" "_law_light" sLight f fd) (GF : C8.Cal P w K mg base 2 "_law_fr" spFr []) (GP : C8.Cal P w K mg base 1 "_law_pull" spPull []) : FnOk P w K mg base CX0 3 f fd ["_law_bag_here"] spLight := by
  refine F.ok scLight (fun vs H Q E h => ?_) (fun cdv A outer s H vs Q E hr h => ?_)
  · obtain ⟨l, b, rfl, _⟩ := h
    rfl
  · obtain ⟨l, b, rfl, B, q⟩ := h
    refine ⟨_, pss_one (ps_ret (C8.pe_c GF hr (by decide) (by rfl) (pa_cons (pe_op op_sub (C8.pe_c GP hr (by decide) (by rfl) (pa_cons (pv 0) (pa_cons pe_int pa_nil))) pe_int)
      (pa_cons (pe_ix ix_list (pe_lst (pa_cons pe_int (pa_cons pe_int (pa_cons pe_int (pa_cons pe_int (pa_cons pe_int (pa_cons pe_int pa_nil))))))) (C8.pe_c GP hr (by decide) (by rfl) (pa_cons (pv 0) (pa_cons pe_int pa_nil))) (fun _ _ => rfl)) pa_nil)))), ?_⟩
    refine ⟨_, rfl, l, b, 9, rfl, by decide, fit8 (n := 4) (by decide) (by decide), B, fun r H1 r0 r1 B1 t1 => ?_⟩
    refine ⟨r, 4, rfl, rfl, (by show 6 ≤ sizeLine; decide), fun o no => ?_⟩
    have B2 := B1.same (same_new (o := .lst [.int 1, .int 1, .int 1, .int 2, .int 3, .int 5]) no)
    refine ⟨_, rfl, l, b, 6, rfl, by decide, fit8 (n := 4) (by decide) (by decide), B2, fun r2 H2 s0 s1 B3 t2 => ?_⟩
    have nob := B1.ne no
    have ho : H2 o = some (.lst [.int 1, .int 1, .int 1, .int 2, .int 3, .int 5]) := by rw [t2 o nob, upd_same]
    have g : Grow b H H2 := t1.grow.trans ((Same.grow (same_new no)).trans t2.grow)
    have pick : ∃ d : Int, atI [V.int 1, V.int 1, V.int 1, V.int 2, V.int 3, V.int 5] r2 = some (.int d) ∧ 0 < d ∧ d ≤ 5 := by
      have : r2 = 0 ∨ r2 = 1 ∨ r2 = 2 ∨ r2 = 3 ∨ r2 = 4 ∨ r2 = 5 := by omega
      rcases this with e | e | e | e | e | e <;> subst e
      · exact ⟨1, rfl, by decide, by decide⟩
      · exact ⟨1, rfl, by decide, by decide⟩
      · exact ⟨1, rfl, by decide, by decide⟩
      · exact ⟨2, rfl, by decide, by decide⟩
      · exact ⟨3, rfl, by decide, by decide⟩
      · exact ⟨5, rfl, by decide, by decide⟩
    obtain ⟨d, hd, d0, d5⟩ := pick
    refine ⟨o, _, r2, _, rfl, rfl, SqL.of ho, hd, r - 4, d, rfl, by omega, fit8 (n := 5) (Nat.lt_of_le_of_lt (show d.natAbs ≤ 9 by omega) (by decide)) (by decide), fun p H' sm hp ep => ?_⟩
    exact q p _ _ _ (sh_fr (by omega) (by omega) (by omega)) (B3.same sm) (g.trans (Same.grow sm)) (g.free (B3.ne hp) hp) ep
/-- one of the signs or a share -/
def spLeaf : Sp := fun vs H Q _ => ∃ (l b o : Addr) (L : List Str), vs = [.ref b, .ref o] ∧ o ≠ b ∧ H o = some (.lst (L.map V.str)) ∧ 0 < L.length ∧ L.length ≤ 1000 ∧ (∀ x ∈ L, Small x) ∧ Bag l b H ∧
  ∀ (T : AT) (H' : Hp), T.In H' → T.Ok → T.count = 1 → T.deep = 0 → (∀ x ∈ T.lets, x ∈ L) → Bag l b H' → Grow b H H' → Q T.v H'
theorem ok_leaf {f : Addr} {fd : FuncData} (F : Fun K "_law_leaf" "_law_leaf" sLeaf f fd) (GL : C8.Cal P w K mg base 3 "_law_light" spLight []) (GP : C8.Cal P w K mg base 1 "_law_pull" spPull []) (GO : C8.Cal P w K mg base 2 "_law_of" spOf []) :
    FnOk P w K mg base CX0 4 f fd ["_law_bag_here", "_law_signs"] spLeaf := by
  refine F.ok scLeaf (fun vs H Q E h => ?_) (fun cdv A outer s H vs Q E hr h => ?_)
  · obtain ⟨l, b, o, L, rfl, _⟩ := h
    rfl
  · obtain ⟨l, b, o, L, rfl, nob, ho, h0, h1, hs, B, q⟩ := h
    refine ⟨_, pss_one (ps_ret (pe_ifExp (pt_cmpR op_eq (C8.pe_c GP hr (by decide) (by rfl) (pa_cons (pv 0) (pa_cons pe_int pa_nil))) pe_int (nomark _)) (pe_tup (pa_cons pe_str (pa_cons (C8.pe_c GL hr (by decide) (by rfl) (pa_cons (pv 0) pa_nil)) pa_nil)))
      (pe_tup (pa_cons pe_str (pa_cons (C8.pe_c GO hr (by decide) (by rfl) (pa_cons (pv 0) (pa_cons (pv 1) pa_nil))) pa_nil))))), ?_⟩
    refine ⟨_, rfl, l, b, 4, rfl, by decide, fit8 (n := 4) (by decide) (by decide), B, fun r H1 r0 r1 B1 t1 => ?_⟩
    have ho1 : H1 o = some (.lst (L.map V.str)) := t1.grow _ _ nob ho
    refine ⟨rfl, _, rfl, ite2 (fun c => ?_) (fun c => ?_)⟩
    · refine ⟨_, rfl, l, b, rfl, B1, fun p t d H2 sh B2 g2 np ep => ⟨(by show 2 ≤ sizeLine; decide), fun tp nt => ?_⟩⟩
      have sm := same_new (o := .tup [.str "share", .ref p]) nt
      exact q (.sh tp p t d) _ ⟨SqT.of upd_same, SqT.of (sm _ _ ep)⟩ sh rfl rfl (fun x hx => nomatch hx) (B2.same sm) (t1.grow.trans (g2.trans (Same.grow sm)))
    · refine ⟨_, rfl, _, rfl, l, b, o, _, rfl, nob, ho1, by rw [List.length_map]; exact h0, by rw [List.length_map]; exact h1, B1, fun v H2 hv B2 t2 => ⟨(by show 2 ≤ sizeLine; decide), fun tp nt => ?_⟩⟩
      obtain ⟨x, hx, rfl⟩ := List.mem_map.mp hv
      have sm := same_new (o := .tup [.str "letter", .str x]) nt
      exact q (.le tp x) _ (SqT.of upd_same) (hs x hx) rfl rfl (fun y hy => by rw [List.mem_singleton.mp hy]; exact hx) (B2.same sm) (t1.grow.trans (t2.grow.trans (Same.grow sm)))
/-- a drawn reckoning of at most r parts -/
def spDrawn (n : Nat) : Sp := fun vs H Q _ => ∃ (l b o : Addr) (L : List Str) (r d : Nat), vs = [.ref b, .ref o, .int (r : Int), .int (d : Int)] ∧ 1 ≤ r ∧ r ≤ n ∧ n ≤ 1000 ∧ d ≤ 1000 ∧ o ≠ b ∧ H o = some (.lst (L.map V.str)) ∧ 0 < L.length ∧ L.length ≤ 1000 ∧ (∀ x ∈ L, Small x) ∧ Bag l b H ∧
  ∀ (T : AT) (H' : Hp), T.In H' → T.Ok → T.count ≤ r → T.deep ≤ d → (∀ x ∈ T.lets, x ∈ L) → Bag l b H' → Grow b H H' → Q T.v H'
theorem ok_drawn {f : Addr} {fd : FuncData} (F : Fun K "_law_drawn" "_law_drawn" sDrawn f fd) (gf : mg "_law_drawn" = some (.ref f)) (bf : Binds K fd ["_law_bag_here", "_law_signs", "_law_room", "_law_deep"] [])
    (GL : C8.Cal P w K mg base 4 "_law_leaf" spLeaf []) (GP : C8.Cal P w K mg base 1 "_law_pull" spPull []) : ∀ n : Nat, FnOk P w K mg base CX0 (n + 4) f fd ["_law_bag_here", "_law_signs", "_law_room", "_law_deep"] (spDrawn n) := by
  intro n
  induction n with
  | zero => exact ⟨fun vs H Q E h => by obtain ⟨_, _, _, _, _, _, rfl, _⟩ := h; rfl, fun A outer s H args us vs Q E _ _ _ _ h => by
      obtain ⟨_, _, _, _, r, _, _, c1, c2, _⟩ := h
      omega⟩
  | succ n ih =>
    refine F.ok scDrawn (fun vs H Q E h => ?_) (fun cdv A outer s H vs Q E hr h => ?_)
    · obtain ⟨_, _, _, _, _, _, rfl, _⟩ := h
      rfl
    · obtain ⟨l, b, o, L, r, d, rfl, r1, rn, hn, hd, nob, ho, h0, h1, hs, B, q⟩ := h
      refine ⟨_, pss_cons (ps_set (i := 4) scDrawn.nd rfl (.inl rfl) (C8.pe_c GP hr (by omega) (by rfl) (pa_cons (pv 0) (pa_cons pe_int pa_nil))))
        (pss_cons (ps_if (PW.pt (pw_or (pt_cmpR op_lt (pv 2) pe_int (nomark _)) (pw_or (pt_cmpR op_eq (pv 4) pe_int (nomark _)) (pw_or1 (PW.pt (pw_and (pt_cmpR op_lt (pv 2) pe_int (nomark _)) (pw_and1 (pt_cmpR op_eq (pv 3) pe_int (nomark _)))))))))
          (pss_one (ps_ret (C8.pe_c GL hr (by omega) (by rfl) (pa_cons (pv 0) (pa_cons (pv 1) pa_nil))))) pss_nil)
        (pss_cons (ps_if (PW.pt (pw_and (pt_cmpR op_gt (pv 3) pe_int (nomark _)) (pw_and1 (PW.pt (pw_or (pt_cmpR op_lt (pv 4) pe_int (nomark _)) (pw_or1 (pt_cmpR op_lt (pv 2) pe_int (nomark _))))))))
          (pss_one (ps_ret (pe_tup (pa_cons pe_str (pa_cons (pe_call ih hr (by rfl) gf F.kp bf .nil pass0 (pa_cons (pv 0) (pa_cons (pv 1) (pa_cons (pe_op op_sub (pv 2) pe_int) (pa_cons (pe_op op_sub (pv 3) pe_int) pa_nil))))) pa_nil))))) pss_nil)
        (pss_cons (ps_set (i := 5) scDrawn.nd rfl (.inl rfl) (pe_op op_add pe_int (C8.pe_c GP hr (by omega) (by rfl) (pa_cons (pv 0) (pa_cons (pe_op op_sub (pv 2) pe_int) pa_nil)))))
        (pss_cons (ps_set (i := 6) scDrawn.nd rfl (.inl rfl) (pe_call ih hr (by rfl) gf F.kp bf .nil pass0 (pa_cons (pv 0) (pa_cons (pv 1) (pa_cons (pv 5) (pa_cons (pv 3) pa_nil))))))
        (pss_one (ps_ret (pe_tup (pa_cons (pe_ix ix_list (pe_lst (pa_cons pe_str (pa_cons pe_str (pa_cons pe_str pa_nil)))) (pe_op op_mod (pv 4) pe_int) (fun _ _ => rfl)) (pa_cons (pv 6)
          (pa_cons (pe_call ih hr (by rfl) gf F.kp bf .nil pass0 (pa_cons (pv 0) (pa_cons (pv 1) (pa_cons (pe_op op_sub (pe_op op_sub (pv 2) pe_int) (pv 5)) (pa_cons (pv 3) pa_nil))))) pa_nil)))))))))), ?_⟩
      refine ⟨_, rfl, l, b, 9, rfl, by decide, fit8 (n := 4) (by decide) (by decide), B, fun y H1 y0 y1 B1 t1 => ?_⟩
      have ho1 : H1 o = some (.lst (L.map V.str)) := t1.grow _ _ nob ho
      have leafQ : spLeaf [.ref b, .ref o] H1 Q C8.E0 := ⟨l, b, o, L, rfl, nob, ho1, h0, h1, hs, B1, fun T H2 a1 a2 a3 a4 a5 B2 g2 => q T H2 a1 a2 (by omega) (by omega) a5 B2 (t1.grow.trans g2)⟩
      let st : L2.St := [some (.ref b), some (.ref o), some (.int (r : Int)), some (.int (d : Int)), some (.int y), none, none]
      refine keepN (fun σ' H' => σ' = st ∧ H1 = H' ∧ 2 ≤ r ∧ (3 ≤ r ∨ 1 ≤ d)) (fun σ' H' hM => ?_) (fun rest => ?_)
      · obtain ⟨rfl, rfl, r2, r3⟩ := hM
        refine keep (fun σ' H' => σ' = st ∧ H1 = H' ∧ 3 ≤ r) (fun σ' H' hM => ?_) (fun rest => ?_)
        · obtain ⟨rfl, rfl, r3⟩ := hM
          refine ⟨_, rfl, _, rfl, _, 2, rfl, rfl, l, b, (r : Int) - 2, rfl, by omega, fit8 (n := 10) (Nat.lt_of_le_of_lt (show ((r : Int) - 2).natAbs ≤ 1000 by omega) (by decide)) (by decide), B1, fun z H2 z0 z1 B2 t2 => ?_⟩
          refine ⟨1, z, rfl, rfl, ?_⟩
          have ho2 : H2 o = some (.lst (L.map V.str)) := t2.grow _ _ nob ho1
          have ez : (1 : Int) + z = ((1 + z.toNat : Nat) : Int) := by omega
          refine ⟨_, rfl, _, rfl, _, rfl, _, rfl, l, b, o, L, 1 + z.toNat, d, congrArg (fun k => [V.ref b, V.ref o, V.int k, V.int (d : Int)]) ez, by omega, by omega, by omega, hd, nob, ho2, h0, h1, hs, B2, fun T1 H3 a1 a2 a3 a4 a5 B3 g3 => ?_⟩
          have ho3 := g3 _ _ nob ho2
          refine ⟨(by show 3 ≤ sizeLine; decide), fun w3 nw3 => ?_⟩
          have s4 := same_new (o := .lst [.str "plus", .str "less", .str "times"]) nw3
          have B4 := B3.same s4
          have n3 := B3.ne nw3
          refine ⟨_, rfl, y, 3, rfl, rfl, (by show (0 : Int) < 3; decide), ?_⟩
          obtain ⟨op, hop⟩ : ∃ op : Op, atI [V.str "plus", V.str "less", V.str "times"] (y % 3) = some (.str op.word) := by
            have : y % 3 = 0 ∨ y % 3 = 1 ∨ y % 3 = 2 := by omega
            rcases this with e | e | e <;> rw [e]
            · exact ⟨.plus, rfl⟩
            · exact ⟨.less, rfl⟩
            · exact ⟨.times, rfl⟩
          refine ⟨w3, _, _, _, rfl, rfl, SqL.of upd_same, hop, _, rfl, _, rfl, _, rfl, _, rfl, _, 1, rfl, rfl, _, rfl, _, _, rfl, rfl, _, rfl, ?_⟩
          have er : (r : Int) - 1 - (1 + z) = ((r - 1 - (1 + z.toNat) : Nat) : Int) := by omega
          refine ⟨l, b, o, L, r - 1 - (1 + z.toNat), d, congrArg (fun k => [V.ref b, V.ref o, V.int k, V.int (d : Int)]) er, by omega, by omega, by omega, hd, nob, s4 _ _ ho3, h0, h1, hs, B4, fun T2 H5 c1 c2 c3 c4 c5 B5 g5 => ⟨(by show 3 ≤ sizeLine; decide), fun tp nt => ?_⟩⟩
          have s6 := same_new (o := .tup [.str op.word, T1.v, T2.v]) nt
          have k5 := B4.tk g5
          refine q (.two tp op T1 T2) _ ⟨SqT.of upd_same, (a1.keep (Same.tk s4)).keep (k5.trans (Same.tk s6)), c1.keep (Same.tk s6)⟩ ⟨a2, c2⟩ ?_ ?_ ?_ (B5.same s6) (t1.grow.trans (t2.grow.trans (g3.trans ((Same.grow s4).trans (g5.trans (Same.grow s6))))))
          · show 1 + T1.count + T2.count ≤ r
            omega
          · show max T1.deep T2.deep ≤ d
            omega
          · intro x hx
            rcases List.mem_append.mp hx with e | e
            · exact a5 x e
            · exact c5 x e
        · have undoQ : 1 ≤ d → ∀ {D : Ends}, D.rt = Q → tRet (tTup (tCons (tC (V.str "undo")) (tCons (tCall (spDrawn n) [] C8.E0 (tCons (tVar 0) (tCons (tVar 1) (tCons (tOp (rI0 fun i j => .int (i - j)) (tVar 2) (tC (V.int 1))) (tCons (tOp (rI0 fun i j => .int (i - j)) (tVar 3) (tC (V.int 1))) tNil))))) tNil))) D st H1 := fun d1 D hD => by
            refine ⟨_, rfl, _, rfl, _, rfl, _, 1, rfl, rfl, _, rfl, _, 1, rfl, rfl, ?_⟩
            have e1 : (r : Int) - 1 = ((r - 1 : Nat) : Int) := by omega
            have e2 : (d : Int) - 1 = ((d - 1 : Nat) : Int) := by omega
            have e3 : [V.ref b, V.ref o, V.int ((r : Int) - 1), V.int ((d : Int) - 1)] = [V.ref b, V.ref o, V.int ((r - 1 : Nat) : Int), V.int ((d - 1 : Nat) : Int)] := by rw [e1, e2]
            refine ⟨l, b, o, L, r - 1, d - 1, e3, by omega, by omega, by omega, by omega, nob, ho1, h0, h1, hs, B1, fun T H3 a1 a2 a3 a4 a5 B3 g3 => ⟨(by show 2 ≤ sizeLine; decide), fun tp nt => ?_⟩⟩
            have s6 := same_new (o := .tup [.str "undo", T.v]) nt
            rw [hD]
            refine q (.un tp T) _ ⟨SqT.of upd_same, a1.keep (Same.tk s6)⟩ a2 ?_ ?_ a5 (B3.same s6) (t1.grow.trans (g3.trans (Same.grow s6)))
            · show 1 + T.count ≤ r
              omega
            · show T.deep + 1 ≤ d
              omega
          refine ⟨_, rfl, _, 0, rfl, rfl, _, rfl, ite2 (fun c => ?_) (fun c => ?_)⟩
          · have d1 : 1 ≤ d := by
              have := of_decide_eq_true c
              omega
            refine ⟨_, rfl, _, 3, rfl, rfl, _, rfl, ite2 (fun c => ?_) (fun c => ?_)⟩
            · refine iteT (undoQ d1 ?_)
              rfl
            · refine ⟨_, rfl, _, 3, rfl, rfl, _, rfl, ite2 (fun c => ?_) (fun c => ?_)⟩
              · refine undoQ d1 ?_
                rfl
              · have : ¬ (r : Int) < 3 := fun z => c (decide_eq_true z)
                exact rest _ _ ⟨rfl, rfl, by omega⟩
          · have : ¬ (0 : Int) < (d : Int) := fun z => c (decide_eq_true z)
            exact iteF (rest _ _ ⟨rfl, rfl, by omega⟩)
      · refine ⟨_, rfl, _, 2, rfl, rfl, _, rfl, ite2 (fun c => ?_) (fun c1 => ?_)⟩
        · exact iteT ⟨_, rfl, _, rfl, leafQ⟩
        have r2 : 2 ≤ r := by
          have : ¬ (r : Int) < 2 := fun z => c1 (decide_eq_true z)
          omega
        refine ⟨_, rfl, rfl, _, rfl, ite2 (fun c => ?_) (fun c2 => ?_)⟩
        · exact iteT ⟨_, rfl, _, rfl, leafQ⟩
        refine ⟨_, rfl, _, 3, rfl, rfl, _, rfl, ite2 (fun c => ?_) (fun c3 => ?_)⟩
        · refine ⟨_, rfl, rfl, _, rfl, ite2 (fun c => ?_) (fun c4 => ?_)⟩
          · exact ⟨_, rfl, _, rfl, leafQ⟩
          · have : (d : Int) ≠ 0 := fun z => c4 (decide_eq_true (congrArg V.int z))
            exact rest _ _ ⟨rfl, rfl, r2, .inr (by omega)⟩
        · have : ¬ (r : Int) < 3 := fun z => c3 (decide_eq_true z)
          exact iteF (rest _ _ ⟨rfl, rfl, r2, .inl (by omega)⟩)
end
end Nv

set_option maxRecDepth 100000
set_option maxHeartbeats 4000000
namespace Nv
open PySem PySem.Spec PyProof.Rows L2 NvSet
variable {K : PySem.W.Frag} [KFx K]
/-- signs that are all small letters -/
def allS (x : Str) : Bool := x.cps.toList.all fun c => decide (c ∈ (Str.ofString "abcdefghijklmnopqrstuvwxyz").cps.toList)
def padOk (x : Str) (r : Nat) : Bool := allS (cutS x none (some (r : Int))) && allS (cutS x (some (r : Int)) none) && decide ((cutS x none (some (r : Int))).length + (cutS x (some (r : Int)) none).length ≤ 5)
def pads : List Str := ["", "", "q", "zzzzz", "ab"]
theorem pads_ok : (pads.all fun x => (List.range (x.length + 1)).all fun r => padOk x r) = true := by decide +kernel
theorem abc_len : (Str.ofString "abcdefghijklmnopqrstuvwxyz").length = 26 := by decide +kernel
theorem pads_len : (pads.all fun x => decide (x.length ≤ 5)) = true := by decide +kernel
theorem small_of {a s b : Str} {c : Nat} (ha : allS a = true) (hb : allS b = true) (hl : a.length + b.length ≤ 5) (hc : c ∈ (Str.ofString "abcdefghijklmnopqrstuvwxyz").cps.toList) : Small (a ++ ⟨#[c]⟩ ++ b) := by
  have e : (a ++ (⟨#[c]⟩ : Str) ++ b).cps.toList = a.cps.toList ++ [c] ++ b.cps.toList := by
    show ((a.cps ++ #[c]) ++ b.cps).toList = _
    rw [Array.toList_append, Array.toList_append]
  have l : (a ++ (⟨#[c]⟩ : Str) ++ b).length = a.length + 1 + b.length := by
    rw [Str.length_append, Str.length_append]
    rfl
  refine ⟨by omega, by omega, fun x hx => ?_⟩
  rw [e] at hx
  rcases List.mem_append.mp hx with h | h
  · rcases List.mem_append.mp h with h | h
    · exact of_decide_eq_true (List.all_eq_true.mp ha x h)
    · rw [List.mem_singleton.mp h]
      exact hc
  · exact of_decide_eq_true (List.all_eq_true.mp hb x h)
/-- the j-th small letter between two texts -/
def abcW (a b : Str) (j : Nat) : Str := a ++ ⟨#[((Str.ofString "abcdefghijklmnopqrstuvwxyz").cps.toList.getD j 0)]⟩ ++ b
theorem abc_apart : ∀ j k, j < 26 → k < 26 → (Str.ofString "abcdefghijklmnopqrstuvwxyz").cps.toList.getD j 0 = (Str.ofString "abcdefghijklmnopqrstuvwxyz").cps.toList.getD k 0 → j = k := by
  have h : ((List.range 26).all fun j => (List.range 26).all fun k => decide ((Str.ofString "abcdefghijklmnopqrstuvwxyz").cps.toList.getD j 0 = (Str.ofString "abcdefghijklmnopqrstuvwxyz").cps.toList.getD k 0) == decide (j = k)) = true := by decide +kernel
  intro j k hj hk e
  have h1 := List.all_eq_true.mp (List.all_eq_true.mp h j (List.mem_range.mpr hj)) k (List.mem_range.mpr hk)
  rw [decide_eq_true e] at h1
  have h2 : true = decide (j = k) := by simpa using h1
  exact of_decide_eq_true h2.symm
theorem abcW_inj {a b : Str} {j k : Nat} (hj : j < 26) (hk : k < 26) (e : abcW a b j = abcW a b k) : j = k := by
  refine abc_apart j k hj hk ?_
  have e1 := congrArg (fun z : Str => z.cps.toList) e
  have e2 : ∀ c : Nat, (a ++ (⟨#[c]⟩ : Str) ++ b).cps.toList = a.cps.toList ++ ([c] ++ b.cps.toList) := fun c => by
    show ((a.cps ++ #[c]) ++ b.cps).toList = _
    rw [Array.toList_append, Array.toList_append, List.append_assoc]
  have e3 : a.cps.toList ++ ([_] ++ b.cps.toList) = a.cps.toList ++ ([_] ++ b.cps.toList) := (e2 _).symm.trans (e1.trans (e2 _))
  have e4 := List.append_cancel_left e3
  exact (List.cons.inj e4).1
/-- the letters so far are unlike -/
def NodI (m : Nat) (r : Int) (a b : Str) (L : List Str) (i : Nat) : Prop := m ≤ 26 → L.Nodup ∧ ∀ x ∈ L, ∃ k : Nat, k < i ∧ x = abcW a b ((r + 5 * (k : Int)) % 26).toNat
theorem NodI.step {m : Nat} {r : Int} {a b : Str} {L : List Str} {i j : Nat} (h : NodI m r a b L i) (hi : i < m) (r0 : 0 ≤ r) (ej : (r + 5 * (i : Int)) % 26 = (j : Int)) (hj : j < (Str.ofString "abcdefghijklmnopqrstuvwxyz").cps.toList.length) :
    NodI m r a b (L ++ [a ++ (⟨#[(Str.ofString "abcdefghijklmnopqrstuvwxyz").cps.toList[j]]⟩ : Str) ++ b]) (i + 1) := fun hm => by
  obtain ⟨h1, h2⟩ := h hm
  have ew : a ++ (⟨#[(Str.ofString "abcdefghijklmnopqrstuvwxyz").cps.toList[j]]⟩ : Str) ++ b = abcW a b j := by
    unfold abcW
    rw [List.getD_eq_getElem?_getD, List.getElem?_eq_getElem hj]
    rfl
  rw [ew]
  have j26 : j < 26 := by omega
  refine ⟨?_, fun x hx => ?_⟩
  · rw [List.nodup_append]
    refine ⟨h1, List.nodup_cons.mpr ⟨by simp, List.nodup_nil⟩, fun x hx y hy e => ?_⟩
    rw [List.mem_singleton.mp hy] at e
    obtain ⟨k, hk, ek⟩ := h2 x hx
    have := abcW_inj (by omega) j26 (ek.symm.trans e)
    omega
  · rcases List.mem_append.mp hx with e | e
    · obtain ⟨k, hk, ek⟩ := h2 x e
      exact ⟨k, by omega, ek⟩
    · refine ⟨i, by omega, ?_⟩
      rw [List.mem_singleton.mp e, ej]
      rfl
theorem grow_upd {b D : Addr} {H H1 : Hp} {o : HO} (g : Grow b H H1) (hD : H D = none) : Grow b H (upd H1 D o) := fun a x n h => by
  rw [upd_ne (ne_of_none h hD)]
  exact g a x n h
section
variable {P : Program} {w : World} {mg : Str → Option Value} {base : Heap}
/-- so many letters, in a new list -/
def spAbc : Sp := fun vs H Q _ => ∃ (l b : Addr) (m : Nat), vs = [.ref b, .int (m : Int)] ∧ m ≤ 1000 ∧ Bag l b H ∧ ∀ (p : Addr) (L : List Str) (H' : Hp), L.length = m → (∀ x ∈ L, Small x) → (m ≤ 26 → L.Nodup) → Bag l b H' → Grow b H H' → H p = none → H' p = some (.lst (L.map V.str)) → Q (.ref p) H'
theorem ok_abc {f : Addr} {fd : FuncData} (F : Fun K "_law_abc" "_law_abc" sAbc f fd) (len : mg "len" = none) (rng : mg "range" = none) (GP : C8.Cal P w K mg base 1 "_law_pull" spPull []) (GO : C8.Cal P w K mg base 2 "_law_of" spOf []) : FnOk P w K mg base CX0 3 f fd ["_law_bag_here", "_law_many"] spAbc := by
  refine F.ok scAbc (fun vs H Q E h => ?_) (fun cdv A outer s H vs Q E hr h => ?_)
  · obtain ⟨l, b, m, rfl, _⟩ := h
    rfl
  · obtain ⟨l, b, m, rfl, hm, B, q⟩ := h
    refine ⟨_, pss_cons (ps_par (i := 2) (j := 3) (by rfl) scAbc.nd rfl rfl (by decide) rfl rfl (pa_cons (C8.pe_c GP hr (by decide) (by rfl) (pa_cons (pv 0) (pa_cons pe_int pa_nil))) (pa_cons (pe_lst pa_nil) pa_nil)) (by rfl))
      (pss_cons (ps_set (i := 4) scAbc.nd rfl (.inl rfl) (C8.pe_c GO hr (by decide) (by rfl) (pa_cons (pv 0) (pa_cons (pe_lst (pa_cons pe_str (pa_cons pe_str (pa_cons pe_str (pa_cons pe_str (pa_cons pe_str pa_nil)))))) pa_nil))))
      (pss_cons (ps_set (i := 5) scAbc.nd rfl (.inl rfl) (C8.pe_c GP hr (by decide) (by rfl) (pa_cons (pv 0) (pa_cons (pe_op op_add (pe_callB call_len_str (by rfl) len PySem.boot_len (pa_cons (pv 4) pa_nil)) pe_int) pa_nil))))
      (pss_cons (ps_for PassesOwn.never rfl (pi_range1 (by rfl) rng (pa_cons (pv 1) pa_nil)) (pg_name (i := 6) scAbc.nd rfl (.inl rfl))
        (pss_cons (ps_set (i := 7) scAbc.nd rfl (.inl rfl) (pe_ix ix_str pe_str (pe_op op_mod (pe_op op_add (pv 2) (pe_op op_mul pe_int (pv 6))) pe_int) (fun _ _ => rfl)))
        (pss_one (ps_expr (pe_bm PySem.F.plainAttrs_list PySem.F.slot_list_append PySem.F.type_list_append mt_append (pv 3)
          (pa_cons (pe_op op_add_str (pe_op op_add_str (pe_slice sl_str (pv 4) po_none (po_some (pv 5))) (pv 7)) (pe_slice sl_str (pv 4) (po_some (pv 5)) po_none)) pa_nil))))))
      (pss_one (ps_ret (pv 3)))))), ?_⟩
    refine ⟨_, rfl, l, b, 26, rfl, by decide, fit8 (n := 5) (by decide) (by decide), B, fun r H1 r0 r1 B1 t1 => ?_⟩
    refine ⟨Nat.zero_le _, fun D nD => ?_⟩
    have s2 := same_new (o := .lst []) nD
    have B2 := B1.same s2
    have nDb := B1.ne nD
    have nDl := B1.neL nD
    have eD : (upd H1 D (.lst [])) D = some (.lst []) := upd_same
    refine ⟨_, _, rfl, ?_⟩
    refine ⟨_, rfl, (by show 5 ≤ sizeLine; decide), fun o no => ?_⟩
    have s3 := same_new (o := .lst [.str "", .str "", .str "q", .str "zzzzz", .str "ab"]) no
    have B3 := B2.same s3
    refine ⟨l, b, o, _, rfl, B2.ne no, upd_same, (by show 0 < 5; decide), (by show 5 ≤ 1000; decide), B3, fun v H4 hv B4 t4 => ?_⟩
    have eD4 : H4 D = some (.lst []) := t4.grow _ _ nDb (s3 _ _ eD)
    obtain ⟨pad, hpad, rfl⟩ : ∃ x ∈ pads, v = .str x := by
      have : v ∈ pads.map V.str := hv
      obtain ⟨x, hx, e⟩ := List.mem_map.mp this
      exact ⟨x, hx, e.symm⟩
    have lp : pad.length ≤ 5 := of_decide_eq_true (List.all_eq_true.mp pads_len pad hpad)
    have lps : pad.length ≤ sizeLine := by rw [sizeLine_eq]; omega
    refine ⟨_, rfl, _, rfl, pad, rfl, lps, _, 1, rfl, rfl, l, b, (pad.length : Int) + 1, rfl, by omega, fit8 (n := 5) (Nat.lt_of_le_of_lt (show ((pad.length : Int) + 1).natAbs ≤ 6 by omega) (by decide)) (by decide), B4, fun z H5 z0 z1 B5 t5 => ?_⟩
    have eD5 : H5 D = some (.lst []) := t5.grow _ _ nDb eD4
    have gH5 : Grow b H H5 := t1.grow.trans ((Same.grow s2).trans ((Same.grow s3).trans (t4.grow.trans t5.grow)))
    obtain ⟨k, rfl⟩ := Int.eq_ofNat_of_zero_le z0
    have pk := List.all_eq_true.mp (List.all_eq_true.mp pads_ok pad hpad) k (List.mem_range.mpr (by omega))
    unfold padOk at pk
    rw [Bool.and_eq_true, Bool.and_eq_true] at pk
    obtain ⟨⟨p1, p2⟩, p3⟩ := pk
    have p3 := of_decide_eq_true p3
    refine ⟨_, rfl, (m : Int), rfl, by omega, by omega, for_range (lo := 0) (n := ((m : Int)).toNat) (fun i σ' H' => ∃ (y6 y7 : Option V) (L : List Str), σ' = [some (.ref b), some (.int (m : Int)), some (.int r), some (.ref D), some (.str pad), some (.int (k : Int)), y6, y7] ∧ Bag l b H' ∧ Grow b H H' ∧ H' D = some (.lst (L.map V.str)) ∧ L.length = i ∧ (∀ x ∈ L, Small x) ∧ NodI m r (cutS pad none (some (k : Int))) (cutS pad (some (k : Int)) none) L i) ?_ ?_ ?_⟩
    · exact ⟨none, none, [], rfl, B5, gH5, eD5, rfl, (fun x hx => nomatch hx), fun _ => ⟨List.nodup_nil, fun x hx => nomatch hx⟩⟩
    · rintro i σ' H' hi ⟨y6, y7, L, rfl, B6, g6, eD6, lL, sL, ndL⟩
      have hi' : i < m := by omega
      have m0 := Int.emod_nonneg (r + 5 * (0 + (i : Int))) (show (26 : Int) ≠ 0 by decide)
      have m1 := Int.emod_lt_of_pos (r + 5 * (0 + (i : Int))) (show (0 : Int) < 26 by decide)
      refine ⟨_, rfl, _, rfl, 5, _, rfl, rfl, .inl ⟨by decide, by decide⟩, _, _, rfl, rfl, _, 26, rfl, rfl, (by show (0 : Int) < 26; decide), ?_⟩
      obtain ⟨j, ej⟩ := Int.eq_ofNat_of_zero_le m0
      have hj : j < (Str.ofString "abcdefghijklmnopqrstuvwxyz").cps.toList.length := by
        have e : (Str.ofString "abcdefghijklmnopqrstuvwxyz").cps.toList.length = (Str.ofString "abcdefghijklmnopqrstuvwxyz").length := Array.length_toList
        rw [e, abc_len]
        omega
      have hc : atI (Str.ofString "abcdefghijklmnopqrstuvwxyz").cps.toList (j : Int) = some ((Str.ofString "abcdefghijklmnopqrstuvwxyz").cps.toList[j]) := atI_nat (List.getElem?_eq_getElem hj)
      have hcm : (Str.ofString "abcdefghijklmnopqrstuvwxyz").cps.toList[j] ∈ (Str.ofString "abcdefghijklmnopqrstuvwxyz").cps.toList := List.getElem_mem hj
      have nd2 := ndL.step (i := i) hi' r0 (by rw [Int.zero_add] at ej; exact ej) hj
      generalize (Str.ofString "abcdefghijklmnopqrstuvwxyz").cps.toList[j] = c at hc hcm nd2
      rw [← ej] at hc
      refine ⟨_, _, _, rfl, rfl, (by decide +kernel), hc, ?_⟩
      have l1 : (cutS pad none (some (k : Int))).length + (⟨#[c]⟩ : Str).length ≤ sizeLine := by
        rw [sizeLine_eq, show (⟨#[c]⟩ : Str).length = 1 from rfl]
        omega
      have sm := small_of (s := pad) p1 p2 p3 hcm
      have l2 : (cutS pad none (some (k : Int)) ++ (⟨#[c]⟩ : Str)).length + (cutS pad (some (k : Int)) none).length ≤ sizeLine := by
        rw [Str.length_append, sizeLine_eq, show (⟨#[c]⟩ : Str).length = 1 from rfl]
        omega
      refine ⟨_, rfl, .inl ⟨rfl, _, SqL.of eD6⟩, _, rfl, _, rfl, (k : Int), rfl, pad, rfl, lps, _, rfl, _, _, rfl, rfl, l1, _, rfl, _, rfl, (k : Int), rfl, pad, rfl, lps, _, _, rfl, rfl, l2, ?_⟩
      refine ⟨D, _, _, rfl, rfl, eD6, ?_, ?_⟩
      · rw [List.length_map]
        exact small1000 (by omega)
      · refine ⟨_, _, L ++ [cutS pad none (some (k : Int)) ++ (⟨#[c]⟩ : Str) ++ cutS pad (some (k : Int)) none], rfl, B6.beside nDb nDl, grow_upd g6 (t1.grow.free nDb nD), ?_, by rw [List.length_append, lL]; rfl, ?_⟩
        · rw [upd_same, List.map_append]
          rfl
        · refine ⟨fun x hx => ?_, nd2⟩
          rcases List.mem_append.mp hx with e | e
          · exact sL x e
          · rw [List.mem_singleton.mp e]
            exact sm
    · rintro σ' H' ⟨y6, y7, L, rfl, B6, g6, eD6, lL, sL, ndL⟩
      exact ⟨_, rfl, q D L H' (by omega) sL (fun h => (ndL h).1) B6 g6 (t1.grow.free nDb nD) eD6⟩
end
end Nv

set_option maxRecDepth 100000
set_option maxHeartbeats 4000000
namespace Nv
open PySem PySem.Spec PyProof.Rows L2 NvSet
variable {K : PySem.W.Frag} [KFx K]
abbrev sInner : Stmt := topS 61
abbrev sLCount : Stmt := topS 62
abbrev sAllP : Stmt := topS 64
abbrev sLLets : Stmt := topS 65
theorem scInner : FnScope ["_law_term"] ["_law_term"] (defScope sInner) := ⟨rfl, rfl, rfl, by decide +kernel, rfl, by decide +kernel, by decide +kernel⟩
theorem scLCount : FnScope ["_law_term", "_law_part_now"] ["_law_term"] (defScope sLCount) := ⟨rfl, rfl, rfl, by decide +kernel, rfl, by decide +kernel, by decide +kernel⟩
theorem scAllP : FnScope ["_law_term", "_law_found", "_law_part_now"] ["_law_term"] (defScope sAllP) := ⟨rfl, rfl, rfl, by decide +kernel, rfl, by decide +kernel, by decide +kernel⟩
theorem scLLets : FnScope ["_law_term", "_law_one"] ["_law_term"] (defScope sLLets) := ⟨rfl, rfl, rfl, by decide +kernel, rfl, by decide +kernel, by decide +kernel⟩
def four : List V := [.str "plus", .str "less", .str "times", .str "undo"]
section
variable {P : Program} {w : World} {mg : Str → Option Value} {base : Heap}
theorem ok_inner {f : Addr} {fd : FuncData} {k : Nat} (F : Fun K "_law_inner" "_law_inner" sInner f fd) : FnOk P w K mg base CX0 (k + 1) f fd ["_law_term"] (spThings K) := by
  refine F.ok scInner (fun vs H Q E h => ?_) (fun cdv A outer s H vs Q E hr h => ?_)
  · obtain ⟨T, rfl, _⟩ := h
    rfl
  · obtain ⟨Z, rfl, hin, q⟩ := h
    refine ⟨_, pss_one (ps_ret (pe_ifExp (pt_cmpR op_in_seq (pe_ix ix_tup (pv 0) pe_int (fun _ _ => rfl)) (pe_tup (pa_cons pe_str (pa_cons pe_str (pa_cons pe_str (pa_cons pe_str pa_nil))))) (by rfl)) (pe_slice sl_tup (pv 0) (po_some pe_int) po_none) (pe_tup pa_nil))), ?_⟩
    have hp := hin.tup
    cases Z with
    | sh p qq t b =>
      refine ⟨_, rfl, p, _, 0, _, rfl, rfl, hp, atI_nat (j := 0) rfl, (by show 4 ≤ sizeLine; decide), fun e ne => ?_⟩
      have sm := same_new (o := .tup four) ne
      refine ⟨e, _, rfl, .inr (SqT.of upd_same), rfl, rfl, _, rfl, iteF ?_⟩
      exact ⟨Nat.zero_le _, fun e2 ne2 => q e2 _ (Same.trans sm (same_new ne2)) (SqT.of upd_same)⟩
    | le p x =>
      refine ⟨_, rfl, p, _, 0, _, rfl, rfl, hp, atI_nat (j := 0) rfl, (by show 4 ≤ sizeLine; decide), fun e ne => ?_⟩
      have sm := same_new (o := .tup four) ne
      refine ⟨e, _, rfl, .inr (SqT.of upd_same), rfl, rfl, _, rfl, iteF ?_⟩
      exact ⟨Nat.zero_le _, fun e2 ne2 => q e2 _ (Same.trans sm (same_new ne2)) (SqT.of upd_same)⟩
    | two p o A B =>
      refine ⟨_, rfl, p, _, 0, _, rfl, rfl, hp, atI_nat (j := 0) rfl, (by show 4 ≤ sizeLine; decide), fun e ne => ?_⟩
      have sm := same_new (o := .tup four) ne
      refine ⟨e, _, rfl, .inr (SqT.of upd_same), rfl, rfl, _, rfl, ?_⟩
      rw [show inV (V.str (AT.two p o A B).word) [V.str (Str.ofString "plus"), V.str (Str.ofString "less"), V.str (Str.ofString "times"), V.str (Str.ofString "undo")] = true by cases o <;> rfl]
      refine iteT ?_
      refine ⟨_, rfl, 1, rfl, p, _, rfl, (Same.tk sm _ _ hp), (fun z => by cases z.1), fun e2 ne2 => q e2 _ (Same.trans sm (same_new ne2)) (SqT.of ?_)⟩
      rw [upd_same]
      rfl
    | un p A =>
      refine ⟨_, rfl, p, _, 0, _, rfl, rfl, hp, atI_nat (j := 0) rfl, (by show 4 ≤ sizeLine; decide), fun e ne => ?_⟩
      have sm := same_new (o := .tup four) ne
      refine ⟨e, _, rfl, .inr (SqT.of upd_same), rfl, rfl, _, rfl, iteT ?_⟩
      refine ⟨_, rfl, 1, rfl, p, _, rfl, (Same.tk sm _ _ hp), (fun z => by cases z.1), fun e2 ne2 => q e2 _ (Same.trans sm (same_new ne2)) (SqT.of ?_)⟩
      rw [upd_same]
      rfl
/-- how many parts -/
def spLCount (n : Nat) : Sp := fun vs H Q _ => ∃ T : AT, vs = [T.v] ∧ T.In H ∧ T.count ≤ n ∧ n ≤ 200 ∧ ∀ H', Same H H' → Q (.int (T.count : Int)) H'
theorem ok_lcount {f : Addr} {fd : FuncData} (F : Fun K "_law_count" "_law_count" sLCount f fd) (gf : mg "_law_count" = some (.ref f)) (bf : Binds K fd ["_law_term"] []) (sum : mg "sum" = none) (GT : C8.Cal P w K mg base 1 "_law_inner" (spThings K) []) :
    ∀ n : Nat, FnOk P w K mg base CX0 (n + 2) f fd ["_law_term"] (spLCount n) := by
  intro n
  induction n with
  | zero => exact ⟨fun vs H Q E h => by obtain ⟨T, rfl, _⟩ := h; rfl, fun A outer s H args us vs Q E _ _ _ _ h => by
      obtain ⟨T, _, _, c, _⟩ := h
      have := T.count_pos
      omega⟩
  | succ n ih =>
    refine F.ok scLCount (fun vs H Q E h => ?_) (fun cdv A outer s H vs Q E hr h => ?_)
    · obtain ⟨T, rfl, _⟩ := h
      rfl
    · obtain ⟨Z, rfl, hin, hc, hn, q⟩ := h
      refine ⟨_, pss_one (ps_ret (pe_op op_add pe_int (pe_callB (cr_sum rfl) (by rfl) sum (by decide +kernel) (pa_cons (pe_lc (own := [("_law_part_now", 1)]) (g := gName 1) (tt := tYes) rfl scLCount.nd (pi_tup (C8.pe_c GT hr (by omega) (by rfl) (pa_cons (pv 0) pa_nil))) (blkOk_by (N := ["_law_term", "_law_part_now"]) (sc := defScope sLCount) (by decide +kernel))
        (fun _ _ _ _ _ => pg_name (i := 1) scLCount.nd rfl (Or.inl rfl)) (fun _ _ _ _ _ => pts_nil) (fun _ _ _ _ _ => pe_call ih hr (by rfl) gf F.kp bf .nil pass0 (pa_cons (pv 1) pa_nil))) pa_nil)))), ?_⟩
      refine ⟨_, rfl, Z, rfl, hin, fun p H1 s1 hp => ⟨p, rfl, ⟨_, hp⟩, fun D nD => ?_⟩⟩
      refine lc_tup (K := K) (a := p) (xs := Z.kids.map AT.v) (fun i H' => Same H1 H' ∧ H' D = some (.lst (((Z.kids.take i).map fun B => (B.count : Int)).map V.int))) ⟨same_new nD, upd_same⟩ (fun i H' _ h => seqT h.1 hp) (fun i x H' hx h => ?_) (fun H' h => ?_)
      · obtain ⟨sm, eD⟩ := h
        rw [List.getElem?_map] at hx
        obtain ⟨B, hB, rfl⟩ := Option.map_eq_some_iff.mp hx
        have mB : B ∈ Z.kids := List.mem_of_getElem? hB
        have cB := Z.kid_count mB
        refine ⟨rfl, yes_if ?_⟩
        refine ⟨_, rfl, B, rfl, (hin.kid B mB).keep (Same.tk (Same.trans s1 sm)), by omega, by omega, fun H2 s2 => ?_⟩
        refine ⟨_, s2 _ _ eD, ?_, same_upd (Same.trans sm s2) nD, ?_⟩
        · rw [List.length_map, List.length_map, List.length_take]
          have := Z.kids_len
          exact small1000 (by omega)
        · rw [upd_same, List.take_add_one, hB, List.map_append, List.map_append]
          rfl
      · obtain ⟨sm, eD⟩ := h
        rw [List.length_map, List.take_length] at eD
        refine ⟨D, _, rfl, SqL.of eD, 1, _, rfl, rfl, ?_⟩
        have e : (1 : Int) + (Z.kids.map fun B => (B.count : Int)).sum = (Z.count : Int) := by
          rw [Z.count_eq]
          have : ∀ l : List AT, (l.map fun B => (B.count : Int)).sum = (((l.map AT.count).sum : Nat) : Int) := fun l => by
            induction l with
            | nil => rfl
            | cons x r ih => simp only [List.map_cons, List.sum_cons, ih]; omega
          rw [this]
          omega
        show Q (.int (1 + (Z.kids.map fun B => (B.count : Int)).sum)) H'
        rw [e]
        exact q _ (Same.trans s1 sm)
theorem ok_allP {f : Addr} {fd : FuncData} (F : Fun K "_law_all_parts" "_law_all_parts" sAllP f fd) (gf : mg "_law_all_parts" = some (.ref f)) (bf : Binds K fd ["_law_term"] []) (GT : C8.Cal P w K mg base 1 "_law_inner" (spThings K) []) :
    ∀ n : Nat, FnOk P w K mg base CX0 (n + 2) f fd ["_law_term"] (spParts n) := by
  intro n
  induction n with
  | zero => exact ⟨fun vs H Q E h => by obtain ⟨T, rfl, _⟩ := h; rfl, fun A outer s H args us vs Q E _ _ _ _ h => by
      obtain ⟨T, _, _, c, _⟩ := h
      have := T.count_pos
      omega⟩
  | succ n ih =>
    refine F.ok scAllP (fun vs H Q E h => ?_) (fun cdv A outer s H vs Q E hr h => ?_)
    · obtain ⟨T, rfl, _⟩ := h
      rfl
    · obtain ⟨Z, rfl, hin, hc, hn, q⟩ := h
      refine ⟨_, pss_cons (ps_set (i := 1) scAllP.nd rfl (.inl rfl) (pe_lst (pa_cons (pv 0) pa_nil)))
        (pss_cons (ps_for PassesOwn.never rfl (pi_tup (C8.pe_c GT hr (by omega) (by rfl) (pa_cons (pv 0) pa_nil))) (pg_name (i := 2) scAllP.nd rfl (.inl rfl))
          (pss_one (ps_set (i := 1) scAllP.nd rfl (.inl rfl) (pe_op op_cat (pv 1) (pe_call ih hr (by rfl) gf F.kp bf .nil pass0 (pa_cons (pv 2) pa_nil))))))
        (pss_one (ps_ret (pv 1)))), ?_⟩
      refine ⟨_, rfl, (by show 1 ≤ sizeLine; decide), fun D nD => ?_⟩
      have s1 := same_new (o := .lst [Z.v]) nD
      refine ⟨_, rfl, Z, rfl, hin.keep (Same.tk s1), fun p H2 s2 hp => ?_⟩
      refine ⟨p, rfl, ⟨_, hp⟩, for_tup (K := K) (a := p) (xs := Z.kids.map AT.v) (fun i σ' H' => ∃ y2 D, σ' = [some Z.v, some (.ref D), y2] ∧ H D = none ∧ Same H H' ∧ H' D = some (.lst ((Z :: kidParts Z i).map AT.v)) ∧ SqT K H' p (Z.kids.map AT.v)) ?_ ?_ ?_ ?_⟩
      · exact ⟨none, D, rfl, nD, Same.trans s1 s2, s2 _ _ upd_same, hp⟩
      · rintro i σ' H' _ ⟨_, _, _, _, _, _, h⟩
        exact h
      · rintro i x σ' H' hx ⟨y2, D, rfl, nD, sm, eD, hp'⟩
        rw [List.getElem?_map] at hx
        obtain ⟨B, hB, rfl⟩ := Option.map_eq_some_iff.mp hx
        have mB : B ∈ Z.kids := List.mem_of_getElem? hB
        have cB := Z.kid_count mB
        refine ⟨_, rfl, _, rfl, B, rfl, (hin.kid B mB).keep (Same.tk sm), by omega, by omega, fun r H3 s3 nr er => ?_⟩
        have eD3 := s3 _ _ eD
        have l1 := kidParts_len Z i
        refine ⟨D, r, _, _, rfl, rfl, eD3, er, ?_, fun D2 nD2 => ?_⟩
        · rw [List.length_map, List.length_map, List.length_cons, B.parts_len, sizeLine_eq]
          omega
        · have s4 := Same.trans sm s3
          have s5 := same_new (o := .lst ((Z :: kidParts Z i).map AT.v ++ B.parts.map AT.v)) nD2
          refine ⟨_, D2, rfl, s4.free nD2, Same.trans s4 s5, ?_, seqT s5 (seqT s3 hp')⟩
          rw [upd_same, kidParts_succ hB, ← List.map_append]
          rfl
      · rintro σ' H' ⟨y2, D, rfl, nD, sm, eD, hp'⟩
        rw [List.length_map, kidParts_all] at eD
        exact ⟨_, rfl, q D _ sm nD eD⟩
end
end Nv

set_option maxRecDepth 100000
set_option maxHeartbeats 4000000
namespace Nv
open PySem PySem.Spec PyProof.Rows L2 NvSet
variable {K : PySem.W.Frag} [KFx K]
section
variable {P : Program} {w : World} {mg : Str → Option Value} {base : Heap}
theorem ok_llets {f : Addr} {fd : FuncData} {n : Nat} (F : Fun K "_law_letters" "_law_letters" sLLets f fd) (srt : mg "sorted" = none) (st : mg "set" = none) (GP : C8.Cal P w K mg base (n + 2) "_law_all_parts" (spParts n) []) :
    FnOk P w K mg base CX0 (n + 3) f fd ["_law_term"] (spLets n) := by
  refine F.ok scLLets (fun vs H Q E h => ?_) (fun cdv A outer s H vs Q E hr h => ?_)
  · obtain ⟨T, rfl, _⟩ := h
    rfl
  · obtain ⟨Z, rfl, hin, hc, hn, q⟩ := h
    refine ⟨_, pss_one (ps_ret (pe_callB (cr_sortedTx rfl) (by rfl) srt (by decide +kernel) (pa_cons (pe_callTy (cr_setTx rfl) (by rfl) st (by decide +kernel) (pa_cons (pe_lc (own := [("_law_one", 1)]) (g := gName 1) rfl scLLets.nd (pi_list (C8.pe_c GP hr (by omega) (by rfl) (pa_cons (pv 0) pa_nil))) (blkOk_by (N := ["_law_term", "_law_one"]) (sc := defScope sLLets) (by decide +kernel))
      (fun _ _ _ _ _ => pg_name (i := 1) scLLets.nd rfl (Or.inl rfl)) (fun _ _ _ _ _ => pts_one (pt_cmpR op_eq (pe_ix (r := rIxT K) ix_tup (pv 1) pe_int (fun _ _ => rfl)) pe_str (nomark _))) (fun _ _ _ _ _ => pe_ix (r := rIxT K) ix_tup (pv 1) pe_int (fun _ _ => rfl))) pa_nil)) pa_nil))), ?_⟩
    refine ⟨_, rfl, Z, rfl, hin, hc, by omega, fun p H1 s1 np ep => ?_⟩
    refine ⟨p, rfl, ⟨_, SqL.of ep⟩, fun D nD => ?_⟩
    refine lc_list (K := K) (a := p) (xs := Z.parts.map AT.v) (fun i H' => Same H1 H' ∧ H' D = some (.lst (((Z.parts.take i).filterMap letOf).map V.str))) ⟨same_new nD, upd_same⟩ (fun i H' _ h => SqL.of (h.1 _ _ ep)) (fun i x H' hx h => ?_) (fun H' h => ?_)
    · obtain ⟨sm, eD⟩ := h
      have hi : i < Z.parts.length := by
        have := (List.getElem?_eq_some_iff.mp hx).1
        rwa [List.length_map] at this
      rw [Z.parts_len] at hi
      rw [List.getElem?_map] at hx
      obtain ⟨B, hB, rfl⟩ := Option.map_eq_some_iff.mp hx
      have inB : B.In H' := (hin.parts B (List.mem_of_getElem? hB)).keep (Same.tk (Same.trans s1 sm))
      have eB := inB.tup
      refine ⟨rfl, ?_⟩
      refine ⟨_, rfl, B.at_, _, 0, _, rfl, rfl, eB, atI_nat (j := 0) rfl, rfl, _, rfl, ?_⟩
      rcases word_letter B with ⟨b, x, rfl⟩ | ne
      · refine ifP rfl ?_
        refine ⟨_, rfl, b, _, 1, _, rfl, rfl, eB, atI_nat (j := 1) rfl, _, eD, ?_, same_upd sm nD, ?_⟩
        · rw [List.length_map]
          have l1 := List.length_filterMap_le letOf (Z.parts.take i)
          rw [List.length_take] at l1
          exact small1000 (by omega)
        · rw [upd_same, List.take_add_one, hB, List.filterMap_append, List.map_append]
          rfl
      · refine ifN ne ?_
        refine ⟨sm, ?_⟩
        have e0 : letOf B = none := by
          cases B with
          | le _ _ => exact absurd rfl ne
          | sh _ _ _ _ => rfl
          | two _ _ _ _ => rfl
          | un _ _ => rfl
        rw [eD, List.take_add_one, hB, List.filterMap_append]
        show _ = some (HO.lst ((_ ++ List.filterMap letOf [B]).map V.str))
        rw [List.filterMap_cons_none e0]
        simp
    · obtain ⟨sm, eD⟩ := h
      rw [List.length_map, List.take_length] at eD
      have el : Z.parts.filterMap letOf = Z.lets := by rw [Z.lets_parts]; try rfl
      rw [el] at eD
      have ll : Z.lets.length ≤ Z.count := by
        rw [← el, ← Z.parts_len]
        exact List.length_filterMap_le _ _
      refine ⟨D, Z.lets, rfl, SqL.of eD, by omega, fun a us na nd hu => ?_⟩
      have s2 := Same.trans (Same.trans s1 sm) (same_new (o := TxO w a us) na)
      have lu : us.length ≤ Z.lets.length := nodup_le nd fun x hx => (hu x).1 hx
      exact ⟨a, us, rfl, upd_same, by omega, fun ys r pm nd so nr => q r ys _ (Same.trans s2 (same_new nr)) (s2.free nr) ⟨so, pm.nodup_iff.mpr nd, fun y => by rw [pm.mem_iff, hu y]⟩ upd_same⟩
end
end Nv

set_option maxRecDepth 100000
set_option maxHeartbeats 4000000
namespace Nv
open PySem PySem.Spec PyProof.Rows L2 NvSet LamX
variable {K : PySem.W.Frag} [KFx K]
abbrev sBTm : Stmt := inClass (topS 3) 0
abbrev sTold : Stmt := topS 44
abbrev sAsked : Stmt := topS 54
theorem scBTm : FnScope ["self", "flaw"] ["self", "flaw"] (defScope sBTm) := ⟨rfl, rfl, rfl, by decide +kernel, rfl, by decide +kernel, by decide +kernel⟩
theorem scTold : FnScope ["term"] ["term"] (defScope sTold) := ⟨rfl, rfl, rfl, by decide +kernel, rfl, by decide +kernel, by decide +kernel⟩
theorem scAsked : FnScope ["_law_ask", "e"] ["_law_ask"] (defScope sAsked) := ⟨rfl, rfl, rfl, by decide +kernel, rfl, by decide +kernel, by decide +kernel⟩
/-- the fields of BadTerm -/
def flawOf (x : Str) : List (Str × V) := (Str.ofString "flaw", .str x) :: wordOf "BadTerm"
def spBTm (C : Addr) : Sp := fun vs H Q _ => ∃ (a : Addr) (x : Str), vs = [.ref a, .str x] ∧ x.length ≤ 100 ∧ H a = some (exo a C none) ∧ ∀ dx H', H dx = none → dx ≠ a → (∀ z, z ≠ a → z ≠ dx → H' z = H z) → H' a = some (exo a C (some dx)) → H' dx = some (exd dx (flawOf x)) → Q .non H'
/-- what is known of the classes: NeverError at CN (its __init__ at fN), BadTerm at C (its __init__ at fI) -/
structure Errs (K : PySem.W.Frag) (mg : Str → Option Value) (CN C fN fI : Addr) : Prop where
  oex : OexC K C
  xf : XfC K C
  word : PySem.W.findIn K (.ref C) "word" = some none
  flaw : PySem.W.findIn K (.ref C) "flaw" = some none
  gC : mg "BadTerm" = some (.ref C)
  gN : mg "NeverError" = some (.ref CN)
  iC : PySem.W.findIn K (.ref C) "__init__" = some (some (.ref fI))
  tI : PySem.W.typeIn K (.ref fI) = some (.type "function")
  rd : ClX.CRead K CN (.type "type")
  cv : ClX.CVal K CN (.type "type") "__init__" (.ref fN) (.ref fN)
  kp : PySem.W.keepIn K (.ref fN) = true
  hit : PySem.W.exmOne K (.ref C) (.ref C) = some true
section
variable {P : Program} {w : World} {mg : Str → Option Value} {base : Heap} {CN C fN fI : Addr}
theorem ok_BTm {f : Addr} {fd fdN : FuncData} (F : Fun K "__init__" "BadTerm.__init__" sBTm f fd) (R : Errs K mg CN C fN fI) (GN : FnOk P w K mg base CX0 1 fN fdN ["self", "word", "message"] (spNE K)) (bN : Binds K fdN ["self", "word", "message"] []) :
    FnOk P w K mg base CX0 2 f fd ["self", "flaw"] (spBTm C) := by
  refine F.ok scBTm (fun vs H Q E h => ?_) (fun cdv A outer s H vs Q E hr h => ?_)
  · obtain ⟨a, x, rfl, _⟩ := h
    rfl
  · obtain ⟨a, x, rfl, lx, ha, q⟩ := h
    refine ⟨_, pss_cons (ps_expr (pe_clsdef (pe_glob (v := .ref CN) (by rfl) R.gN rfl) R.rd R.cv R.kp GN hr bN .nil pass0 (pa_cons (pv 0) (pa_cons pe_str (pa_cons (pe_joined (.cons pe_str (.cons (pe_fmt (pv 1)) .nil))) pa_nil)))))
      (pss_one (ps_ost (pv 0) (pv 1))), ?_⟩
    refine ⟨rfl, _, rfl, _, rfl, (by decide +kernel), _, rfl, .inl ⟨x, rfl, by rw [sizeLine_eq]; omega, _, rfl, ?_, ?_⟩⟩
    · rw [Str.length_append, show (Str.empty ++ Str.ofString "this is no reckoning: ").length = 22 by decide +kernel, sizeLine_eq]
      omega
    · refine ⟨a, C, _, _, rfl, R.oex, R.word, ha, fun dx nx ne => ?_⟩
      refine ⟨_, rfl, _, rfl, a, C, rfl, R.oex, R.flaw, .inr ⟨dx, wordOf "BadTerm", upd_same, ?_, (by show 1 ≤ 900; decide), ?_⟩⟩
      · rw [upd_ne ne, upd_same]
      · refine q dx _ nx ne (fun z h1 h2 => ?_) ?_ upd_same
        · rw [upd_ne h2, upd_ne h1, upd_ne h2]
        · rw [upd_ne (Ne.symm ne), upd_same]
/-- BadTerm is raised -/
def raisesT (C : Addr) (H : Hp) (E : XK) (x : Str) : Prop := ∀ d H', Same H H' → H d = none → H' d = some (.xd (flawOf x)) → E (.ref C) (some d) H'
theorem raisesT.same {H H1 : Hp} {E : XK} {x : Str} (s : Same H H1) (q : raisesT C H E x) : raisesT C H1 E x := fun d H' s' n e => q d H' (s.trans s') (s.free n) e
theorem raise_T {H : Hp} {E : XK} {x : Str} (lx : x.length ≤ 100) (q : raisesT C H E x) : [V.str x].length ≤ 1000 ∧ ∀ a, H a = none → spBTm C (.ref a :: ([.str x] ++ [])) (upd H a (exo a C none))
    (fun v H2 => v = .non ∧ ∃ (d : Addr) (fs : List (Str × V)), H2 a = some (exo a C (some d)) ∧ H2 d = some (exd d fs) ∧ H d = none ∧ E (.ref C) (some d) (upd (del H2 a) d (.xd fs))) (fun _ _ _ => False) := by
  refine ⟨(by show 1 ≤ 1000; decide), fun a na => ⟨a, x, rfl, lx, upd_same, fun dx H' nx ne keep h1 h2 => ?_⟩⟩
  have hd : H dx = none := by
    rw [upd_ne ne] at nx
    exact nx
  refine ⟨rfl, dx, flawOf x, h1, h2, hd, q dx _ (fun z o hz => ?_) hd upd_same⟩
  have n1 : z ≠ a := ne_of_none hz na
  have n2 : z ≠ dx := ne_of_none hz hd
  rw [upd_ne n2, del_ne n1, keep z n1 n2, upd_ne n1]
  exact hz
theorem flaw_len : ∀ {T : TH} {x : Str}, T.flaw = some x → x.length ≤ 100
  | .ok A, x, h => by
    have h : A.flaw = some x := h
    unfold AT.flaw at h
    split at h
    · cases h
      decide +kernel
    · split at h
      · cases h
        decide +kernel
      · cases h
  | .bad _ _, x, h => by
    cases h
    decide +kernel
/-- need_term -/
def spNeedX (C : Addr) : Sp := fun vs H Q E => ∃ (T : TH) (L : List Str), vs = [T.v] ∧ T.In H ∧ T.Fine L ∧ (T.flaw = none → ∀ H', Same H H' → Q .non H') ∧ ∀ x, T.flaw = some x → raisesT C H E x
theorem ok_needX {f : Addr} {fd fdI : FuncData} (F : Fun K "need_term" "need_term" sNeedT f fd) (R : Errs K mg CN C fN fI) (GI : FnOk P w K mg base CX0 2 fI fdI ["self", "flaw"] (spBTm C)) (bI : Binds K fdI ["self", "flaw"] []) (GF : C8.Cal P w K mg base 4 "flaw_of" spFlaw []) :
    FnOk P w K mg base (L2.CX P w) 5 f fd ["term"] (spNeedX C) := by
  refine F.okX scNeedT (fun vs H Q E h => ?_) (fun cdv A outer s H vs Q E hr h => ?_)
  · obtain ⟨T, L, rfl, _⟩ := h
    rfl
  · obtain ⟨T, L, rfl, hin, gd, q1, q2⟩ := h
    refine ⟨_, pss_cons (ps_set (i := 1) scNeedT.nd rfl (.inl rfl) (C8.pe_c GF hr (by decide) (by rfl) (pa_cons (pv 0) pa_nil)))
      (pss_one (ps_if (pt_cmpR op_notN (pv 1) pe_non (nomark _)) (pss_one (ps_raise rfl (takes_of rfl rfl rfl rfl) (pmk_oex R.oex R.iC R.tI GI (hr.mono (by decide)) bI .nil pass0 (by rfl) R.gC (pa_cons (pv 1) pa_nil)))) pss_nil)), ?_⟩
    refine ⟨_, rfl, T, L, rfl, hin, gd, fun H1 s1 => ?_⟩
    cases hf : T.flaw with
    | none => exact ⟨_, rfl, rfl, _, rfl, iteF (q1 hf _ s1)⟩
    | some x => exact ⟨_, rfl, rfl, _, rfl, iteT ⟨_, rfl, raise_T (flaw_len hf) ((q2 x hf).same s1)⟩⟩
end
/-- a def that may raise, called by its name -/
structure CalX (P : Program) (w : World) (K : PySem.W.Frag) (mg : Str → Option Value) (base : Heap) (k : Nat) (x : Str) (sp : Sp) (dvs : List V) : Prop where
  ex : ∃ (f : Addr) (fd : FuncData) (ps : List Str) (ds : List Value), FnOk P w K mg base (L2.CX P w) k f fd ps sp ∧ mg x = some (.ref f) ∧ PySem.W.keepIn K (.ref f) = true ∧ Binds K fd ps ds ∧ Vals dvs ds
section
variable {X : Cx} {k j : Nat} {x : Str} {sp : Sp} {dvs : List V} {e : Expr} {es : List Expr} {p pos : Pos} {t : TA} {E : XK}
theorem pe_cxE (c : CalX X.prog X.w X.K X.mg X.base k x sp dvs) (hr : Room j X.A) (hk : k ≤ j) (hx : Passes (L2.CX X.prog X.w) X E) (hg : Gl X x) (ha : PA X (e :: es) t)
    (hdb : (x == ("__debug__" : Str)) = false := by decide) (he : starEach (e :: es) X.env = (false, eval e X.env) :: starEach es X.env := by rfl) (hpl : (backTo pos (starEach es X.env)).any (·.1) = false := by rfl) :
    PE X (.Call (.Name x p) (e :: es) [] pos) (tCall sp dvs E t) := by
  obtain ⟨f, fd, ps, ds, F, hm, kp, b, d⟩ := c.ex
  exact pe_call F (hr.mono hk) hg hm kp b d hx ha hdb he hpl
theorem pe_cx (c : CalX X.prog X.w X.K X.mg X.base k x sp dvs) (hr : Room j X.A) (hk : k ≤ j) (hg : Gl X x) (ha : PA X (e :: es) t)
    (hdb : (x == ("__debug__" : Str)) = false := by decide) (he : starEach (e :: es) X.env = (false, eval e X.env) :: starEach es X.env := by rfl) (hpl : (backTo pos (starEach es X.env)).any (·.1) = false := by rfl) :
    PE X (.Call (.Name x p) (e :: es) [] pos) (tCall sp dvs L2.E0 t) := pe_cxE c hr hk passL hg ha hdb he hpl
end
section
variable {P : Program} {w : World} {mg : Str → Option Value} {base : Heap} {CN C fN fI : Addr}
/-- told_of -/
def spTold (C : Addr) : Sp := fun vs H Q E => ∃ (T : TH) (L : List Str), vs = [T.v] ∧ T.In H ∧ T.Fine L ∧ (T.flaw = none → ∀ H', Same H H' → Q T.v H') ∧ ∀ x, T.flaw = some x → raisesT C H E x
theorem ok_told {f : Addr} {fd : FuncData} (F : Fun K "told_of" "told_of" sTold f fd) (GN : CalX P w K mg base 5 "need_term" (spNeedX C) []) : FnOk P w K mg base (L2.CX P w) 6 f fd ["term"] (spTold C) := by
  refine F.okX scTold (fun vs H Q E h => ?_) (fun cdv A outer s H vs Q E hr h => ?_)
  · obtain ⟨T, L, rfl, _⟩ := h
    rfl
  · obtain ⟨T, L, rfl, hin, gd, q1, q2⟩ := h
    refine ⟨_, pss_cons (ps_expr (pe_cxE GN hr (by decide) (passes_call (takes_of rfl rfl rfl rfl) (fun _ _ _ _ z => z)) (by rfl) (pa_cons (pv 0) pa_nil))) (pss_one (ps_ret (pv 0))), ?_⟩
    exact ⟨_, rfl, T, L, rfl, hin, gd, fun h H1 s1 => ⟨_, rfl, q1 h _ s1⟩, q2⟩
end
/-! _law_asked -/
def eAsked (C : Addr) (Q : VK) : XK := fun cls d H' => cls = .ref C ∧ ∃ (dd : Addr) (x : Str), d = some dd ∧ H' dd = some (.xd (flawOf x)) ∧ ∀ p, H' p = none → Q (.ref p) (upd H' p (.tup [.str "no", .str "BadTerm", .str x]))
def TAsked (C : Addr) : (XK → Hp → VK → Prop) → Hp → VK → Prop := fun tl H Q => tl (eAsked C Q) H fun v H' => [V.str "told", v].length ≤ sizeLine ∧ ∀ p, H' p = none → Q (.ref p) (upd H' p (.tup [.str "told", v]))
section
variable {X : Cx} {CN C fN fI : Addr}
theorem asked_gives {g : Addr} {cdg : Value} {q : Str} (R : Errs X.K X.mg CN C fN fI) :
    GivesTo X ["_law_ask", "e"] "_law_asked" (defScope sAsked) g cdg (defBody sAsked) "_law_ask" q (TAsked C) := by
  intro f c' s H Q tl act hc h
  refine ⟨_, pss_one (ps_try_named (X := (cxOf C8.CX0 X.prog X.w X.K X.mg X.base ["_law_ask", "e"] "_law_asked" (defScope sAsked) g cdg X.A X.stack s H C8.E0).nox)
      (cl := [([.ref C], 1, fun a cls d => tRet (tTup (tCons (tC (.str "no")) (tCons (tXf a cls d C "word" (tVar 1)) (tCons (tXf a cls d C "flaw" (tVar 1)) tNil)))))])
      (tb := fun W D σ H => ∃ Ech : XK, (∀ cls d σ' H', Ech cls d H' → σ'.length = 2 → W cls d σ' H') ∧ σ = [some (.ref f), none] ∧ H c' = some (CodeO c' q) ∧ tl Ech H fun v H' => [V.str "told", v].length ≤ sizeLine ∧ ∀ p, H' p = none → D.rt (.ref p) (upd H' p (.tup [.str "told", v])))
      rfl rfl scAsked.nd (fun W pn xe tk _ => ?_)
      (.one rfl rfl ⟨by rfl, by decide, .inl R.gC⟩ (fun a oe cls d pn hz hf => pss_one (ps_ret (pe_tup (pa_cons pe_str (pa_cons (pe_xf R.xf R.word hz hf (pv 1)) (pa_cons (pe_xf R.xf R.flaw hz hf (pv 1)) pa_nil)))))) .stop)), ?_⟩
  · refine ⟨fun pins s' σ H' D I h' => ?_⟩
    obtain ⟨Ech, hW, h1, h2, h3⟩ := h'
    have tk' : Takes ((cxOf C8.CX0 X.prog X.w X.K X.mg X.base ["_law_ask", "e"] "_law_asked" (defScope sAsked) g cdg X.A X.stack s H C8.E0).tr pn xe) (fun cls d σ H => σ.length = 2 → W cls d σ H) := fun u s2 z => by
      obtain ⟨a, B, sI, pins2, σ2, H2, cls, d, e, J, nb, up, sky, na, os, ag, w⟩ := z
      exact tk u s2 ⟨a, B, sI, pins2, σ2, H2, cls, d, e, J, nb, up, sky, na, os, ag, w J.len⟩
    have hp := fun p1 p2 => act _ pn xe Ech p1 p2 tk' hW
    refine (pss_one (ps_ret (pe_tup (pa_cons pe_str (pa_cons (hp _ _) pa_nil))))).run pins s' σ H' D I ?_
    subst h1
    exact ⟨rfl, h2, h3⟩
  · refine ⟨eAsked C Q, fun cls d σ' H' hE hl => ?_, rfl, hc, h⟩
    obtain ⟨rfl, dd, x, rfl, hd, hq⟩ := hE
    refine ⟨true, R.hit, fun _ a na => ?_, (fun z => nomatch z)⟩
    have hs : (σ'.set 1 (some (V.ref a)))[1]? = some (some (V.ref a)) := by
      rw [List.getElem?_set_self (by omega)]
    exact ⟨_, hs, rfl, rfl, dd, flawOf x, .str "BadTerm", rfl, hd, rfl, _, hs, rfl, rfl, dd, flawOf x, .str x, rfl, hd, rfl, (by show 3 ≤ sizeLine; decide), fun p hp => hq p hp⟩
end
end Nv

set_option maxRecDepth 100000
set_option maxHeartbeats 4000000
namespace Nv
open PySem PySem.Spec PyProof.Rows L2 NvSet
variable {K : PySem.W.Frag} [KFx K]
abbrev sLDepth : Stmt := topS 63
abbrev sFault : Stmt := topS 66
theorem scLDepth : FnScope ["_law_term", "_law_part_now"] ["_law_term"] (defScope sLDepth) := ⟨rfl, rfl, rfl, by decide +kernel, rfl, by decide +kernel, by decide +kernel⟩
theorem scFault : FnScope ["_law_term"] ["_law_term"] (defScope sFault) := ⟨rfl, rfl, rfl, by decide +kernel, rfl, by decide +kernel, by decide +kernel⟩
theorem deep_max : ∀ (T : AT) (m : Int), m ∈ ((0 : Int) :: T.kids.map fun B => (B.deep : Int)) → (∀ y, y ∈ ((0 : Int) :: T.kids.map fun B => (B.deep : Int)) → y ≤ m) → m + (T.step : Int) = (T.deep : Int)
  | .sh _ _ _ _, m, h, _ => by
    rw [List.mem_singleton.mp h]
    rfl
  | .le _ _, m, h, _ => by
    rw [List.mem_singleton.mp h]
    rfl
  | .two _ _ A B, m, h, u => by
    have h1 := u 0 List.mem_cons_self
    have h2 := u (A.deep : Int) (List.mem_cons_of_mem _ List.mem_cons_self)
    have h3 := u (B.deep : Int) (List.mem_cons_of_mem _ (List.mem_cons_of_mem _ List.mem_cons_self))
    show m + ((0 : Nat) : Int) = ((max A.deep B.deep : Nat) : Int)
    rcases List.mem_cons.mp h with e | h
    · omega
    · rcases List.mem_cons.mp h with e | h
      · have e : m = (A.deep : Int) := e
        omega
      · have e : m = (B.deep : Int) := List.mem_singleton.mp h
        omega
  | .un _ A, m, h, u => by
    have h1 := u 0 List.mem_cons_self
    have h2 := u (A.deep : Int) (List.mem_cons_of_mem _ List.mem_cons_self)
    show m + ((1 : Nat) : Int) = ((A.deep + 1 : Nat) : Int)
    rcases List.mem_cons.mp h with e | h
    · omega
    · have e : m = (A.deep : Int) := List.mem_singleton.mp h
      omega
section
variable {P : Program} {w : World} {mg : Str → Option Value} {base : Heap}
/-- how deep -/
def spLDepth (n : Nat) : Sp := fun vs H Q _ => ∃ T : AT, vs = [T.v] ∧ T.In H ∧ T.count ≤ n ∧ n ≤ 200 ∧ ∀ H', Same H H' → Q (.int (T.deep : Int)) H'
theorem ok_ldepth {f : Addr} {fd : FuncData} (F : Fun K "_law_depth" "_law_depth" sLDepth f fd) (gf : mg "_law_depth" = some (.ref f)) (bf : Binds K fd ["_law_term"] []) (mx : mg "max" = none) (int : mg "int" = none) (GT : C8.Cal P w K mg base 1 "_law_inner" (spThings K) []) :
    ∀ n : Nat, FnOk P w K mg base CX0 (n + 2) f fd ["_law_term"] (spLDepth n) := by
  intro n
  induction n with
  | zero => exact ⟨fun vs H Q E h => by obtain ⟨T, rfl, _⟩ := h; rfl, fun A outer s H args us vs Q E _ _ _ _ h => by
      obtain ⟨T, _, _, c, _⟩ := h
      have := T.count_pos
      omega⟩
  | succ n ih =>
    refine F.ok scLDepth (fun vs H Q E h => ?_) (fun cdv A outer s H vs Q E hr h => ?_)
    · obtain ⟨T, rfl, _⟩ := h
      rfl
    · obtain ⟨Z, rfl, hin, hc, hn, q⟩ := h
      refine ⟨_, pss_one (ps_ret (pe_op op_add (pe_callB (cr_max rfl) (by rfl) mx (by decide +kernel) (pa_cons (pe_op op_cat (pe_lst (pa_cons pe_int pa_nil)) (pe_lc (own := [("_law_part_now", 1)]) (g := gName 1) (tt := tYes) rfl scLDepth.nd (pi_tup (C8.pe_c GT hr (by omega) (by rfl) (pa_cons (pv 0) pa_nil))) (blkOk_by (N := ["_law_term", "_law_part_now"]) (sc := defScope sLDepth) (by decide +kernel))
        (fun _ _ _ _ _ => pg_name (i := 1) scLDepth.nd rfl (Or.inl rfl)) (fun _ _ _ _ _ => pts_nil) (fun _ _ _ _ _ => pe_call ih hr (by rfl) gf F.kp bf .nil pass0 (pa_cons (pv 1) pa_nil)))) pa_nil))
        (pe_callTy call_int1 (by rfl) int (by decide +kernel) (pa_cons (pe_cmpR op_eq (pe_ix ix_tup (pv 0) pe_int (fun _ _ => rfl)) pe_str (nomark _)) pa_nil)))), ?_⟩
      refine ⟨(by show 1 ≤ sizeLine; decide), fun O nO => ?_⟩
      have s0 := same_new (o := .lst [.int 0]) nO
      have eO : upd H O (.lst [.int 0]) O = some (.lst [.int 0]) := upd_same
      generalize upd H O (.lst [.int 0]) = H0 at *
      refine ⟨_, rfl, Z, rfl, hin.keep (Same.tk s0), fun p H1 s1 hp => ⟨p, rfl, ⟨_, hp⟩, fun D nD => ?_⟩⟩
      refine lc_tup (K := K) (a := p) (xs := Z.kids.map AT.v) (fun i H' => Same H1 H' ∧ H' D = some (.lst (((Z.kids.take i).map fun B => (B.deep : Int)).map V.int))) ⟨same_new nD, upd_same⟩ (fun i H' _ h => seqT h.1 hp) (fun i x H' hx h => ?_) (fun H' h => ?_)
      · obtain ⟨sm, eD⟩ := h
        rw [List.getElem?_map] at hx
        obtain ⟨B, hB, rfl⟩ := Option.map_eq_some_iff.mp hx
        have mB : B ∈ Z.kids := List.mem_of_getElem? hB
        have cB := Z.kid_count mB
        refine ⟨rfl, yes_if ?_⟩
        refine ⟨_, rfl, B, rfl, (hin.kid B mB).keep (Same.tk (Same.trans s0 (Same.trans s1 sm))), by omega, by omega, fun H2 s2 => ?_⟩
        refine ⟨_, s2 _ _ eD, ?_, same_upd (Same.trans sm s2) nD, ?_⟩
        · rw [List.length_map, List.length_map, List.length_take]
          have := Z.kids_len
          exact small1000 (by omega)
        · rw [upd_same, List.take_add_one, hB, List.map_append, List.map_append]
          rfl
      · obtain ⟨sm, eD⟩ := h
        rw [List.length_map, List.take_length] at eD
        have s01 := Same.trans s0 (Same.trans s1 sm)
        refine ⟨O, D, _, _, rfl, rfl, sm _ _ (s1 _ _ eO), eD, ?_, fun D2 nD2 => ?_⟩
        · rw [List.length_map, List.length_map, sizeLine_eq]
          have := Z.kids_len
          show 1 + _ ≤ _
          omega
        have s3 := same_new (o := .lst ([V.int 0] ++ (Z.kids.map fun B => (B.deep : Int)).map V.int)) nD2
        have e3 : upd H' D2 (.lst ([V.int 0] ++ (Z.kids.map fun B => (B.deep : Int)).map V.int)) D2 = some (.lst (((0 : Int) :: Z.kids.map fun B => (B.deep : Int)).map V.int)) := upd_same
        generalize upd H' D2 (.lst ([V.int 0] ++ (Z.kids.map fun B => (B.deep : Int)).map V.int)) = H3 at *
        have s03 := Same.trans s01 s3
        refine ⟨D2, _, rfl, SqL.of e3, Nat.zero_lt_succ _, fun m hm hu => ?_⟩
        have dm := deep_max Z m hm hu
        have eZ := (hin.keep (Same.tk s03)).tup
        refine ⟨_, rfl, Z.at_, _, 0, _, rfl, rfl, eZ, atI_nat (j := 0) rfl, rfl, .inr ⟨_, rfl, ?_⟩⟩
        by_cases e : Z.step = 1
        · rw [decide_eq_true ((word_undo Z).2 e)]
          refine ⟨_, _, rfl, rfl, ?_⟩
          show Q (.int (m + 1)) H3
          rw [show m + 1 = (Z.deep : Int) by omega]
          exact q _ s03
        · have e0 : Z.step = 0 := (Z.step_le).resolve_right e
          rw [decide_eq_false (fun z => e ((word_undo Z).1 z))]
          refine ⟨_, _, rfl, rfl, ?_⟩
          show Q (.int (m + 0)) H3
          rw [show m + 0 = (Z.deep : Int) by omega]
          exact q _ s03
/-- the law's own look for a flaw -/
def spFault (n : Nat) : Sp := fun vs H Q _ => ∃ (T : AT) (L : List Str), vs = [T.v] ∧ T.In H ∧ Fair T L ∧ T.count ≤ n ∧ ∀ H', Same H H' → Q (flawV T.flaw) H'
theorem ok_fault {f : Addr} {fd : FuncData} {n : Nat} (hn : n ≤ 160) (F : Fun K "_law_fault" "_law_fault" sFault f fd) (len : mg "len" = none) (GC : C8.Cal P w K mg base (n + 2) "_law_count" (spLCount n) []) (h24 : 24 ≤ n) (GL : C8.Cal P w K mg base (24 + 3) "_law_letters" (spLets 24) []) (GD : C8.Cal P w K mg base (n + 2) "_law_depth" (spLDepth n) []) :
    FnOk P w K mg base CX0 (n + 4) f fd ["_law_term"] (spFault n) := by
  refine F.ok scFault (fun vs H Q E h => ?_) (fun cdv A outer s H vs Q E hr h => ?_)
  · obtain ⟨T, L, rfl, _⟩ := h
    rfl
  · obtain ⟨Z, L, rfl, hin, fr, hc, q⟩ := h
    refine ⟨_, pss_cons (ps_if (pt_cmpR op_gt (C8.pe_c GC hr (by omega) (by rfl) (pa_cons (pv 0) pa_nil)) pe_int (nomark _)) (pss_one (ps_ret pe_str)) pss_nil)
      (pss_cons (ps_if (pt_cmpR op_gt (pe_callB call_len_seq (by rfl) len PySem.boot_len (pa_cons (C8.pe_c GL hr (by omega) (by rfl) (pa_cons (pv 0) pa_nil)) pa_nil)) pe_int (nomark _)) (pss_one (ps_ret pe_str)) pss_nil)
      (pss_one (ps_ret (pe_ifExp (pt_cmpR op_gt (C8.pe_c GD hr (by omega) (by rfl) (pa_cons (pv 0) pa_nil)) pe_int (nomark _)) pe_str pe_non)))), ?_⟩
    refine ⟨_, rfl, Z, rfl, hin, hc, by omega, fun H1 s1 => ?_⟩
    refine ⟨_, _, rfl, rfl, _, rfl, ?_⟩
    by_cases c1 : 24 < Z.count
    · have hq := q _ s1
      unfold AT.flaw at hq
      rw [if_pos c1] at hq
      exact ifP (by omega) hq
    refine ifN (by omega) ?_
    refine ⟨_, rfl, Z, rfl, hin.keep (Same.tk s1), by omega, by decide, fun p ys H2 s2 np ri ep => ?_⟩
    have ly : ys.length ≤ 4 := by
      have := nodup_le ri.nd (fun y hy => fr.lets y ((ri.mem y).1 hy))
      have := fr.few
      omega
    refine ⟨p, _, rfl, .inl (SqL.of ep), _, _, rfl, rfl, _, rfl, ifN (by rw [List.length_map]; omega) ?_⟩
    have s12 := Same.trans s1 s2
    refine ⟨_, rfl, Z, rfl, hin.keep (Same.tk s12), hc, by omega, fun H3 s3 => ?_⟩
    have hq := q _ (Same.trans s12 s3)
    unfold AT.flaw at hq
    rw [if_neg c1] at hq
    refine ⟨_, _, rfl, rfl, _, rfl, ?_⟩
    by_cases c2 : 4 < Z.deep
    · rw [if_pos c2] at hq
      exact ifP (by omega) hq
    · rw [if_neg c2] at hq
      exact ifN (by omega) hq
end
end Nv

set_option maxRecDepth 100000
set_option maxHeartbeats 4000000
namespace Nv
open PySem PySem.Spec PyProof.Rows L2 NvSet
variable {K : PySem.W.Frag} [KFx K]
/-- reckonings without addresses -/
inductive ET where
  | sh (t b : Int)
  | le (x : Str)
  | two (o : Op) (A B : ET)
  | un (A : ET)
def AT.er : AT → ET
  | .sh _ _ t b => .sh t b
  | .le _ x => .le x
  | .two _ o A B => .two o A.er B.er
  | .un _ A => .un A.er
def ET.count : ET → Nat
  | .two _ A B => 1 + A.count + B.count
  | .un A => 1 + A.count
  | _ => 1
def ET.deep : ET → Nat
  | .two _ A B => max A.deep B.deep
  | .un A => A.deep + 1
  | _ => 0
def ET.lets : ET → List Str
  | .le x => [x]
  | .two _ A B => A.lets ++ B.lets
  | .un A => A.lets
  | _ => []
def ET.Ok : ET → Prop
  | .sh t b => ShOk t b
  | .le x => Small x
  | .two _ A B => A.Ok ∧ B.Ok
  | .un A => A.Ok
/-- so many letters -/
def ET.many : ET → Nat
  | .le _ => 1
  | .two _ A B => A.many + B.many
  | .un A => A.many
  | _ => 0
theorem AT.er_count : ∀ A : AT, A.er.count = A.count
  | .sh _ _ _ _ => rfl
  | .le _ _ => rfl
  | .two _ _ A B => by show 1 + A.er.count + B.er.count = 1 + A.count + B.count; rw [A.er_count, B.er_count]
  | .un _ A => by show 1 + A.er.count = 1 + A.count; rw [A.er_count]
theorem AT.er_deep : ∀ A : AT, A.er.deep = A.deep
  | .sh _ _ _ _ => rfl
  | .le _ _ => rfl
  | .two _ _ A B => by show max A.er.deep B.er.deep = max A.deep B.deep; rw [A.er_deep, B.er_deep]
  | .un _ A => by show A.er.deep + 1 = A.deep + 1; rw [A.er_deep]
theorem AT.er_lets : ∀ A : AT, A.er.lets = A.lets
  | .sh _ _ _ _ => rfl
  | .le _ _ => rfl
  | .two _ _ A B => by show A.er.lets ++ B.er.lets = A.lets ++ B.lets; rw [A.er_lets, B.er_lets]
  | .un _ A => A.er_lets
theorem AT.er_ok : ∀ A : AT, A.er.Ok ↔ A.Ok
  | .sh _ _ _ _ => Iff.rfl
  | .le _ _ => Iff.rfl
  | .two _ _ A B => and_congr A.er_ok B.er_ok
  | .un _ A => A.er_ok
theorem flaw_er {A B : AT} (h : A.er = B.er) : A.flaw = B.flaw := by
  unfold AT.flaw
  rw [← A.er_count, ← B.er_count, ← A.er_deep, ← B.er_deep, h]
theorem word_share : ∀ T : AT, (∃ p q t b, T = .sh p q t b) ∨ V.str T.word ≠ V.str (Str.ofString "share")
  | .sh p q t b => .inl ⟨p, q, t, b, rfl⟩
  | .le _ _ => .inr fun z => ne_let1 (V.str.inj z).symm
  | .two _ o _ _ => .inr fun z => by
      have z : o.word = Str.ofString "share" := V.str.inj z
      revert z
      cases o <;> decide +kernel
  | .un _ _ => .inr fun z => by
      have z : Str.ofString "undo" = Str.ofString "share" := V.str.inj z
      revert z
      decide +kernel
theorem AT.rest_kids : ∀ T : AT, T.kids ≠ [] → T.rest = T.kids.map AT.v
  | .sh _ _ _ _, h => absurd rfl h
  | .le _ _, h => absurd rfl h
  | .two _ _ _ _, _ => rfl
  | .un _ _, _ => rfl
theorem kids_of {T : AT} (h1 : ¬ ∃ p x, T = .le p x) (h2 : ¬ ∃ p q t b, T = .sh p q t b) : T.kids ≠ [] := by
  cases T with
  | sh p q t b => exact absurd ⟨p, q, t, b, rfl⟩ h2
  | le p x => exact absurd ⟨p, x, rfl⟩ h1
  | two _ _ _ _ => exact List.cons_ne_nil _ _
  | un _ _ => exact List.cons_ne_nil _ _

/-! ### the things of each product the other way about -/
def ET.turn : ET → ET
  | .sh t b => .sh t b
  | .le x => .le x
  | .two .times A B => .two .times B.turn A.turn
  | .two o A B => .two o A.turn B.turn
  | .un A => .un A.turn
theorem ET.turn_turn : ∀ T : ET, T.turn.turn = T
  | .sh _ _ => rfl
  | .le _ => rfl
  | .two .times A B => by show ET.two .times A.turn.turn B.turn.turn = _; rw [A.turn_turn, B.turn_turn]
  | .two .plus A B => by show ET.two .plus A.turn.turn B.turn.turn = _; rw [A.turn_turn, B.turn_turn]
  | .two .less A B => by show ET.two .less A.turn.turn B.turn.turn = _; rw [A.turn_turn, B.turn_turn]
  | .un A => by show ET.un A.turn.turn = _; rw [A.turn_turn]
theorem ET.turn_count : ∀ T : ET, T.turn.count = T.count
  | .sh _ _ => rfl
  | .le _ => rfl
  | .two .times A B => by show 1 + B.turn.count + A.turn.count = 1 + A.count + B.count; rw [A.turn_count, B.turn_count]; omega
  | .two .plus A B => by show 1 + A.turn.count + B.turn.count = 1 + A.count + B.count; rw [A.turn_count, B.turn_count]
  | .two .less A B => by show 1 + A.turn.count + B.turn.count = 1 + A.count + B.count; rw [A.turn_count, B.turn_count]
  | .un A => by show 1 + A.turn.count = 1 + A.count; rw [A.turn_count]
theorem ET.turn_deep : ∀ T : ET, T.turn.deep = T.deep
  | .sh _ _ => rfl
  | .le _ => rfl
  | .two .times A B => by show max B.turn.deep A.turn.deep = max A.deep B.deep; rw [A.turn_deep, B.turn_deep]; omega
  | .two .plus A B => by show max A.turn.deep B.turn.deep = max A.deep B.deep; rw [A.turn_deep, B.turn_deep]
  | .two .less A B => by show max A.turn.deep B.turn.deep = max A.deep B.deep; rw [A.turn_deep, B.turn_deep]
  | .un A => by show A.turn.deep + 1 = A.deep + 1; rw [A.turn_deep]
theorem ET.turn_lets : ∀ (T : ET) (y : Str), y ∈ T.turn.lets ↔ y ∈ T.lets
  | .sh _ _, _ => Iff.rfl
  | .le _, _ => Iff.rfl
  | .two .times A B, y => by
    show y ∈ B.turn.lets ++ A.turn.lets ↔ y ∈ A.lets ++ B.lets
    rw [List.mem_append, List.mem_append, A.turn_lets y, B.turn_lets y]
    exact Or.comm
  | .two .plus A B, y => by
    show y ∈ A.turn.lets ++ B.turn.lets ↔ y ∈ A.lets ++ B.lets
    rw [List.mem_append, List.mem_append, A.turn_lets y, B.turn_lets y]
  | .two .less A B, y => by
    show y ∈ A.turn.lets ++ B.turn.lets ↔ y ∈ A.lets ++ B.lets
    rw [List.mem_append, List.mem_append, A.turn_lets y, B.turn_lets y]
  | .un A, y => A.turn_lets y
theorem ET.turn_ok : ∀ {T : ET}, T.Ok → T.turn.Ok
  | .sh _ _, h => h
  | .le _, h => h
  | .two .times _ _, h => ⟨ET.turn_ok h.2, ET.turn_ok h.1⟩
  | .two .plus _ _, h => ⟨ET.turn_ok h.1, ET.turn_ok h.2⟩
  | .two .less _ _, h => ⟨ET.turn_ok h.1, ET.turn_ok h.2⟩
  | .un A, h => ET.turn_ok (T := A) h
/-- the things of a part, in the turned order -/
def ordK (T : AT) (l : List AT) : List AT := if T.word = Str.ofString "times" then l.reverse else l
/-- a tuple of the word and of the things, these turned -/
theorem turned_of {T : AT} {Rs : List AT} {H : Hp} {p : Addr} (hk : T.kids ≠ []) (e : Rs.map AT.er = T.kids.map fun B => B.er.turn) (hin : ∀ R ∈ Rs, R.In H) (hp : Tu H p (.str T.word :: (ordK T Rs).map AT.v)) :
    ∃ R : AT, R.v = .ref p ∧ R.In H ∧ R.er = T.er.turn := by
  cases T with
  | sh _ _ _ _ => exact absurd rfl hk
  | le _ _ => exact absurd rfl hk
  | two q o A B =>
    rcases Rs with _ | ⟨R1, _ | ⟨R2, _ | ⟨R3, Rs⟩⟩⟩
    · cases e
    · cases (List.cons.inj e).2
    · have e1 : R1.er = A.er.turn := (List.cons.inj e).1
      have e2 : R2.er = B.er.turn := (List.cons.inj (List.cons.inj e).2).1
      have i1 := hin R1 List.mem_cons_self
      have i2 := hin R2 (List.mem_cons_of_mem _ List.mem_cons_self)
      unfold ordK at hp
      cases o with
      | times =>
        rw [if_pos (show (AT.two q Op.times A B).word = Str.ofString "times" from rfl)] at hp
        exact ⟨.two p .times R2 R1, rfl, ⟨hp, i2, i1⟩, by show ET.two .times R2.er R1.er = ET.two .times B.er.turn A.er.turn; rw [e1, e2]⟩
      | plus =>
        rw [if_neg (by show ¬ Str.ofString "plus" = Str.ofString "times"; decide +kernel)] at hp
        exact ⟨.two p .plus R1 R2, rfl, ⟨hp, i1, i2⟩, by show ET.two .plus R1.er R2.er = ET.two .plus A.er.turn B.er.turn; rw [e1, e2]⟩
      | less =>
        rw [if_neg (by show ¬ Str.ofString "less" = Str.ofString "times"; decide +kernel)] at hp
        exact ⟨.two p .less R1 R2, rfl, ⟨hp, i1, i2⟩, by show ET.two .less R1.er R2.er = ET.two .less A.er.turn B.er.turn; rw [e1, e2]⟩
    · cases (List.cons.inj (List.cons.inj e).2).2
  | un q A =>
    rcases Rs with _ | ⟨R1, _ | ⟨R2, Rs⟩⟩
    · cases e
    · have e1 : R1.er = A.er.turn := (List.cons.inj e).1
      unfold ordK at hp
      rw [if_neg (by show ¬ Str.ofString "undo" = Str.ofString "times"; decide +kernel)] at hp
      exact ⟨.un p R1, rfl, ⟨hp, hin R1 List.mem_cons_self⟩, by show ET.un R1.er = ET.un A.er.turn; rw [e1]⟩
    · cases (List.cons.inj e).2
theorem turn_leaf {T : AT} (h : T.kids = []) : T.er.turn = T.er := by
  cases T with
  | sh _ _ _ _ => rfl
  | le _ _ => rfl
  | two _ _ _ _ => cases h
  | un _ _ => cases h
abbrev sTurn : Stmt := topS 47
abbrev sTurned : Stmt := topS 48
theorem scTurn : FnScope ["term", "things", "thing"] ["term"] (defScope sTurn) := ⟨rfl, rfl, rfl, by decide +kernel, rfl, by decide +kernel, by decide +kernel⟩
theorem scTurned : FnScope ["term"] ["term"] (defScope sTurned) := ⟨rfl, rfl, rfl, by decide +kernel, rfl, by decide +kernel, by decide +kernel⟩
def spTurn (n : Nat) : Sp := fun vs H Q _ => ∃ T : AT, vs = [T.v] ∧ T.In H ∧ T.count ≤ n ∧ n ≤ 200 ∧ ∀ (R : AT) (H' : Hp), Same H H' → R.In H' → R.er = T.er.turn → Q R.v H'
section
variable {P : Program} {w : World} {mg : Str → Option Value} {base : Heap}
theorem ok_turn {f : Addr} {fd : FuncData} (F : Fun K "turn" "turn" sTurn f fd) (gf : mg "turn" = some (.ref f)) (bf : Binds K fd ["term"] []) (GT : C8.Cal P w K mg base 1 "things_in" (spThings K) []) :
    ∀ n : Nat, FnOk P w K mg base CX0 (n + 2) f fd ["term"] (spTurn n) := by
  intro n
  induction n with
  | zero => exact ⟨fun vs H Q E h => by obtain ⟨T, rfl, _⟩ := h; rfl, fun A outer s H args us vs Q E _ _ _ _ h => by
      obtain ⟨T, _, _, c, _⟩ := h
      have := T.count_pos
      omega⟩
  | succ n ih =>
    refine F.ok scTurn (fun vs H Q E h => ?_) (fun cdv A outer s H vs Q E hr h => ?_)
    · obtain ⟨T, rfl, _⟩ := h
      rfl
    · obtain ⟨Z, rfl, hin, hc, hn, q⟩ := h
      refine ⟨_, pss_cons (ps_setLc (i := 1) (own := [("thing", 2)]) (g := gName 2) (tt := tYes) rfl scTurn.nd rfl rfl (sw_true rfl rfl rfl (by decide +kernel)) (pi_tup (C8.pe_c GT hr (by omega) (by rfl) (pa_cons (pv 0) pa_nil))) (blkOk_by (N := ["term", "things", "thing"]) (sc := defScope sTurn) (by decide +kernel))
          (fun _ _ _ _ _ => pg_name (i := 2) scTurn.nd rfl (Or.inl rfl)) (fun _ _ _ _ _ => pts_nil) (fun _ _ _ _ _ => pe_call ih hr (by rfl) gf F.kp bf .nil pass0 (pa_cons (pv 2) pa_nil)))
        (pss_cons (ps_if (pt_cmpR op_eq (pe_ix ix_tup (pv 0) pe_int (fun _ _ => rfl)) pe_str (nomark _)) (pss_one (ps_set (i := 1) scTurn.nd rfl (by first | exact .inl rfl | exact .inr rfl) (pe_revL (pv 1)))) pss_nil)
        (pss_one (ps_ret (pe_ifExp (pt_truth (pv 1) (by intro _; rfl)) (pe_tup (pa_cons (pe_ix ix_tup (pv 0) pe_int (fun _ _ => rfl)) (StX.pa_star (pv 1) pa_nil))) (pv 0))))), ?_⟩
      have hp := hin.tup
      refine ⟨_, rfl, Z, rfl, hin, fun p H1 s1 hp1 => ⟨p, rfl, ⟨_, hp1⟩, fun D nD => ?_⟩⟩
      refine lc_tup (K := K) (a := p) (xs := Z.kids.map AT.v) (fun i H' => Same H1 H' ∧ ∃ Rs : List AT, H' D = some (.lst (Rs.map AT.v)) ∧ Rs.map AT.er = (Z.kids.take i).map (fun B => B.er.turn) ∧ ∀ R ∈ Rs, R.In H') ⟨same_new nD, [], upd_same, rfl, fun R hR => nomatch hR⟩ (fun i H' _ h => seqT h.1 hp1) (fun i x H' hx h => ?_) (fun H' h => ?_)
      · obtain ⟨sm, Rs, eD, eR, iR⟩ := h
        rw [List.getElem?_map] at hx
        obtain ⟨B, hB, rfl⟩ := Option.map_eq_some_iff.mp hx
        have mB : B ∈ Z.kids := List.mem_of_getElem? hB
        have cB := Z.kid_count mB
        have s02 := Same.trans s1 sm
        refine ⟨rfl, yes_if ?_⟩
        refine ⟨_, rfl, B, rfl, (hin.kid B mB).keep (Same.tk s02), by omega, by omega, fun R H2 s2 iR2 eR2 => ?_⟩
        have eD2 := s2 _ _ eD
        have lR : Rs.length ≤ 2 := by
          have := congrArg List.length eR
          rw [List.length_map, List.length_map, List.length_take] at this
          have := Z.kids_len
          omega
        refine ⟨_, eD2, by rw [List.length_map]; exact small1000 (by omega), same_upd (Same.trans sm s2) nD, Rs ++ [R], ?_, ?_, fun R' hR' => ?_⟩
        · rw [upd_same, List.map_append]
          rfl
        · rw [List.take_add_one, hB, List.map_append, List.map_append, eR]
          show _ ++ [R.er] = _ ++ [B.er.turn]
          rw [eR2]
        · have k2 : TupKeep H2 (upd H2 D (.lst (Rs.map AT.v ++ [R.v]))) := tk_lst eD2
          rcases List.mem_append.mp hR' with e | e
          · exact ((iR R' e).keep (Same.tk s2)).keep k2
          · rw [List.mem_singleton.mp e]
            exact iR2.keep k2
      · obtain ⟨sm, Rs, eD, eR, iR⟩ := h
        rw [List.length_map, List.take_length] at eR
        have s02 := Same.trans s1 sm
        have iZ := hin.keep (Same.tk s02)
        have eZ := iZ.tup
        have lR : Rs.length = Z.kids.length := by
          have := congrArg List.length eR
          rw [List.length_map, List.length_map] at this
          exact this
        have lK := Z.kids_len
        -- what is told, the things at D2 in their order
        have fin : ∀ (D2 : Addr) (H2 : Hp), Same H' H2 → H2 D2 = some (.lst ((ordK Z Rs).map AT.v)) → ∀ σ : L2.St, σ[0]? = some (some Z.v) → σ[1]? = some (some (.ref D2)) →
            tIf (fun σ H Q => tVar 1 σ H fun x H' => ∃ k, TruV K x H' k ∧ Q k H') (tTup (tCons (tOp (rIxT K) (tVar 0) (tC (.int 0))) (StX.tStar K (tVar 1) tNil))) (tVar 0) σ H2 Q := fun D2 H2 s2 e2 σ h0 h1 => by
          have s03 := Same.trans s02 s2
          have lo : (ordK Z Rs).length = Z.kids.length := by
            unfold ordK
            split
            · rw [List.length_reverse]; exact lR
            · exact lR
          refine ⟨_, h1, !((ordK Z Rs).map AT.v).isEmpty, .inl ⟨_, SqL.of e2, rfl⟩, ?_⟩
          by_cases hk : Z.kids = []
          · have e0 : ordK Z Rs = [] := List.length_eq_zero_iff.mp (by rw [lo, hk]; rfl)
            rw [e0]
            exact iteF ⟨_, h0, q Z H2 s03 (iZ.keep (Same.tk s2)) (turn_leaf hk).symm⟩
          · have e1 : (!((ordK Z Rs).map AT.v).isEmpty) = true := by
              cases ho : ordK Z Rs with
              | nil =>
                rw [ho] at lo
                exact absurd (List.length_eq_zero_iff.mp lo.symm) hk
              | cons _ _ => rfl
            rw [e1]
            refine iteT ?_
            refine ⟨_, h0, Z.at_, _, 0, _, rfl, rfl, seqT s2 eZ, atI_nat (j := 0) rfl, _, h1, D2, _, rfl, .inr (SqL.of e2), ?_, fun tp nt => ?_⟩
            · rw [List.append_nil, List.length_cons, List.length_map, sizeLine_eq, lo]
              omega
            rw [List.append_nil]
            have s3 := same_new (o := .tup (.str Z.word :: (ordK Z Rs).map AT.v)) nt
            obtain ⟨R, eRv, iRR, eRe⟩ := turned_of hk eR (fun R hR => ((iR R hR).keep (Same.tk s2)).keep (Same.tk s3)) (p := tp) (H := upd H2 tp (.tup (.str Z.word :: (ordK Z Rs).map AT.v))) (SqT.of upd_same)
            have hq := q R _ (Same.trans s03 s3) iRR eRe
            rw [eRv] at hq
            exact hq
        refine ⟨_, rfl, Z.at_, _, 0, _, rfl, rfl, eZ, atI_nat (j := 0) rfl, rfl, _, rfl, ?_⟩
        by_cases hw : Z.word = Str.ofString "times"
        · refine ifP (by rw [hw]) ?_
          refine ⟨_, rfl, D, _, rfl, SqL.of eD, fun D2 nD2 => ?_⟩
          have s2 := same_new (o := .lst (Rs.map AT.v).reverse) nD2
          exact fin D2 _ s2 (by rw [upd_same]; unfold ordK; rw [if_pos hw, List.map_reverse]) _ rfl rfl
        · refine ifN (fun z => hw (V.str.inj z)) ?_
          exact fin D H' (fun _ _ h => h) (by unfold ordK; rw [if_neg hw]; exact eD) _ rfl rfl
end
end Nv

set_option maxRecDepth 100000
set_option maxHeartbeats 4000000
namespace Nv
open PySem PySem.Spec PyProof.Rows L2 NvSet
variable {K : PySem.W.Frag} [KFx K]
abbrev sOther : Stmt := topS 70
theorem scOther : FnScope ["_law_term", "_law_found", "_law_part_now"] ["_law_term"] (defScope sOther) := ⟨rfl, rfl, rfl, by decide +kernel, rfl, by decide +kernel, by decide +kernel⟩
theorem leaf_in (T : AT) : inV (V.str T.word) [V.str (Str.ofString "share"), V.str (Str.ofString "letter")] = T.kids.isEmpty := by
  cases T with
  | sh _ _ _ _ => rfl
  | le _ _ => rfl
  | two _ o _ _ => cases o <;> rfl
  | un _ _ => rfl
theorem cut_kids {Z : AT} (hk : Z.kids ≠ []) : cutV Z.items (some 1) none = Z.kids.map AT.v := by
  rw [← Z.rest_kids hk]
  cases Z with
  | sh _ _ _ _ => exact absurd rfl hk
  | le _ _ => exact absurd rfl hk
  | two _ _ _ _ => rfl
  | un _ _ => rfl
section
variable {P : Program} {w : World} {mg : Str → Option Value} {base : Heap}
theorem ok_other {f : Addr} {fd : FuncData} (F : Fun K "_law_other_way" "_law_other_way" sOther f fd) (gf : mg "_law_other_way" = some (.ref f)) (bf : Binds K fd ["_law_term"] []) (tup : mg "tuple" = none) :
    ∀ n : Nat, FnOk P w K mg base CX0 (n + 2) f fd ["_law_term"] (spTurn n) := by
  intro n
  induction n with
  | zero => exact ⟨fun vs H Q E h => by obtain ⟨T, rfl, _⟩ := h; rfl, fun A outer s H args us vs Q E _ _ _ _ h => by
      obtain ⟨T, _, _, c, _⟩ := h
      have := T.count_pos
      omega⟩
  | succ n ih =>
    refine F.ok scOther (fun vs H Q E h => ?_) (fun cdv A outer s H vs Q E hr h => ?_)
    · obtain ⟨T, rfl, _⟩ := h
      rfl
    · obtain ⟨Z, rfl, hin, hc, hn, q⟩ := h
      refine ⟨_, pss_cons (ps_if (pt_cmpR op_in_seq (pe_ix ix_tup (pv 0) pe_int (fun _ _ => rfl)) (pe_tup (pa_cons pe_str (pa_cons pe_str pa_nil))) (by rfl)) (pss_one (ps_ret (pv 0))) pss_nil)
        (pss_cons (ps_setLc (i := 1) (own := [("_law_part_now", 2)]) (g := gName 2) (tt := tYes) rfl scOther.nd rfl rfl (sw_true rfl rfl rfl (by decide +kernel)) (pi_tup (pe_slice sl_tup (pv 0) (po_some pe_int) po_none)) (blkOk_by (N := ["_law_term", "_law_found", "_law_part_now"]) (sc := defScope sOther) (by decide +kernel))
          (fun _ _ _ _ _ => pg_name (i := 2) scOther.nd rfl (Or.inl rfl)) (fun _ _ _ _ _ => pts_nil) (fun _ _ _ _ _ => pe_call ih hr (by rfl) gf F.kp bf .nil pass0 (pa_cons (pv 2) pa_nil)))
        (pss_one (ps_ret (pe_op op_catT (pe_tup (pa_cons (pe_ix ix_tup (pv 0) pe_int (fun _ _ => rfl)) pa_nil)) (pe_callTy call_tuple_of (by rfl) tup (by decide +kernel) (pa_cons (pe_ifExp (pt_cmpR op_eq (pe_ix ix_tup (pv 0) pe_int (fun _ _ => rfl)) pe_str (nomark _)) (pe_revL (pv 1)) (pv 1)) pa_nil)))))), ?_⟩
      have hp := hin.tup
      refine ⟨_, rfl, Z.at_, _, 0, _, rfl, rfl, hp, atI_nat (j := 0) rfl, (by show 2 ≤ sizeLine; decide), fun e ne => ?_⟩
      have s0 := same_new (o := .tup [.str "share", .str "letter"]) ne
      refine ⟨e, _, rfl, .inr (SqT.of upd_same), rfl, rfl, _, rfl, ?_⟩
      rw [leaf_in Z]
      have hin0 := hin.keep (Same.tk s0)
      generalize upd H e (.tup [.str "share", .str "letter"]) = H0 at *
      by_cases hk : Z.kids = []
      · rw [hk]
        exact iteT ⟨_, rfl, q Z H0 s0 hin0 (turn_leaf hk).symm⟩
      have e1 : Z.kids.isEmpty = false := by
        cases hh : Z.kids with
        | nil => exact absurd hh hk
        | cons _ _ => rfl
      rw [e1]
      refine iteF ?_
      have hp0 := hin0.tup
      refine ⟨_, rfl, 1, rfl, Z.at_, _, rfl, hp0, (fun z => by cases z.1), fun p np => ?_⟩
      have s1 := same_new (o := .tup (cutV Z.items (some 1) none)) np
      have hp1 : SqT K (upd H0 p (.tup (cutV Z.items (some 1) none))) p (Z.kids.map AT.v) := by
        refine SqT.of ?_
        rw [upd_same, cut_kids hk]
      generalize upd H0 p (.tup (cutV Z.items (some 1) none)) = H1 at *
      refine ⟨p, rfl, ⟨_, hp1⟩, fun D nD => ?_⟩
      have s01 := Same.trans s0 s1
      refine lc_tup (K := K) (a := p) (xs := Z.kids.map AT.v) (fun i H' => Same H1 H' ∧ ∃ Rs : List AT, H' D = some (.lst (Rs.map AT.v)) ∧ Rs.map AT.er = (Z.kids.take i).map (fun B => B.er.turn) ∧ ∀ R ∈ Rs, R.In H') ⟨same_new nD, [], upd_same, rfl, fun R hR => nomatch hR⟩ (fun i H' _ h => seqT h.1 hp1) (fun i x H' hx h => ?_) (fun H' h => ?_)
      · obtain ⟨sm, Rs, eD, eR, iR⟩ := h
        rw [List.getElem?_map] at hx
        obtain ⟨B, hB, rfl⟩ := Option.map_eq_some_iff.mp hx
        have mB : B ∈ Z.kids := List.mem_of_getElem? hB
        have cB := Z.kid_count mB
        have s02 := Same.trans s01 sm
        refine ⟨rfl, yes_if ?_⟩
        refine ⟨_, rfl, B, rfl, (hin.kid B mB).keep (Same.tk s02), by omega, by omega, fun R H2 s2 iR2 eR2 => ?_⟩
        have eD2 := s2 _ _ eD
        have lR : Rs.length ≤ 2 := by
          have := congrArg List.length eR
          rw [List.length_map, List.length_map, List.length_take] at this
          have := Z.kids_len
          omega
        refine ⟨_, eD2, by rw [List.length_map]; exact small1000 (by omega), same_upd (Same.trans sm s2) nD, Rs ++ [R], ?_, ?_, fun R' hR' => ?_⟩
        · rw [upd_same, List.map_append]
          rfl
        · rw [List.take_add_one, hB, List.map_append, List.map_append, eR]
          show _ ++ [R.er] = _ ++ [B.er.turn]
          rw [eR2]
        · have k2 : TupKeep H2 (upd H2 D (.lst (Rs.map AT.v ++ [R.v]))) := tk_lst eD2
          rcases List.mem_append.mp hR' with e | e
          · exact ((iR R' e).keep (Same.tk s2)).keep k2
          · rw [List.mem_singleton.mp e]
            exact iR2.keep k2
      · obtain ⟨sm, Rs, eD, eR, iR⟩ := h
        rw [List.length_map, List.take_length] at eR
        have s02 := Same.trans s01 sm
        have iZ := hin.keep (Same.tk s02)
        have lR : Rs.length = Z.kids.length := by
          have := congrArg List.length eR
          rw [List.length_map, List.length_map] at this
          exact this
        have lK := Z.kids_len
        have lo : (ordK Z Rs).length = Z.kids.length := by
          unfold ordK
          split
          · rw [List.length_reverse]; exact lR
          · exact lR
        have k0 : Z.kids.length ≠ 0 := fun z => hk (List.length_eq_zero_iff.mp z)
        refine ⟨_, rfl, Z.at_, _, 0, _, rfl, rfl, iZ.tup, atI_nat (j := 0) rfl, (by show 1 ≤ sizeLine; decide), fun O nO => ?_⟩
        have s2 := same_new (o := .tup [.str Z.word]) nO
        have eO : upd H' O (.tup [.str Z.word]) O = some (.tup [.str Z.word]) := upd_same
        have eD2 := s2 _ _ eD
        have iZ2 := iZ.keep (Same.tk s2)
        have iR2 : ∀ R ∈ Rs, R.In (upd H' O (.tup [.str Z.word])) := fun R hR => (iR R hR).keep (Same.tk s2)
        have s03 := Same.trans s02 s2
        generalize upd H' O (.tup [.str Z.word]) = H2 at *
        -- the things at D2 in their order
        have fin : ∀ (D2 : Addr) (H3 : Hp), Same H2 H3 → H3 D2 = some (.lst ((ordK Z Rs).map AT.v)) → ∃ p ys, [V.ref D2] = [V.ref p] ∧ ((SqL K H3 p ys ∧ ∀ l, H3 l = none → rCatT K (.ref O) (.ref l) (upd H3 l (.tup ys)) Q) ∨ (SqT K H3 p ys ∧ rCatT K (.ref O) (.ref p) H3 Q)) := fun D2 H3 s3 e3 => by
          refine ⟨D2, _, rfl, .inl ⟨SqL.of e3, fun O2 nO2 => ?_⟩⟩
          have s4 := same_new (o := .tup ((ordK Z Rs).map AT.v)) nO2
          refine ⟨O, O2, _, _, rfl, rfl, SqT.of (s4 _ _ (s3 _ _ eO)), SqT.of upd_same, (List.cons_ne_nil _ _), ?_, ?_⟩
          · rw [List.length_map, sizeLine_eq, lo]
            show 1 + _ ≤ _
            omega
          · refine ⟨fun z => ?_, fun _ tp nt => ?_⟩
            · exfalso
              have e2 := congrArg List.length z
              rw [List.length_map, lo] at e2
              exact k0 e2
            · have s5 := same_new (o := .tup ([V.str Z.word] ++ (ordK Z Rs).map AT.v)) nt
              obtain ⟨R, eRv, iRR, eRe⟩ := turned_of hk eR (fun R hR => (((iR2 R hR).keep (Same.tk s3)).keep (Same.tk s4)).keep (Same.tk s5)) (p := tp) (H := upd (upd H3 O2 (.tup ((ordK Z Rs).map AT.v))) tp (.tup ([V.str Z.word] ++ (ordK Z Rs).map AT.v))) (SqT.of upd_same)
              have hq := q R _ (Same.trans (Same.trans (Same.trans s03 s3) s4) s5) iRR eRe
              rw [eRv] at hq
              exact hq
        refine ⟨_, rfl, Z.at_, _, 0, _, rfl, rfl, iZ2.tup, atI_nat (j := 0) rfl, rfl, _, rfl, ?_⟩
        by_cases hw : Z.word = Str.ofString "times"
        · refine ifP (by rw [hw]) ?_
          refine ⟨_, rfl, D, _, rfl, SqL.of eD2, fun D2 nD2 => ?_⟩
          have s2 := same_new (o := .lst (Rs.map AT.v).reverse) nD2
          exact fin D2 _ s2 (by rw [upd_same]; unfold ordK; rw [if_pos hw, List.map_reverse])
        · refine ifN (fun z => hw (V.str.inj z)) ?_
          exact ⟨_, rfl, fin D H2 (fun _ _ h => h) (by unfold ordK; rw [if_neg hw]; exact eD2)⟩
end
end Nv

set_option maxRecDepth 100000
set_option maxHeartbeats 4000000
namespace Nv
open PySem PySem.Spec PyProof.Rows L2 NvSet
variable {K : PySem.W.Frag} [KFx K]
/-! ### nudged at a letter -/
def ET.nudge : ET → Str → ET → ET
  | .sh _ _, _, _ => .sh 0 1
  | .le y, x, U => if y = x then U else .sh 0 1
  | .two .times A B, x, U => .two .plus (.two .times (A.nudge x U) B) (.two .times A (B.nudge x U))
  | .two .plus A B, x, U => .two .plus (A.nudge x U) (B.nudge x U)
  | .two .less A B, x, U => .two .less (A.nudge x U) (B.nudge x U)
  | .un A, x, U => .two .less (.sh 0 1) (.two .times (.un A) (.two .times (A.nudge x U) (.un A)))
theorem shOk01 : ShOk 0 1 := ⟨by decide, by decide, by decide, by decide⟩
theorem ET.count_pos : ∀ T : ET, 1 ≤ T.count
  | .sh _ _ => Nat.le_refl _
  | .le _ => Nat.le_refl _
  | .two _ A B => by show 1 ≤ 1 + A.count + B.count; omega
  | .un A => by show 1 ≤ 1 + A.count; omega
theorem ET.nudge_count {x : Str} {U : ET} (hU : U.count ≤ 3) : ∀ T : ET, (T.nudge x U).count + 3 ≤ T.count * T.count + 5 * T.count
  | .sh _ _ => by show 1 + 3 ≤ 1 * 1 + 5 * 1; omega
  | .le y => by
    show (if y = x then U else .sh 0 1).count + 3 ≤ 1 * 1 + 5 * 1
    split
    · omega
    · show 1 + 3 ≤ _; omega
  | .two o A B => by
    have h1 := ET.nudge_count (x := x) hU A
    have h2 := ET.nudge_count (x := x) hU B
    have p1 := A.count_pos
    have p2 := B.count_pos
    have e : (1 + A.count + B.count) * (1 + A.count + B.count) = 1 + A.count * A.count + B.count * B.count + 2 * A.count + 2 * B.count + 2 * (A.count * B.count) := by
      rw [Nat.add_mul, Nat.add_mul, Nat.mul_add, Nat.mul_add, Nat.mul_add, Nat.mul_add, Nat.mul_add, Nat.mul_add, Nat.mul_comm B.count A.count]
      omega
    have g : ((ET.two o A B).nudge x U).count ≤ 3 + (A.nudge x U).count + (B.nudge x U).count + A.count + B.count := by
      cases o with
      | times => show 1 + (1 + (A.nudge x U).count + B.count) + (1 + A.count + (B.nudge x U).count) ≤ _; omega
      | plus => show 1 + (A.nudge x U).count + (B.nudge x U).count ≤ _; omega
      | less => show 1 + (A.nudge x U).count + (B.nudge x U).count ≤ _; omega
    show ((ET.two o A B).nudge x U).count + 3 ≤ (1 + A.count + B.count) * (1 + A.count + B.count) + 5 * (1 + A.count + B.count)
    rw [e]
    omega
  | .un A => by
    have h1 := ET.nudge_count (x := x) hU A
    have e : (1 + A.count) * (1 + A.count) = 1 + A.count * A.count + 2 * A.count := by
      rw [Nat.add_mul, Nat.mul_add, Nat.mul_add]
      omega
    show 1 + 1 + (1 + (1 + A.count) + (1 + (A.nudge x U).count + (1 + A.count))) + 3 ≤ (1 + A.count) * (1 + A.count) + 5 * (1 + A.count)
    rw [e]
    omega
theorem ET.nudge_lets {x : Str} {U : ET} {L : List Str} (hU : ∀ y ∈ U.lets, y ∈ L) : ∀ {T : ET}, (∀ y ∈ T.lets, y ∈ L) → ∀ y ∈ (T.nudge x U).lets, y ∈ L
  | .sh _ _, _ => fun y h => nomatch h
  | .le z, _ => by
    show ∀ y ∈ (if z = x then U else ET.sh 0 1).lets, y ∈ L
    split
    · exact hU
    · exact fun y h => nomatch h
  | .two o A B, h => by
    have hA : ∀ y ∈ A.lets, y ∈ L := fun y q => h y (List.mem_append_left _ q)
    have hB : ∀ y ∈ B.lets, y ∈ L := fun y q => h y (List.mem_append_right _ q)
    have nA := ET.nudge_lets (x := x) hU (T := A) hA
    have nB := ET.nudge_lets (x := x) hU (T := B) hB
    cases o with
    | times =>
      show ∀ y ∈ ((A.nudge x U).lets ++ B.lets) ++ (A.lets ++ (B.nudge x U).lets), y ∈ L
      intro y q
      rcases List.mem_append.mp q with q | q <;> rcases List.mem_append.mp q with q | q
      · exact nA y q
      · exact hB y q
      · exact hA y q
      · exact nB y q
    | plus => exact fun y q => (List.mem_append.mp q).elim (nA y) (nB y)
    | less => exact fun y q => (List.mem_append.mp q).elim (nA y) (nB y)
  | .un A, h => by
    have hA : ∀ y ∈ A.lets, y ∈ L := h
    have nA := ET.nudge_lets (x := x) hU (T := A) hA
    show ∀ y ∈ [] ++ (A.lets ++ ((A.nudge x U).lets ++ A.lets)), y ∈ L
    intro y q
    rcases List.mem_append.mp q with q | q
    · cases q
    · rcases List.mem_append.mp q with q | q
      · exact hA y q
      · exact (List.mem_append.mp q).elim (nA y) (hA y)
theorem ET.nudge_ok {x : Str} {U : ET} (hU : U.Ok) : ∀ {T : ET}, T.Ok → (T.nudge x U).Ok
  | .sh _ _, _ => shOk01
  | .le z, _ => by
    show (if z = x then U else ET.sh 0 1).Ok
    split
    · exact hU
    · exact shOk01
  | .two .times A B, h => ⟨⟨ET.nudge_ok hU h.1, h.2⟩, ⟨h.1, ET.nudge_ok hU h.2⟩⟩
  | .two .plus A B, h => ⟨ET.nudge_ok hU h.1, ET.nudge_ok hU h.2⟩
  | .two .less A B, h => ⟨ET.nudge_ok hU h.1, ET.nudge_ok hU h.2⟩
  | .un A, h => ⟨shOk01, h, ET.nudge_ok (T := A) hU h, h⟩
abbrev sNudge : Stmt := topS 45
abbrev nNudge : List Str := ["term", "letter", "by", "word", "one", "other"]
theorem scNudge : FnScope nNudge ["term", "letter", "by"] (defScope sNudge) := ⟨rfl, rfl, rfl, by decide +kernel, rfl, by decide +kernel, by decide +kernel⟩
def spNudge (n : Nat) : Sp := fun vs H Q _ => ∃ (T U : AT) (x : Str), vs = [T.v, .str x, U.v] ∧ T.In H ∧ U.In H ∧ T.count ≤ n ∧ n ≤ 200 ∧ ∀ (R : AT) (H' : Hp), Same H H' → R.In H' → R.er = T.er.nudge x U.er → Q R.v H'
section
variable {P : Program} {w : World} {mg : Str → Option Value} {base : Heap} {N0 N1 : Addr}
theorem ok_nudge {f : Addr} {fd : FuncData} (F : Fun K "nudge" "nudge" sNudge f fd) (gf : mg "nudge" = some (.ref f)) (bf : Binds K fd ["term", "letter", "by"] []) (g0 : mg "NOTHING" = some (.ref N0)) (h0 : ∀ H, (AT.sh N0 N1 0 1).In H) :
    ∀ n : Nat, FnOk P w K mg base CX0 (n + 2) f fd ["term", "letter", "by"] (spNudge n) := by
  intro n
  induction n with
  | zero => exact ⟨fun vs H Q E h => by obtain ⟨T, U, x, rfl, _⟩ := h; rfl, fun A outer s H args us vs Q E _ _ _ _ h => by
      obtain ⟨T, _, _, _, _, _, c, _⟩ := h
      have := T.count_pos
      omega⟩
  | succ n ih =>
    refine F.ok scNudge (fun vs H Q E h => ?_) (fun cdv A outer s H vs Q E hr h => ?_)
    · obtain ⟨T, U, x, rfl, _⟩ := h
      rfl
    · obtain ⟨Z, U, x, rfl, hin, hU, hc, hn, q⟩ := h
      refine ⟨_, pss_cons (ps_set (i := 3) scNudge.nd rfl (by first | exact .inl rfl | exact .inr rfl) (pe_ix ix_tup (pv 0) pe_int (fun _ _ => rfl)))
        (pss_cons (ps_if (pt_cmpR op_eq (pv 3) pe_str (nomark _)) (pss_one (ps_ret (pe_glob (v := .ref N0) (by rfl) g0 rfl))) pss_nil)
        (pss_cons (ps_if (pt_cmpR op_eq (pv 3) pe_str (nomark _)) (pss_one (ps_ret (pe_ifExp (pt_cmpR op_eq (pe_ix ix_tup (pv 0) pe_int (fun _ _ => rfl)) (pv 1) (nomark _)) (pv 2) (pe_glob (v := .ref N0) (by rfl) g0 rfl)))) pss_nil)
        (pss_cons (ps_set (i := 4) scNudge.nd rfl (by first | exact .inl rfl | exact .inr rfl) (pe_call ih hr (by rfl) gf F.kp bf .nil pass0 (pa_cons (pe_ix ix_tup (pv 0) pe_int (fun _ _ => rfl)) (pa_cons (pv 1) (pa_cons (pv 2) pa_nil)))))
        (pss_cons (ps_if (pt_cmpR op_eq (pv 3) pe_str (nomark _)) (pss_one (ps_ret (pe_tup (pa_cons pe_str (pa_cons (pe_glob (v := .ref N0) (by rfl) g0 rfl) (pa_cons (pe_tup (pa_cons pe_str (pa_cons (pv 0) (pa_cons (pe_tup (pa_cons pe_str (pa_cons (pv 4) (pa_cons (pv 0) pa_nil)))) pa_nil)))) pa_nil)))))) pss_nil)
        (pss_cons (ps_set (i := 5) scNudge.nd rfl (by first | exact .inl rfl | exact .inr rfl) (pe_call ih hr (by rfl) gf F.kp bf .nil pass0 (pa_cons (pe_ix ix_tup (pv 0) pe_int (fun _ _ => rfl)) (pa_cons (pv 1) (pa_cons (pv 2) pa_nil)))))
        (pss_cons (ps_if (pt_cmpR op_eq (pv 3) pe_str (nomark _)) (pss_one (ps_ret (pe_tup (pa_cons pe_str (pa_cons (pe_tup (pa_cons pe_str (pa_cons (pv 4) (pa_cons (pe_ix ix_tup (pv 0) pe_int (fun _ _ => rfl)) pa_nil)))) (pa_cons (pe_tup (pa_cons pe_str (pa_cons (pe_ix ix_tup (pv 0) pe_int (fun _ _ => rfl)) (pa_cons (pv 5) pa_nil)))) pa_nil)))))) pss_nil)
        (pss_one (ps_ret (pe_tup (pa_cons (pv 3) (pa_cons (pv 4) (pa_cons (pv 5) pa_nil)))))))))))), ?_⟩
      have hp := hin.tup
      refine ⟨_, rfl, Z.at_, _, 0, _, rfl, rfl, hp, atI_nat (j := 0) rfl, ?_⟩
      refine ⟨_, rfl, rfl, _, rfl, ?_⟩
      rcases word_share Z with ⟨p, qq, t, bb, rfl⟩ | ne2
      · exact ifP rfl (q (.sh N0 N1 0 1) H (fun _ _ h => h) (h0 H) rfl)
      refine ifN ne2 ?_
      refine ⟨_, rfl, rfl, _, rfl, ?_⟩
      rcases word_letter Z with ⟨p, y, rfl⟩ | ne
      · refine ifP rfl ?_
        refine ⟨_, rfl, p, _, 1, _, rfl, rfl, hp, atI_nat (j := 1) rfl, _, rfl, rfl, _, rfl, ?_⟩
        by_cases e : y = x
        · refine ifP (by rw [e]) ?_
          exact ⟨_, rfl, q U H (fun _ _ h => h) hU (by show U.er = if y = x then U.er else ET.sh 0 1; rw [if_pos e])⟩
        · refine ifN (fun z => e (V.str.inj z)) ?_
          exact q (.sh N0 N1 0 1) H (fun _ _ h => h) (h0 H) (by show ET.sh 0 1 = if y = x then U.er else ET.sh 0 1; rw [if_neg e])
      refine ifN ne ?_
      cases Z with
      | sh p qq t bb => exact absurd rfl ne2
      | le p y => exact absurd rfl ne
      | un p A1 =>
        have c1 : 1 + A1.count ≤ n + 1 := hc
        refine ⟨_, rfl, p, _, 1, _, rfl, rfl, hp, atI_nat (j := 1) rfl, _, rfl, _, rfl, A1, U, x, rfl, hin.2, hU, by omega, by omega, fun R1 H1 s1 i1 e1 => ?_⟩
        refine ⟨_, rfl, rfl, _, rfl, ifP rfl ?_⟩
        have iZ := hin.keep (Same.tk s1)
        refine ⟨_, rfl, _, rfl, _, rfl, (by show 3 ≤ sizeLine; decide), fun ta na => ?_⟩
        have sa := same_new (o := .tup [.str "times", R1.v, (AT.un p A1).v]) na
        refine ⟨(by show 3 ≤ sizeLine; decide), fun tb nb => ?_⟩
        have sb := same_new (o := .tup [.str "times", (AT.un p A1).v, .ref ta]) nb
        refine ⟨(by show 3 ≤ sizeLine; decide), fun tc nc => ?_⟩
        have sc := same_new (o := .tup [.str "less", .ref N0, .ref tb]) nc
        have ka := Same.tk sa
        have kb := Same.tk sb
        have kc := Same.tk sc
        refine q (.two tc .less (.sh N0 N1 0 1) (.two tb .times (.un p A1) (.two ta .times R1 (.un p A1)))) _ (Same.trans (Same.trans (Same.trans s1 sa) sb) sc) ⟨SqT.of upd_same, h0 _, kc _ _ (SqT.of upd_same), ((iZ.keep ka).keep kb).keep kc, kc _ _ (kb _ _ (SqT.of upd_same)), ((i1.keep ka).keep kb).keep kc, ((iZ.keep ka).keep kb).keep kc⟩ ?_
        show ET.two .less (.sh 0 1) (.two .times (.un A1.er) (.two .times R1.er (.un A1.er))) = _
        rw [e1]
        rfl
      | two p o A1 B1 =>
        have c1 : 1 + A1.count + B1.count ≤ n + 1 := hc
        refine ⟨_, rfl, p, _, 1, _, rfl, rfl, hp, atI_nat (j := 1) rfl, _, rfl, _, rfl, A1, U, x, rfl, hin.2.1, hU, by omega, by omega, fun R1 H1 s1 i1 e1 => ?_⟩
        refine ⟨_, rfl, rfl, _, rfl, ifN (fun z => ?_) ?_⟩
        · have z : o.word = Str.ofString "undo" := V.str.inj z
          revert z
          cases o <;> decide +kernel
        have iZ := hin.keep (Same.tk s1)
        refine ⟨_, rfl, p, _, 2, _, rfl, rfl, iZ.1, atI_nat (j := 2) rfl, _, rfl, _, rfl, B1, U, x, rfl, iZ.2.2, hU.keep (Same.tk s1), by omega, by omega, fun R2 H2 s2 i2 e2 => ?_⟩
        have iZ2 := iZ.keep (Same.tk s2)
        have iR1 := i1.keep (Same.tk s2)
        have s02 := Same.trans s1 s2
        refine ⟨_, rfl, rfl, _, rfl, ?_⟩
        cases o with
        | times =>
          refine ifP rfl ?_
          refine ⟨_, rfl, _, rfl, p, _, 2, _, rfl, rfl, iZ2.1, atI_nat (j := 2) rfl, (by show 3 ≤ sizeLine; decide), fun ta na => ?_⟩
          have sa := same_new (o := .tup [.str "times", R1.v, B1.v]) na
          have ka := Same.tk sa
          have iZ3 := iZ2.keep ka
          refine ⟨_, rfl, p, _, 1, _, rfl, rfl, iZ3.1, atI_nat (j := 1) rfl, _, rfl, (by show 3 ≤ sizeLine; decide), fun tb nb => ?_⟩
          have sb := same_new (o := .tup [.str "times", A1.v, R2.v]) nb
          have kb := Same.tk sb
          refine ⟨(by show 3 ≤ sizeLine; decide), fun tc nc => ?_⟩
          have sc := same_new (o := .tup [.str "plus", .ref ta, .ref tb]) nc
          have kc := Same.tk sc
          have k3 := TupKeep.trans ka (TupKeep.trans kb kc)
          refine q (.two tc .plus (.two ta .times R1 B1) (.two tb .times A1 R2)) _ (Same.trans (Same.trans (Same.trans s02 sa) sb) sc) ⟨SqT.of upd_same, ⟨kc _ _ (kb _ _ (SqT.of upd_same)), iR1.keep k3, iZ2.2.2.keep k3⟩, kc _ _ (SqT.of upd_same), iZ2.2.1.keep k3, i2.keep k3⟩ ?_
          show ET.two .plus (.two .times R1.er B1.er) (.two .times A1.er R2.er) = _
          rw [e1, e2]
          rfl
        | plus =>
          refine ifN (fun z => ?_) ?_
          · have z : Str.ofString "plus" = Str.ofString "times" := V.str.inj z
            revert z
            decide +kernel
          refine ⟨_, rfl, _, rfl, _, rfl, (by show 3 ≤ sizeLine; decide), fun ta na => ?_⟩
          have sa := same_new (o := .tup [.str "plus", R1.v, R2.v]) na
          refine q (.two ta .plus R1 R2) _ (Same.trans s02 sa) ⟨SqT.of upd_same, iR1.keep (Same.tk sa), i2.keep (Same.tk sa)⟩ ?_
          show ET.two .plus R1.er R2.er = _
          rw [e1, e2]
          rfl
        | less =>
          refine ifN (fun z => ?_) ?_
          · have z : Str.ofString "less" = Str.ofString "times" := V.str.inj z
            revert z
            decide +kernel
          refine ⟨_, rfl, _, rfl, _, rfl, (by show 3 ≤ sizeLine; decide), fun ta na => ?_⟩
          have sa := same_new (o := .tup [.str "less", R1.v, R2.v]) na
          refine q (.two ta .less R1 R2) _ (Same.trans s02 sa) ⟨SqT.of upd_same, iR1.keep (Same.tk sa), i2.keep (Same.tk sa)⟩ ?_
          show ET.two .less R1.er R2.er = _
          rw [e1, e2]
          rfl
end
end Nv

set_option maxRecDepth 100000
set_option maxHeartbeats 4000000
namespace Nv
open PySem PySem.Spec PyProof.Rows L2 NvSet
variable {K : PySem.W.Frag} [KFx K]
abbrev sMoved : Stmt := topS 69
abbrev nMoved : List Str := ["_law_term", "_law_sign", "_law_per", "_law_none", "_law_moved_here", "_law_part_now"]
theorem scMoved : FnScope nMoved ["_law_term", "_law_sign", "_law_per"] (defScope sMoved) := ⟨rfl, rfl, rfl, by decide +kernel, rfl, by decide +kernel, by decide +kernel⟩
def letD (x : Str) : PyData := .tuple [.str "letter", .str x]
def shaD (t b : Int) : PyData := .tuple [.str "share", .tuple [.int t, .int b]]
theorem letD_shaped {x : Str} (hx : PyData.strOk x = true) : SeqAt.shaped (letD x) = true := by
  unfold SeqAt.shaped letD
  simp [PyData.canLay0, PyData.canLayAll0, PyData.depth, PyData.depthAll, hx]
  decide +kernel
theorem shaD_shaped (t b : Int) : SeqAt.shaped (shaD t b) = true := by
  unfold SeqAt.shaped shaD
  simp [PyData.canLay0, PyData.canLayAll0, PyData.depth, PyData.depthAll]
  decide +kernel
theorem small_ok {x : Str} (h : Small x) : PyData.strOk x = true := by
  unfold PyData.strOk
  rw [← Array.all_toList, List.all_eq_true]
  intro c hc
  have key : ∀ c ∈ (Str.ofString "abcdefghijklmnopqrstuvwxyz").cps.toList, decide (c < 0x110000) = true := by decide +kernel
  exact key c (h.all c hc)
theorem let_eqv (y x : Str) : (letD y).eqv (letD x) = decide (y = x) := by
  show ((Str.ofString "letter" == Str.ofString "letter") && ((y == x) && true)) = decide (y = x)
  rw [show (Str.ofString "letter" == Str.ofString "letter") = true by decide +kernel, Bool.true_and, Bool.and_true]
  exact Bool.eq_iff_iff.mpr (by rw [beq_iff_eq, decide_eq_true_iff])
theorem sha_eqv (t b : Int) (x : Str) : (shaD t b).eqv (letD x) = false := by
  show ((Str.ofString "share" == Str.ofString "letter") && (PyData.eqv (.tuple [.int t, .int b]) (.str x) && true)) = false
  rw [show (Str.ofString "share" == Str.ofString "letter") = false by decide +kernel]
  rfl
def spMoved (n : Nat) : Sp := fun vs H Q _ => ∃ (T U : AT) (x : Str), vs = [T.v, .str x, U.v] ∧ T.In H ∧ U.In H ∧ T.count ≤ n ∧ n ≤ 200 ∧ T.Ok ∧ PyData.strOk x = true ∧ ∀ (R : AT) (H' : Hp), Same H H' → R.In H' → R.er = T.er.nudge x U.er → Q R.v H'
section
variable {P : Program} {w : World} {mg : Str → Option Value} {base : Heap}
theorem ok_moved {f : Addr} {fd : FuncData} (F : Fun K "_law_moved" "_law_moved" sMoved f fd) (gf : mg "_law_moved" = some (.ref f)) (bf : Binds K fd ["_law_term", "_law_sign", "_law_per"] []) :
    ∀ n : Nat, FnOk P w K mg base CX0 (n + 2) f fd ["_law_term", "_law_sign", "_law_per"] (spMoved n) := by
  intro n
  induction n with
  | zero => exact ⟨fun vs H Q E h => by obtain ⟨T, U, x, rfl, _⟩ := h; rfl, fun A outer s H args us vs Q E _ _ _ _ h => by
      obtain ⟨T, _, _, _, _, _, c, _⟩ := h
      have := T.count_pos
      omega⟩
  | succ n ih =>
    refine F.ok scMoved (fun vs H Q E h => ?_) (fun cdv A outer s H vs Q E hr h => ?_)
    · obtain ⟨T, U, x, rfl, _⟩ := h
      rfl
    · obtain ⟨Z, U, x, rfl, hin, hU, hc, hn, hok, hx, q⟩ := h
      refine ⟨_, pss_cons (ps_set (i := 3) scMoved.nd rfl (by first | exact .inl rfl | exact .inr rfl) (pe_tup (pa_cons pe_str (pa_cons (pe_tup (pa_cons pe_int (pa_cons pe_int pa_nil))) pa_nil))))
        (pss_cons (ps_if (pt_cmpR op_in_seq (pe_ix ix_tup (pv 0) pe_int (fun _ _ => rfl)) (pe_tup (pa_cons pe_str (pa_cons pe_str pa_nil))) (by rfl)) (pss_one (ps_ret (pe_ifExp (pt_cmpR (op_eqD hr.units) (pv 0) (pe_tup (pa_cons pe_str (pa_cons (pv 1) pa_nil))) (nomark _)) (pv 2) (pv 3)))) pss_nil)
        (pss_cons (ps_setLc (i := 4) (own := [("_law_part_now", 5)]) (g := gName 5) (tt := tYes) rfl scMoved.nd rfl rfl (sw_true rfl rfl rfl (by decide +kernel)) (pi_tup (pe_slice sl_tup (pv 0) (po_some pe_int) po_none)) (blkOk_by (N := nMoved) (sc := defScope sMoved) (by decide +kernel))
          (fun _ _ _ _ _ => pg_name (i := 5) scMoved.nd rfl (Or.inl rfl)) (fun _ _ _ _ _ => pts_nil) (fun _ _ _ _ _ => pe_call ih hr (by rfl) gf F.kp bf .nil pass0 (pa_cons (pv 5) (pa_cons (pv 1) (pa_cons (pv 2) pa_nil)))))
        (pss_cons (ps_if (pt_cmpR op_eq (pe_ix ix_tup (pv 0) pe_int (fun _ _ => rfl)) pe_str (nomark _)) (pss_one (ps_ret (pe_tup (pa_cons pe_str (pa_cons (pv 3) (pa_cons (pe_tup (pa_cons pe_str (pa_cons (pv 0) (pa_cons (pe_tup (pa_cons pe_str (pa_cons (pe_ix ix_list (pv 4) pe_int (fun _ _ => rfl)) (pa_cons (pv 0) pa_nil)))) pa_nil)))) pa_nil)))))) pss_nil)
        (pss_cons (ps_if (pt_cmpR op_eq (pe_ix ix_tup (pv 0) pe_int (fun _ _ => rfl)) pe_str (nomark _)) (pss_one (ps_ret (pe_tup (pa_cons pe_str (pa_cons (pe_tup (pa_cons pe_str (pa_cons (pe_ix ix_list (pv 4) pe_int (fun _ _ => rfl)) (pa_cons (pe_ix ix_tup (pv 0) pe_int (fun _ _ => rfl)) pa_nil)))) (pa_cons (pe_tup (pa_cons pe_str (pa_cons (pe_ix ix_tup (pv 0) pe_int (fun _ _ => rfl)) (pa_cons (pe_ix ix_list (pv 4) pe_int (fun _ _ => rfl)) pa_nil)))) pa_nil)))))) pss_nil)
        (pss_one (ps_ret (pe_tup (pa_cons (pe_ix ix_tup (pv 0) pe_int (fun _ _ => rfl)) (pa_cons (pe_ix ix_list (pv 4) pe_int (fun _ _ => rfl)) (pa_cons (pe_ix ix_list (pv 4) pe_int (fun _ _ => rfl)) pa_nil)))))))))), ?_⟩
      refine ⟨(by show 2 ≤ sizeLine; decide), fun q1 nq1 => ⟨(by show 2 ≤ sizeLine; decide), fun q0 nq0 => ?_⟩⟩
      have sA := same_new (o := .tup [.int 0, .int 1]) nq1
      have sB := same_new (o := .tup [.str "share", .ref q1]) nq0
      have hN : (AT.sh q0 q1 0 1).In (upd (upd H q1 (.tup [.int 0, .int 1])) q0 (.tup [.str "share", .ref q1])) := ⟨SqT.of upd_same, SqT.of (sB _ _ upd_same)⟩
      have hinA := (hin.keep (Same.tk sA)).keep (Same.tk sB)
      have hUA := (hU.keep (Same.tk sA)).keep (Same.tk sB)
      have sAB := Same.trans sA sB
      generalize upd (upd H q1 (.tup [.int 0, .int 1])) q0 (.tup [.str "share", .ref q1]) = HA at *
      refine ⟨_, rfl, Z.at_, _, 0, _, rfl, rfl, hinA.tup, atI_nat (j := 0) rfl, (by show 2 ≤ sizeLine; decide), fun e ne => ?_⟩
      have s0 := same_new (o := .tup [.str "share", .str "letter"]) ne
      refine ⟨e, _, rfl, .inr (SqT.of upd_same), rfl, rfl, _, rfl, ?_⟩
      rw [leaf_in Z]
      have hin0 := hinA.keep (Same.tk s0)
      have hU0 := hUA.keep (Same.tk s0)
      have hN0 := hN.keep (Same.tk s0)
      have s00 := Same.trans sAB s0
      generalize upd HA e (.tup [.str "share", .str "letter"]) = H0 at *
      by_cases hk : Z.kids = []
      · rw [hk]
        refine iteT ?_
        refine ⟨_, rfl, _, rfl, (by show 2 ≤ sizeLine; decide), fun tp ntp => ?_⟩
        have st := same_new (o := .tup [.str "letter", .str x]) ntp
        have k := Same.tk st
        have hin1 := hin0.keep k
        have dl : Dp K (upd H0 tp (.tup [.str "letter", .str x])) (.ref tp) (letD x) := .tup (SqT.of upd_same) (.cons (.str _) (.cons (.str _) .nil))
        cases Z with
        | sh p qq t b =>
          refine ⟨shaD t b, letD x, .tup hin1.1 (.cons (.str _) (.cons (.tup hin1.2 (.cons (.int _) (.cons (.int _) .nil))) .nil)), dl, shaD_shaped _ _, letD_shaped hx, _, rfl, ?_⟩
          rw [sha_eqv]
          exact iteF ⟨_, rfl, q (.sh q0 q1 0 1) _ (Same.trans s00 st) (hN0.keep k) rfl⟩
        | le p y =>
          refine ⟨letD y, letD x, .tup hin1 (.cons (.str _) (.cons (.str _) .nil)), dl, letD_shaped (small_ok hok), letD_shaped hx, _, rfl, ?_⟩
          rw [let_eqv]
          by_cases ee : y = x
          · exact ifP ee ⟨_, rfl, q U _ (Same.trans s00 st) (hU0.keep k) (by show U.er = if y = x then U.er else ET.sh 0 1; rw [if_pos ee])⟩
          · exact ifN ee ⟨_, rfl, q (.sh q0 q1 0 1) _ (Same.trans s00 st) (hN0.keep k) (by show ET.sh 0 1 = if y = x then U.er else ET.sh 0 1; rw [if_neg ee])⟩
        | two _ _ _ _ => cases hk
        | un _ _ => cases hk
      have eEm : Z.kids.isEmpty = false := by
        cases hh : Z.kids with
        | nil => exact absurd hh hk
        | cons _ _ => rfl
      rw [eEm]
      refine iteF ?_
      refine ⟨_, rfl, 1, rfl, Z.at_, _, rfl, hin0.tup, (fun z => by cases z.1), fun p np => ?_⟩
      have s1 := same_new (o := .tup (cutV Z.items (some 1) none)) np
      have hp1 : SqT K (upd H0 p (.tup (cutV Z.items (some 1) none))) p (Z.kids.map AT.v) := by
        refine SqT.of ?_
        rw [upd_same, cut_kids hk]
      generalize upd H0 p (.tup (cutV Z.items (some 1) none)) = H1 at *
      refine ⟨p, rfl, ⟨_, hp1⟩, fun D nD => ?_⟩
      have s01 := Same.trans s00 s1
      refine lc_tup (K := K) (a := p) (xs := Z.kids.map AT.v) (fun i H' => Same H1 H' ∧ ∃ Rs : List AT, H' D = some (.lst (Rs.map AT.v)) ∧ Rs.map AT.er = (Z.kids.take i).map (fun B => B.er.nudge x U.er) ∧ ∀ R ∈ Rs, R.In H') ⟨same_new nD, [], upd_same, rfl, fun R hR => nomatch hR⟩ (fun i H' _ h => seqT h.1 hp1) (fun i v H' hx2 h => ?_) (fun H' h => ?_)
      · obtain ⟨sm, Rs, eD, eR, iR⟩ := h
        rw [List.getElem?_map] at hx2
        obtain ⟨B, hB, rfl⟩ := Option.map_eq_some_iff.mp hx2
        have mB : B ∈ Z.kids := List.mem_of_getElem? hB
        have cB := Z.kid_count mB
        have s02 := Same.trans s01 sm
        refine ⟨rfl, yes_if ?_⟩
        refine ⟨_, rfl, _, rfl, _, rfl, B, U, x, rfl, (hin.kid B mB).keep (Same.tk s02), hU.keep (Same.tk s02), by omega, by omega, hok.kid B mB, hx, fun R H2 s2 iR2 eR2 => ?_⟩
        have eD2 := s2 _ _ eD
        have lR : Rs.length ≤ 2 := by
          have := congrArg List.length eR
          rw [List.length_map, List.length_map, List.length_take] at this
          have := Z.kids_len
          omega
        refine ⟨_, eD2, by rw [List.length_map]; exact small1000 (by omega), same_upd (Same.trans sm s2) nD, Rs ++ [R], ?_, ?_, fun R' hR' => ?_⟩
        · rw [upd_same, List.map_append]
          rfl
        · rw [List.take_add_one, hB, List.map_append, List.map_append, eR]
          show _ ++ [R.er] = _ ++ [B.er.nudge x U.er]
          rw [eR2]
        · have k2 : TupKeep H2 (upd H2 D (.lst (Rs.map AT.v ++ [R.v]))) := tk_lst eD2
          rcases List.mem_append.mp hR' with e | e
          · exact ((iR R' e).keep (Same.tk s2)).keep k2
          · rw [List.mem_singleton.mp e]
            exact iR2.keep k2
      · obtain ⟨sm, Rs, eD, eR, iR⟩ := h
        rw [List.length_map, List.take_length] at eR
        have s02 := Same.trans s01 sm
        have iZ := hin.keep (Same.tk s02)
        have iN := (hN0.keep (Same.tk s1)).keep (Same.tk sm)
        refine ⟨_, rfl, Z.at_, _, 0, _, rfl, rfl, iZ.tup, atI_nat (j := 0) rfl, rfl, _, rfl, ?_⟩
        cases Z with
        | sh p qq t bb => exact absurd rfl hk
        | le p y => exact absurd rfl hk
        | un pz A1 =>
          refine ifP rfl ?_
          rcases Rs with _ | ⟨R1, _ | ⟨R2, Rs⟩⟩
          · cases eR
          · have e1 : R1.er = A1.er.nudge x U.er := (List.cons.inj eR).1
            have i1 := iR R1 List.mem_cons_self
            refine ⟨_, rfl, _, rfl, _, rfl, D, _, ((0 : Nat) : Int), R1.v, rfl, rfl, SqL.of eD, atI_nat rfl, _, rfl, (by show 3 ≤ sizeLine; decide), fun ta na => ?_⟩
            have sa := same_new (o := .tup [.str "times", R1.v, (AT.un pz A1).v]) na
            refine ⟨(by show 3 ≤ sizeLine; decide), fun tb nb => ?_⟩
            have sb := same_new (o := .tup [.str "times", (AT.un pz A1).v, .ref ta]) nb
            refine ⟨(by show 3 ≤ sizeLine; decide), fun tc nc => ?_⟩
            have sc := same_new (o := .tup [.str "less", .ref q0, .ref tb]) nc
            have ka := Same.tk sa
            have kb := Same.tk sb
            have kc := Same.tk sc
            refine q (.two tc .less (.sh q0 q1 0 1) (.two tb .times (.un pz A1) (.two ta .times R1 (.un pz A1)))) _ (Same.trans (Same.trans (Same.trans s02 sa) sb) sc) ⟨SqT.of upd_same, ((iN.keep ka).keep kb).keep kc, kc _ _ (SqT.of upd_same), ((iZ.keep ka).keep kb).keep kc, kc _ _ (kb _ _ (SqT.of upd_same)), ((i1.keep ka).keep kb).keep kc, ((iZ.keep ka).keep kb).keep kc⟩ ?_
            show ET.two .less (.sh 0 1) (.two .times (.un A1.er) (.two .times R1.er (.un A1.er))) = _
            rw [e1]
            rfl
          · cases (List.cons.inj eR).2
        | two pz o A1 B1 =>
          refine ifN (fun z => ?_) ?_
          · have z : o.word = Str.ofString "undo" := V.str.inj z
            revert z
            cases o <;> decide +kernel
          rcases Rs with _ | ⟨R1, _ | ⟨R2, _ | ⟨R3, Rs⟩⟩⟩
          · cases eR
          · cases (List.cons.inj eR).2
          · have e1 : R1.er = A1.er.nudge x U.er := (List.cons.inj eR).1
            have e2 : R2.er = B1.er.nudge x U.er := (List.cons.inj (List.cons.inj eR).2).1
            have i1 := iR R1 List.mem_cons_self
            have i2 := iR R2 (List.mem_cons_of_mem _ List.mem_cons_self)
            refine ⟨_, rfl, pz, _, 0, _, rfl, rfl, iZ.tup, atI_nat (j := 0) rfl, rfl, _, rfl, ?_⟩
            cases o with
            | times =>
              refine ifP rfl ?_
              refine ⟨_, rfl, D, _, ((0 : Nat) : Int), R1.v, rfl, rfl, SqL.of eD, atI_nat rfl, _, rfl, pz, _, 2, _, rfl, rfl, iZ.1, atI_nat (j := 2) rfl, (by show 3 ≤ sizeLine; decide), fun ta na => ?_⟩
              have sa := same_new (o := .tup [.str "times", R1.v, B1.v]) na
              have ka := Same.tk sa
              have iZ3 := iZ.keep ka
              refine ⟨_, rfl, pz, _, 1, _, rfl, rfl, iZ3.1, atI_nat (j := 1) rfl, _, rfl, D, _, ((1 : Nat) : Int), R2.v, rfl, rfl, SqL.of (sa _ _ eD), atI_nat rfl, (by show 3 ≤ sizeLine; decide), fun tb nb => ?_⟩
              have sb := same_new (o := .tup [.str "times", A1.v, R2.v]) nb
              have kb := Same.tk sb
              refine ⟨(by show 3 ≤ sizeLine; decide), fun tc nc => ?_⟩
              have sc := same_new (o := .tup [.str "plus", .ref ta, .ref tb]) nc
              have kc := Same.tk sc
              have k3 := TupKeep.trans ka (TupKeep.trans kb kc)
              refine q (.two tc .plus (.two ta .times R1 B1) (.two tb .times A1 R2)) _ (Same.trans (Same.trans (Same.trans s02 sa) sb) sc) ⟨SqT.of upd_same, ⟨kc _ _ (kb _ _ (SqT.of upd_same)), i1.keep k3, iZ.2.2.keep k3⟩, kc _ _ (SqT.of upd_same), iZ.2.1.keep k3, i2.keep k3⟩ ?_
              show ET.two .plus (.two .times R1.er B1.er) (.two .times A1.er R2.er) = _
              rw [e1, e2]
              rfl
            | plus =>
              refine ifN (fun z => ?_) ?_
              · have z : Str.ofString "plus" = Str.ofString "times" := V.str.inj z
                revert z
                decide +kernel
              refine ⟨_, rfl, pz, _, 0, _, rfl, rfl, iZ.tup, atI_nat (j := 0) rfl, _, rfl, D, _, ((0 : Nat) : Int), R1.v, rfl, rfl, SqL.of eD, atI_nat rfl, _, rfl, D, _, ((1 : Nat) : Int), R2.v, rfl, rfl, SqL.of eD, atI_nat rfl, (by show 3 ≤ sizeLine; decide), fun ta na => ?_⟩
              have sa := same_new (o := .tup [.str "plus", R1.v, R2.v]) na
              refine q (.two ta .plus R1 R2) _ (Same.trans s02 sa) ⟨SqT.of upd_same, i1.keep (Same.tk sa), i2.keep (Same.tk sa)⟩ ?_
              show ET.two .plus R1.er R2.er = _
              rw [e1, e2]
              rfl
            | less =>
              refine ifN (fun z => ?_) ?_
              · have z : Str.ofString "less" = Str.ofString "times" := V.str.inj z
                revert z
                decide +kernel
              refine ⟨_, rfl, pz, _, 0, _, rfl, rfl, iZ.tup, atI_nat (j := 0) rfl, _, rfl, D, _, ((0 : Nat) : Int), R1.v, rfl, rfl, SqL.of eD, atI_nat rfl, _, rfl, D, _, ((1 : Nat) : Int), R2.v, rfl, rfl, SqL.of eD, atI_nat rfl, (by show 3 ≤ sizeLine; decide), fun ta na => ?_⟩
              have sa := same_new (o := .tup [.str "less", R1.v, R2.v]) na
              refine q (.two ta .less R1 R2) _ (Same.trans s02 sa) ⟨SqT.of upd_same, i1.keep (Same.tk sa), i2.keep (Same.tk sa)⟩ ?_
              show ET.two .less R1.er R2.er = _
              rw [e1, e2]
              rfl
          · cases (List.cons.inj (List.cons.inj eR).2).2
end
end Nv

set_option maxRecDepth 100000
/-! x in a tuple, the items data of any depth. -/
namespace L2
open PySem PySem.Spec PyProof.Rows
section
variable {X : Cx}
def rInDT (K : PySem.W.Frag) : R2 := fun x y H Q => ∃ d ds, Dp K H x d ∧ Dp K H y (.tuple ds) ∧ SeqAt.shaped d = true ∧ SeqAt.shaped (.tuple ds) = true ∧ Q (.bl (ds.any fun z => PyData.eqv z d)) H
theorem op_inDT (hu : X.A.units + 65 < cLine) : OpR X (compareOp .In) (rInDT X.K) := by
  intro pins s σ H x y v u Q I rx ry h
  obtain ⟨d, ds, hd, he, sd, se, q⟩ := h
  obtain ⟨as, r1⟩ := Dp.reads I d x v hd rx
  obtain ⟨bs, r2⟩ := Dp.reads I (.tuple ds) y u he ry
  exact SeqAt.in_tuple_reads r2 r1 (SeqAt.canLay_of_shaped se) (SeqAt.canLay_of_shaped sd) (room_in_shaped sd hu) ⟨.bl _, H, I, rfl, q⟩
end
end L2

set_option maxRecDepth 100000
set_option maxHeartbeats 4000000
namespace Nv
open PySem PySem.Spec PyProof.Rows L2 NvSet
variable {K : PySem.W.Frag} [KFx K]
/-! ### things that are no parts -/
inductive NotSh (K : PySem.W.Frag) (H : Hp) : V → Prop
  | non : NotSh K H .non
  | int (i : Int) : NotSh K H (.int i)
  | pair (p : Addr) (t b : Int) : SqT K H p [.int t, .int b] → t.natAbs < 10 ^ 12 → b < 10 ^ 12 → (b < 1 ∨ Int.gcd t b ≠ 1) → NotSh K H (.ref p)
  | bool (p : Addr) (c : Bool) (b : Int) : SqT K H p [.bl c, .int b] → NotSh K H (.ref p)
inductive NotLe : V → Prop
  | int (i : Int) : NotLe (.int i)
  | len (x : Str) : x.length ≤ 1000 → (x.length < 1 ∨ 6 < x.length) → NotLe (.str x)
  | sign (x : Str) (c : Nat) : 1 ≤ x.length → x.length ≤ 6 → c ∈ x.cps.toList → c ∉ (Str.ofString "abcdefghijklmnopqrstuvwxyz").cps.toList → NotLe (.str x)
/-- what may stand in a part's first place -/
inductive WordV (K : PySem.W.Frag) (H : Hp) : V → PyData → Prop
  | str (x : Str) : WordV K H (.str x) (.str x)
  | non : WordV K H .non .none
  | pair (p : Addr) (a b : Str) : SqT K H p [.str a, .str b] → WordV K H (.ref p) (.tuple [.str a, .str b])
theorem WordV.dp {K : PySem.W.Frag} {H : Hp} {v : V} {d : PyData} (h : WordV K H v d) : Dp K H v d := by
  cases h with
  | str x => exact .str x
  | non => exact .non
  | pair p a b h => exact .tup h (.cons (.str _) (.cons (.str _) .nil))
def twoD : List PyData := [.str "plus", .str "less", .str "times"]
inductive NotBu (K : PySem.W.Frag) (H : Hp) : V → Prop
  | non : NotBu K H .non
  | int (i : Int) : NotBu K H (.int i)
  | str (x : Str) : NotBu K H (.str x)
  | short (p : Addr) (xs : List V) : SqT K H p xs → xs.length < 2 → NotBu K H (.ref p)
  | at (p : Addr) (w : V) (d : PyData) (xs : List V) : SqT K H p (w :: xs) → WordV K H w d → SeqAt.shaped d = true → 1 ≤ xs.length → xs.length ≤ 900 →
      ((twoD.any (fun z => z.eqv d) = true ∧ xs.length ≠ 2) ∨ (twoD.any (fun z => z.eqv d) = false ∧ (xs.length ≠ 1 ∨ ∃ y, xs = [y] ∧
        ((d.eqv (.str "share") = true ∧ NotSh K H y) ∨ (d.eqv (.str "share") = false ∧ d.eqv (.str "letter") = true ∧ NotLe y) ∨ (d.eqv (.str "share") = false ∧ d.eqv (.str "letter") = false ∧ d.eqv (.str "undo") = false))))) → NotBu K H (.ref p)
theorem NotSh.keep {H H' : Hp} (k : TupKeep H H') {v : V} (h : NotSh K H v) : NotSh K H' v := by
  cases h with
  | non => exact .non
  | int i => exact .int i
  | pair p t b h a1 a2 a3 => exact .pair p t b (k _ _ h) a1 a2 a3
  | bool p c b h => exact .bool p c b (k _ _ h)
theorem WordV.keep {H H' : Hp} (k : TupKeep H H') {v : V} {d : PyData} (h : WordV K H v d) : WordV K H' v d := by
  cases h with
  | str x => exact .str x
  | non => exact .non
  | pair p a b h => exact .pair p a b (k _ _ h)
theorem NotBu.keep {H H' : Hp} (k : TupKeep H H') {v : V} (h : NotBu K H v) : NotBu K H' v := by
  cases h with
  | non => exact .non
  | int i => exact .int i
  | str x => exact .str x
  | short p xs h a => exact .short p xs (k _ _ h) a
  | «at» p w d xs h hd sd a1 a2 a3 =>
    refine .at p w d xs (k _ _ h) (hd.keep k) sd a1 a2 (a3.imp id fun ⟨e, q⟩ => ⟨e, q.imp id fun ⟨y, ey, z⟩ => ⟨y, ey, z.imp (fun ⟨e1, n⟩ => ⟨e1, n.keep k⟩) id⟩⟩)
theorem two_shaped : SeqAt.shaped (.tuple twoD) = true := by decide +kernel
theorem str_shaped1 : SeqAt.shaped (.str "share") = true := by decide +kernel
theorem str_shaped2 : SeqAt.shaped (.str "letter") = true := by decide +kernel
theorem str_shaped3 : SeqAt.shaped (.str "undo") = true := by decide +kernel
section
variable {P : Program} {w : World} {mg : Str → Option Value} {base : Heap} {o2 : Addr}
def spNumF : Sp := fun vs H Q _ => ∃ v b, vs = [v] ∧ ((b = true ∧ ∃ i, v = .int i) ∨ (b = false ∧ ∃ c, v = .bl c)) ∧ Q (.bl b) H
theorem ok_numF {f : Addr} {fd : FuncData} {k : Nat} (F : Fun K "is_number" "is_number" sNum f fd) (T : Blt mg) : FnOk P w K mg base CX0 (k + 1) f fd ["thing"] spNumF := by
  refine F.ok scNum (fun vs H Q E h => ?_) (fun cdv A outer s H vs Q E hr h => ?_)
  · obtain ⟨v, b, rfl, _⟩ := h
    rfl
  · obtain ⟨v, b, rfl, hv, q⟩ := h
    refine ⟨_, pss_one (ps_ret (pe_and (pe_callB call_isi (by rfl) T.isi (by decide +kernel) (pa_cons (pv 0) (pa_cons (pe_bltn (v := .ty "int") (by rfl) T.int (by decide +kernel) rfl) pa_nil)))
      (pe_one (pe_not (pe_callB call_isi (by rfl) T.isi (by decide +kernel) (pa_cons (pv 0) (pa_cons (pe_bltn (v := .ty "bool") (by rfl) T.bol (by decide +kernel) rfl) pa_nil))))))), ?_⟩
    rcases hv with ⟨rfl, i, rfl⟩ | ⟨rfl, c, rfl⟩
    · refine ⟨_, rfl, .int i, _, .type "int", _, true, rfl, .ty _, .base (.int i), kit_ty (by decide +kernel), _, rfl, iteT ?_⟩
      exact ⟨_, rfl, .int i, _, .type "int", _, false, rfl, .ty _, .base (.int i), kit_ty (by decide +kernel), _, rfl, q⟩
    · refine ⟨_, rfl, .bl c, _, .type "bool", _, true, rfl, .ty _, .base (.bl c), kit_ty (by decide +kernel), _, rfl, iteT ?_⟩
      exact ⟨_, rfl, .bl c, _, .type "bool", _, true, rfl, .ty _, .base (.bl c), kit_ty (by decide +kernel), _, rfl, q⟩
def spShF (K : PySem.W.Frag) : Sp := fun vs H Q _ => ∃ v, vs = [v] ∧ NotSh K H v ∧ Q (.bl false) H
theorem ok_shF {f : Addr} {fd : FuncData} (F : Fun K "is_share" "is_share" sIsSh f fd) (T : Blt mg) (C : Consts K mg o2) (GN : C8.Cal P w K mg base 1 "is_number" spNumF []) (GG : C8.Cal P w K mg base 1 "common_divisor" spPGcd []) : FnOk P w K mg base CX0 2 f fd ["thing"] (spShF K) := by
  obtain ⟨tg, eg⟩ := C.great
  refine F.ok scIsSh (fun vs H Q E h => ?_) (fun cdv A outer s H vs Q E hr h => ?_)
  · obtain ⟨v, rfl, _⟩ := h
    rfl
  · obtain ⟨v, rfl, hv, q⟩ := h
    refine ⟨_, pss_cons (ps_if (PW.pt (pw_or (pt_not (pt_val (pe_callB call_isi (by rfl) T.isi (by decide +kernel) (pa_cons (pv 0) (pa_cons (pe_bltn (v := .ty "tuple") (by rfl) T.tup (by decide +kernel) rfl) pa_nil)))))
          (pw_or1 (pt_cmpR op_ne (pe_callB call_len_seq (by rfl) T.len PySem.boot_len (pa_cons (pv 0) pa_nil)) pe_int (nomark _))))) (pss_one (ps_ret pe_bl)) pss_nil)
      (pss_cons (ps_asg (pv 0) (pg_tup rfl (pgs_cons (pg_name (i := 1) scIsSh.nd rfl (.inl rfl)) (pgs_cons (pg_name (i := 2) scIsSh.nd rfl (.inl rfl)) pgs_nil))))
      (pss_cons (ps_if (PW.pt (pw_or (pt_not (pt_val (C8.pe_c GN hr (by decide) (by rfl) (pa_cons (pv 1) pa_nil)))) (pw_or1 (pt_not (pt_val (C8.pe_c GN hr (by decide) (by rfl) (pa_cons (pv 2) pa_nil))))))) (pss_one (ps_ret pe_bl)) pss_nil)
      (pss_cons (ps_if (PW.pt (pw_or (pt_cmpR op_ge (pe_callB call_abs (by rfl) T.abs (by decide +kernel) (pa_cons (pv 1) pa_nil)) (pe_glob (v := .int (10 ^ 12)) (by rfl) eg ⟨_, rfl⟩) (nomark _))
          (pw_or1 (pt_not (pt_chain op_le op_lt pe_int (pv 2) (pe_glob (v := .int (10 ^ 12)) (by rfl) eg ⟨_, rfl⟩)))))) (pss_one (ps_ret pe_bl)) pss_nil)
      (pss_one (ps_ret (pe_cmpR op_eq (C8.pe_c GG hr (by decide) (by rfl) (pa_cons (pv 1) (pa_cons (pv 2) pa_nil))) pe_int (nomark _))))))), ?_⟩
    cases hv with
    | non => exact ⟨_, rfl, _, _, .type "NoneType", _, false, rfl, .ty _, .base .non, kit_ty (by decide +kernel), _, rfl, iteT (iteT q)⟩
    | int i => exact ⟨_, rfl, _, _, .type "int", _, false, rfl, .ty _, .base (.int i), kit_ty (by decide +kernel), _, rfl, iteT (iteT q)⟩
    | bool p c b hp =>
      refine ⟨_, rfl, _, _, .type "tuple", _, true, rfl, .ty _, tyT hp, kit_ty (by decide +kernel), _, rfl, iteF ?_⟩
      refine ⟨_, rfl, p, _, rfl, .inr hp, rfl, _, rfl, iteF ?_⟩
      refine ⟨_, rfl, p, _, rfl, hp, rfl, _, _, rfl, _, _, rfl, rfl, ?_⟩
      exact ⟨_, rfl, .bl c, false, rfl, .inr ⟨rfl, c, rfl⟩, _, rfl, iteT (iteT q)⟩
    | pair p t b hp ht hb hx =>
      refine ⟨_, rfl, _, _, .type "tuple", _, true, rfl, .ty _, tyT hp, kit_ty (by decide +kernel), _, rfl, iteF ?_⟩
      refine ⟨_, rfl, p, _, rfl, .inr hp, rfl, _, rfl, iteF ?_⟩
      refine ⟨_, rfl, p, _, rfl, hp, rfl, _, _, rfl, _, _, rfl, rfl, ?_⟩
      refine ⟨_, rfl, .int t, true, rfl, .inl ⟨rfl, t, rfl⟩, _, rfl, iteF ⟨_, rfl, .int b, true, rfl, .inl ⟨rfl, b, rfl⟩, _, rfl, iteF ?_⟩⟩
      have h1 : (if t < 0 then -t else t) < 10 ^ 12 := by
        split <;> omega
      refine ⟨_, rfl, t, rfl, _, _, rfl, rfl, _, rfl, ite2 (fun c => ?_) (fun _ => ?_)⟩
      · have c' := of_decide_eq_true c
        omega
      have k : (10 : Int) ^ 12 = 1000000000000 := by decide
      by_cases hb1 : (1 : Int) ≤ b
      · refine ⟨_, rfl, 1, b, rfl, rfl, _, rfl, ifP hb1 ⟨b, _, rfl, rfl, _, rfl, ifNP hb ?_⟩⟩
        have hg : Int.gcd t b ≠ 1 := hx.resolve_left (by omega)
        refine ⟨_, rfl, _, rfl, t, b, rfl, Nat.lt_of_le_of_lt (show b.natAbs ≤ 2 ^ 45 by omega) (Nat.pow_lt_pow_right (by decide) (by decide)), rfl, ?_⟩
        rw [decide_eq_false (show ¬ V.int ((Int.gcd t b : Nat) : Int) = V.int 1 from fun z => hg (by have := V.int.inj z; omega))]
        exact q
      · refine ⟨_, rfl, 1, b, rfl, rfl, _, rfl, ifN hb1 ?_⟩
        exact ⟨_, rfl, iteT q⟩
def spLeF : Sp := fun vs H Q _ => ∃ v, vs = [v] ∧ NotLe v ∧ ∀ H', Same H H' → Q (.bl false) H'
theorem ok_leF {f : Addr} {fd : FuncData} {k : Nat} (F : Fun K "is_letter" "is_letter" sIsLe f fd) (T : Blt mg) (C : Consts K mg o2) : FnOk P w K mg base CX0 (k + 1) f fd ["thing"] spLeF := by
  obtain ⟨tg, eg⟩ := C.signs
  obtain ⟨ts, es⟩ := C.small
  refine F.ok scIsLe (fun vs H Q E h => ?_) (fun cdv A outer s H vs Q E hr h => ?_)
  · obtain ⟨x, rfl, _⟩ := h
    rfl
  · obtain ⟨v, rfl, hv, q⟩ := h
    refine ⟨_, pss_cons (ps_if (PW.pt (pw_or (pt_not (pt_val (pe_callB call_isi (by rfl) T.isi (by decide +kernel) (pa_cons (pv 0) (pa_cons (pe_bltn (v := .ty "str") (by rfl) T.str (by decide +kernel) rfl) pa_nil)))))
          (pw_or1 (pt_not (pt_chain op_le op_le pe_int (pe_callB call_len_str (by rfl) T.len PySem.boot_len (pa_cons (pv 0) pa_nil)) (pe_glob (v := .int 6) (by rfl) eg ⟨_, rfl⟩)))))) (pss_one (ps_ret pe_bl)) pss_nil)
      (pss_one (ps_ret (pe_callB (cr_all rfl) (by rfl) T.all (by decide +kernel) (pa_cons (pe_lc (own := [("sign", 1)]) (g := gName 1) (tt := tYes) rfl scIsLe.nd (pi_str (pv 0)) (blkOk_by (N := ["thing", "sign"]) (sc := defScope sIsLe) (by decide +kernel))
        (fun _ _ _ _ _ => pg_name (i := 1) scIsLe.nd rfl (Or.inl rfl)) (fun _ _ _ _ _ => pts_nil) (fun _ _ _ _ _ => pe_cmpR op_in_sign (pv 1) (pe_glob (v := .str "abcdefghijklmnopqrstuvwxyz") (by rfl) es ⟨_, rfl⟩) (by rfl))) pa_nil)))), ?_⟩
    have q0 := q H (fun _ _ h => h)
    cases hv with
    | int i => exact ⟨_, rfl, _, _, .type "int", _, false, rfl, .ty _, .base (.int i), kit_ty (by decide +kernel), _, rfl, iteT (iteT q0)⟩
    | len x hl hx =>
      have hlen : x.length ≤ sizeLine := by rw [sizeLine_eq]; omega
      refine ⟨_, rfl, _, _, .type "str", _, true, rfl, .ty _, .base (.str x), kit_ty (by decide +kernel), _, rfl, iteF ?_⟩
      by_cases h1 : x.length < 1
      · exact ⟨_, rfl, x, rfl, hlen, 1, _, rfl, rfl, _, rfl, ifN (by omega) ⟨_, rfl, iteT q0⟩⟩
      · exact ⟨_, rfl, x, rfl, hlen, 1, _, rfl, rfl, _, rfl, ifP (by omega) ⟨_, 6, rfl, rfl, _, rfl, ifNN (by omega) q0⟩⟩
    | sign x c0 hlo hhi hc hn =>
      have hlen : x.length ≤ sizeLine := by rw [sizeLine_eq]; omega
      refine ⟨_, rfl, _, _, .type "str", _, true, rfl, .ty _, .base (.str x), kit_ty (by decide +kernel), _, rfl, iteF ?_⟩
      refine ⟨_, rfl, x, rfl, hlen, 1, _, rfl, rfl, _, rfl, ifP (by omega) ⟨_, 6, rfl, rfl, _, rfl, ifNP (by omega) ?_⟩⟩
      have hsz : x.cps.toList.length = x.length := Array.length_toList
      refine ⟨_, rfl, _, rfl, fun D hD => ?_⟩
      refine lc_it (walk_str (z := x)) (fun i H' => Same H H' ∧ H' D = some (.lst (((x.cps.toList.take i).map fun c => decide (c ∈ (Str.ofString "abcdefghijklmnopqrstuvwxyz").cps.toList)).map V.bl))) ⟨same_new hD, upd_same⟩ (fun _ _ _ _ => trivial) (fun i c H1 H2 hi hP hY => ?_) (fun H' hP => ?_)
      · obtain ⟨s1, eD⟩ := hP
        obtain ⟨rfl, c1, hc1, rfl⟩ := hY
        rw [← Array.getElem?_toList] at hc1
        refine ⟨rfl, yes_if ⟨_, rfl, c1, _, rfl, rfl, _, eD, ?_, ?_, ?_⟩⟩
        · rw [List.length_map, List.length_map, List.length_take]
          exact small1000 (by omega)
        · exact fun z o hz => by
            rw [upd_ne (ne_of_none hz hD)]
            exact s1 _ _ hz
        · rw [upd_same, List.take_add_one, hc1]
          simp only [List.map_append]
          rfl
      · obtain ⟨s1, eD⟩ := hP
        refine ⟨D, _, rfl, SqL.of eD, ?_⟩
        have e : ((x.cps.toList.take x.cps.size).map fun c => decide (c ∈ (Str.ofString "abcdefghijklmnopqrstuvwxyz").cps.toList)).all id = false := by
          rw [List.take_of_length_le (by rw [Array.length_toList]; exact Nat.le_refl _), List.all_eq_false]
          exact ⟨false, List.mem_map.mpr ⟨c0, hc, decide_eq_false hn⟩, by decide⟩
        rw [e]
        exact q _ s1
end
end Nv

set_option maxRecDepth 100000
set_option maxHeartbeats 4000000
namespace Nv
open PySem PySem.Spec PyProof.Rows L2 NvSet
variable {K : PySem.W.Frag} [KFx K]
/-- two promises of one def -/
def spOr (a b : Sp) : Sp := fun vs H Q E => a vs H Q E ∨ b vs H Q E
theorem FnOk.or {P : Program} {w : World} {K : PySem.W.Frag} {mg : Str → Option Value} {base : Heap} {CX : CXT} {k : Nat} {f : Addr} {fd : FuncData} {ps : List Str} {a b : Sp} (x : FnOk P w K mg base CX k f fd ps a) (y : FnOk P w K mg base CX k f fd ps b) : FnOk P w K mg base CX k f fd ps (spOr a b) :=
  ⟨fun vs H Q E h => h.elim (x.len vs H Q E) (y.len vs H Q E), fun A outer s H args us vs Q E r e0 bt rv h => h.elim (x.run A outer s H args us vs Q E r e0 bt rv) (y.run A outer s H args us vs Q E r e0 bt rv)⟩
section
variable {P : Program} {w : World} {mg : Str → Option Value} {base : Heap} {o2 : Addr}
def spBuF (K : PySem.W.Frag) : Sp := fun vs H Q _ => ∃ v, vs = [v] ∧ NotBu K H v ∧ ∀ H', Same H H' → Q (.bl false) H'
theorem ok_buF {f : Addr} {fd : FuncData} (F : Fun K "is_built" "is_built" sBuilt f fd) (T : Blt mg) (C : Consts K mg o2) (GS : C8.Cal P w K mg base 2 "is_share" (spShF K) []) (GL : C8.Cal P w K mg base 1 "is_letter" spLeF []) : FnOk P w K mg base CX0 3 f fd ["thing"] (spBuF K) := by
  refine F.ok scBuilt (fun vs H Q E h => ?_) (fun cdv A outer s H vs Q E hr h => ?_)
  · obtain ⟨v, rfl, _⟩ := h
    rfl
  · obtain ⟨v, rfl, hv, q⟩ := h
    have hu : (A.deeper (envOfC "is_built" (defScope sBuilt) s.heap.objs.size f cdv)).units + 65 < cLine := by have := hr.un; omega
    refine ⟨_, pss_cons (ps_if (PW.pt (pw_or (pt_not (pt_val (pe_callB call_isi (by rfl) T.isi (by decide +kernel) (pa_cons (pv 0) (pa_cons (pe_bltn (v := .ty "tuple") (by rfl) T.tup (by decide +kernel) rfl) pa_nil)))))
          (pw_or1 (pt_cmpR op_lt (pe_callB call_len_seq (by rfl) T.len PySem.boot_len (pa_cons (pv 0) pa_nil)) pe_int (nomark _))))) (pss_one (ps_ret pe_bl)) pss_nil)
      (pss_cons (ps_set (i := 1) scBuilt.nd rfl (.inl rfl) (pe_ix ix_tup (pv 0) pe_int (fun _ _ => rfl)))
      (pss_cons (ps_if (pt_cmpR (op_inDT hu) (pv 1) (pe_glob (v := .ref o2) (by rfl) C.two rfl) (by rfl)) (pss_one (ps_ret (pe_cmpR op_eq (pe_callB call_len_seq (by rfl) T.len PySem.boot_len (pa_cons (pv 0) pa_nil)) pe_int (nomark _)))) pss_nil)
      (pss_cons (ps_if (pt_cmpR op_ne (pe_callB call_len_seq (by rfl) T.len PySem.boot_len (pa_cons (pv 0) pa_nil)) pe_int (nomark _)) (pss_one (ps_ret pe_bl)) pss_nil)
      (pss_cons (ps_if (pt_cmpR (op_eqD hr.units) (pv 1) pe_str (nomark _)) (pss_one (ps_ret (C8.pe_c GS hr (by decide) (by rfl) (pa_cons (pe_ix ix_tup (pv 0) pe_int (fun _ _ => rfl)) pa_nil)))) pss_nil)
      (pss_cons (ps_if (pt_cmpR (op_eqD hr.units) (pv 1) pe_str (nomark _)) (pss_one (ps_ret (C8.pe_c GL hr (by decide) (by rfl) (pa_cons (pe_ix ix_tup (pv 0) pe_int (fun _ _ => rfl)) pa_nil)))) pss_nil)
      (pss_one (ps_ret (pe_cmpR (op_eqD hr.units) (pv 1) pe_str (nomark _))))))))), ?_⟩
    have q0 := q H (fun _ _ h => h)
    cases hv with
    | non => exact ⟨_, rfl, _, _, .type "NoneType", _, false, rfl, .ty _, .base .non, kit_ty (by decide +kernel), _, rfl, iteT (iteT q0)⟩
    | int i => exact ⟨_, rfl, _, _, .type "int", _, false, rfl, .ty _, .base (.int i), kit_ty (by decide +kernel), _, rfl, iteT (iteT q0)⟩
    | str x => exact ⟨_, rfl, _, _, .type "str", _, false, rfl, .ty _, .base (.str x), kit_ty (by decide +kernel), _, rfl, iteT (iteT q0)⟩
    | short p xs hp hl =>
      refine ⟨_, rfl, _, _, .type "tuple", _, true, rfl, .ty _, tyT hp, kit_ty (by decide +kernel), _, rfl, iteF ?_⟩
      exact ⟨_, rfl, p, _, rfl, .inr hp, _, _, rfl, rfl, _, rfl, ifP (by omega) q0⟩
    | «at» p wv d xs hp hd sd h1 h9 hx =>
      refine ⟨_, rfl, _, _, .type "tuple", _, true, rfl, .ty _, tyT hp, kit_ty (by decide +kernel), _, rfl, iteF ?_⟩
      refine ⟨_, rfl, p, _, rfl, .inr hp, _, _, rfl, rfl, _, rfl, ifN (by rw [List.length_cons]; omega) ?_⟩
      refine ⟨_, rfl, p, _, 0, _, rfl, rfl, hp, atI_nat (j := 0) rfl, ?_⟩
      refine ⟨_, rfl, d, twoD, hd.dp, .tup (C.twoIs H) (.cons (.str _) (.cons (.str _) (.cons (.str _) .nil))), sd, two_shaped, _, rfl, ?_⟩
      rcases hx with ⟨e, hl⟩ | ⟨e, hx⟩
      · rw [e]
        refine iteT ⟨_, rfl, p, _, rfl, .inr hp, rfl, ?_⟩
        rw [decide_eq_false (show ¬ V.int (((wv :: xs).length : Nat) : Int) = V.int 3 from fun z => hl (by have := V.int.inj z; rw [List.length_cons] at this; omega))]
        exact q0
      rw [e]
      refine iteF ?_
      refine ⟨_, rfl, p, _, rfl, .inr hp, rfl, _, rfl, ?_⟩
      rcases hx with hl | ⟨y, rfl, hx⟩
      · rw [decide_eq_false (show ¬ V.int (((wv :: xs).length : Nat) : Int) = V.int 2 from fun z => hl (by have := V.int.inj z; rw [List.length_cons] at this; omega))]
        exact iteT q0
      refine iteF ?_
      refine ⟨_, rfl, d, .str "share", hd.dp, .str _, sd, str_shaped1, _, rfl, ?_⟩
      rcases hx with ⟨e1, hy⟩ | ⟨e1, e2, hy⟩ | ⟨e1, e2, e3⟩
      · rw [e1]
        exact iteT ⟨_, rfl, p, _, 1, _, rfl, rfl, hp, atI_nat (j := 1) rfl, y, rfl, hy, q0⟩
      · rw [e1]
        refine iteF ⟨_, rfl, d, .str "letter", hd.dp, .str _, sd, str_shaped2, _, rfl, ?_⟩
        rw [e2]
        exact iteT ⟨_, rfl, p, _, 1, _, rfl, rfl, hp, atI_nat (j := 1) rfl, y, rfl, hy, q⟩
      · rw [e1]
        refine iteF ⟨_, rfl, d, .str "letter", hd.dp, .str _, sd, str_shaped2, _, rfl, ?_⟩
        rw [e2]
        refine iteF ⟨_, rfl, d, .str "undo", hd.dp, .str _, sd, str_shaped3, ?_⟩
        rw [e3]
        exact q0
/-- a tuple that is built as a part with parts is -/
def Node (K : PySem.W.Frag) (H : Hp) (p : Addr) (wd : Str) (xs : List V) : Prop := SqT K H p (.str wd :: xs) ∧ ((∃ o : Op, wd = o.word ∧ xs.length = 2) ∨ (wd = Str.ofString "undo" ∧ xs.length = 1))
def spBuN (K : PySem.W.Frag) : Sp := fun vs H Q _ => ∃ p wd xs, vs = [.ref p] ∧ Node K H p wd xs ∧ ∀ H', Same H H' → Q (.bl true) H'
theorem ok_buN {f : Addr} {fd : FuncData} (F : Fun K "is_built" "is_built" sBuilt f fd) (T : Blt mg) (C : Consts K mg o2) : FnOk P w K mg base CX0 3 f fd ["thing"] (spBuN K) := by
  refine F.ok scBuilt (fun vs H Q E h => ?_) (fun cdv A outer s H vs Q E hr h => ?_)
  · obtain ⟨p, wd, xs, rfl, _⟩ := h
    rfl
  · obtain ⟨p, wd, xs, rfl, ⟨hp, hx⟩, q⟩ := h
    refine ⟨_, pss_cons (ps_if (PW.pt (pw_or (pt_not (pt_val (pe_callB call_isi (by rfl) T.isi (by decide +kernel) (pa_cons (pv 0) (pa_cons (pe_bltn (v := .ty "tuple") (by rfl) T.tup (by decide +kernel) rfl) pa_nil)))))
          (pw_or1 (pt_cmpR op_lt (pe_callB call_len_seq (by rfl) T.len PySem.boot_len (pa_cons (pv 0) pa_nil)) pe_int (nomark _))))) (pss_one (ps_ret pe_bl)) pss_nil)
      (pss_cons (ps_set (i := 1) scBuilt.nd rfl (.inl rfl) (pe_ix ix_tup (pv 0) pe_int (fun _ _ => rfl)))
      (pss_cons (ps_if (pt_cmpR op_in_seq (pv 1) (pe_glob (v := .ref o2) (by rfl) C.two rfl) (by rfl)) (pss_one (ps_ret (pe_cmpR op_eq (pe_callB call_len_seq (by rfl) T.len PySem.boot_len (pa_cons (pv 0) pa_nil)) pe_int (nomark _)))) pss_nil)
      (pss_cons (ps_if (pt_cmpR op_ne (pe_callB call_len_seq (by rfl) T.len PySem.boot_len (pa_cons (pv 0) pa_nil)) pe_int (nomark _)) (pss_one (ps_ret pe_bl)) pss_nil)
      (pss_cons (ps_if (pt_cmpR op_eq (pv 1) pe_str (nomark _)) (pss_never) pss_nil)
      (pss_cons (ps_if (pt_cmpR op_eq (pv 1) pe_str (nomark _)) (pss_never) pss_nil)
      (pss_one (ps_ret (pe_cmpR op_eq (pv 1) pe_str (nomark _))))))))), ?_⟩
    have q0 := q H (fun _ _ h => h)
    refine ⟨_, rfl, _, _, .type "tuple", _, true, rfl, .ty _, tyT hp, kit_ty (by decide +kernel), _, rfl, iteF ?_⟩
    refine ⟨_, rfl, p, _, rfl, .inr hp, _, _, rfl, rfl, _, rfl, ifN (by rw [List.length_cons]; rcases hx with ⟨_, _, h⟩ | ⟨_, h⟩ <;> omega) ?_⟩
    refine ⟨_, rfl, p, _, 0, _, rfl, rfl, hp, atI_nat (j := 0) rfl, ?_⟩
    rcases hx with ⟨o, rfl, hl⟩ | ⟨rfl, hl⟩
    · refine ⟨_, rfl, o2, _, rfl, .inr (C.twoIs H), rfl, rfl, _, rfl, ?_⟩
      rw [show inV (V.str o.word) [V.str (Str.ofString "plus"), V.str (Str.ofString "less"), V.str (Str.ofString "times")] = true by cases o <;> rfl]
      refine iteT ⟨_, rfl, p, _, rfl, .inr hp, rfl, ?_⟩
      rw [decide_eq_true (show V.int (((V.str o.word :: xs).length : Nat) : Int) = V.int 3 by rw [List.length_cons, hl]; rfl)]
      exact q0
    · refine ⟨_, rfl, o2, _, rfl, .inr (C.twoIs H), rfl, rfl, _, rfl, iteF ?_⟩
      refine ⟨_, rfl, p, _, rfl, .inr hp, rfl, _, rfl, ?_⟩
      rw [decide_eq_true (show V.int (((V.str (Str.ofString "undo") :: xs).length : Nat) : Int) = V.int 2 by rw [List.length_cons, hl]; rfl)]
      refine iteF ?_
      refine ⟨_, rfl, rfl, _, rfl, iteF ?_⟩
      refine ⟨_, rfl, rfl, _, rfl, iteF ?_⟩
      exact ⟨_, rfl, rfl, q0⟩
/-- things_in, of such a tuple -/
def spThN (K : PySem.W.Frag) : Sp := fun vs H Q _ => ∃ p wd xs, vs = [.ref p] ∧ Node K H p wd xs ∧ ∀ (p' : Addr) (H' : Hp), Same H H' → SqT K H' p' xs → Q (.ref p') H'
theorem ok_thN {f : Addr} {fd : FuncData} {k : Nat} (F : Fun K "things_in" "things_in" sThings f fd) : FnOk P w K mg base CX0 (k + 1) f fd ["term"] (spThN K) := by
  refine F.ok scThings (fun vs H Q E h => ?_) (fun cdv A outer s H vs Q E hr h => ?_)
  · obtain ⟨p, wd, xs, rfl, _⟩ := h
    rfl
  · obtain ⟨p, wd, xs, rfl, ⟨hp, hx⟩, q⟩ := h
    refine ⟨_, pss_cons (ps_if (PW.pt (pw_or (pt_cmpR op_eq (pe_ix ix_tup (pv 0) pe_int (fun _ _ => rfl)) pe_str (nomark _)) (pw_or1 (pt_cmpR op_eq (pe_ix ix_tup (pv 0) pe_int (fun _ _ => rfl)) pe_str (nomark _)))))
        (pss_one (ps_ret (pe_tup pa_nil))) pss_nil)
      (pss_one (ps_ret (pe_slice sl_tup (pv 0) (po_some pe_int) po_none))), ?_⟩
    have nw : wd ≠ Str.ofString "share" ∧ wd ≠ Str.ofString "letter" := by
      rcases hx with ⟨o, rfl, _⟩ | ⟨rfl, _⟩
      · cases o <;> decide +kernel
      · decide +kernel
    obtain ⟨n1, n2⟩ := nw
    refine ⟨_, rfl, p, _, 0, _, rfl, rfl, hp, atI_nat (j := 0) rfl, rfl, _, rfl, ifN (fun z => n1 (V.str.inj z)) ?_⟩
    refine ⟨_, rfl, p, _, 0, _, rfl, rfl, hp, atI_nat (j := 0) rfl, rfl, _, rfl, ifN (fun z => n2 (V.str.inj z)) ?_⟩
    refine ⟨_, rfl, 1, rfl, p, _, rfl, hp, (fun z => by cases z.1), fun e ne => q e _ (same_new ne) (SqT.of ?_)⟩
    rw [upd_same]
    congr 2
    rcases hx with ⟨o, _, hl⟩ | ⟨_, hl⟩
    · match xs, hl with
      | [_, _], _ => rfl
    · match xs, hl with
      | [_], _ => rfl
end
end Nv

set_option maxRecDepth 100000
set_option maxHeartbeats 8000000
namespace Nv
open PySem PySem.Spec PyProof.Rows L2 NvSet LamX
variable {K : PySem.W.Frag} [KFx K]
/-- reckonings in which odd things may stand -/
inductive WT where
  | ok (A : AT)
  | two (p : Addr) (o : Op) (A B : WT)
  | un (p : Addr) (A : WT)
  | odd (v : V)
def WT.v : WT → V
  | .ok A => A.v
  | .two p _ _ _ => .ref p
  | .un p _ => .ref p
  | .odd v => v
def WT.kids : WT → List WT
  | .ok A => A.kids.map .ok
  | .two _ _ A B => [A, B]
  | .un _ A => [A]
  | .odd _ => []
def WT.In (H : Hp) : WT → Prop
  | .ok A => A.In H ∧ A.Ok
  | .two p o A B => Tu H p [.str o.word, A.v, B.v] ∧ A.In H ∧ B.In H
  | .un p A => Tu H p [.str "undo", A.v] ∧ A.In H
  | .odd v => NotBu K H v
def WT.count : WT → Nat
  | .ok A => A.count
  | .two _ _ A B => 1 + A.count + B.count
  | .un _ A => 1 + A.count
  | .odd _ => 1
/-- some odd thing stands in it -/
def WT.Odd : WT → Prop
  | .ok _ => False
  | .two _ _ A B => A.Odd ∨ B.Odd
  | .un _ A => A.Odd
  | .odd _ => True
theorem WT.In.keep {H H' : Hp} (k : TupKeep H H') : ∀ {T : WT}, T.In H → T.In H'
  | .ok _, h => ⟨h.1.keep k, h.2⟩
  | .two _ _ _ _, h => ⟨k _ _ h.1, WT.In.keep k h.2.1, WT.In.keep k h.2.2⟩
  | .un _ _, h => ⟨k _ _ h.1, WT.In.keep k h.2⟩
  | .odd _, h => NotBu.keep k h
theorem WT.In.kid {H : Hp} : ∀ {T : WT}, T.In H → ∀ A ∈ T.kids, A.In H
  | .ok A, h, B, hB => by
    obtain ⟨C, hC, e⟩ := List.mem_map.mp hB
    rw [← e]
    exact ⟨h.1.kid C hC, h.2.kid C hC⟩
  | .two _ _ _ _, h, A, hA => by
    rcases List.mem_cons.mp hA with e | e
    · rw [e]; exact h.2.1
    · rw [List.mem_singleton.mp e]; exact h.2.2
  | .un _ _, h, A, hA => by rw [List.mem_singleton.mp hA]; exact h.2
  | .odd _, _, _, hA => nomatch hA
theorem WT.kid_odd : ∀ {T : WT}, T.Odd → (∃ v, T = .odd v) ∨ ∃ A ∈ T.kids, A.Odd
  | .ok _, h => h.elim
  | .two _ _ A B, h => .inr (h.elim (fun z => ⟨A, List.mem_cons_self, z⟩) fun z => ⟨B, List.mem_cons_of_mem _ List.mem_cons_self, z⟩)
  | .un _ A, h => .inr ⟨A, List.mem_cons_self, h⟩
  | .odd v, _ => .inl ⟨v, rfl⟩
theorem WT.count_pos : ∀ T : WT, 1 ≤ T.count
  | .ok A => A.count_pos
  | .two _ _ A B => by show 1 ≤ 1 + A.count + B.count; omega
  | .un _ A => by show 1 ≤ 1 + A.count; omega
  | .odd _ => Nat.le_refl _
def sumW (ws : List (WT × Nat)) : Nat := (ws.map fun x => x.1.count).sum
theorem sumW_app (a b : List (WT × Nat)) : sumW (a ++ b) = sumW a + sumW b := by
  unfold sumW
  rw [List.map_append, List.sum_append]
theorem sumW_len : ∀ ws : List (WT × Nat), ws.length ≤ sumW ws
  | [] => Nat.le_refl _
  | x :: ws => by
    have := sumW_len ws
    have := x.1.count_pos
    show ws.length + 1 ≤ x.1.count + sumW ws
    omega
theorem WT.kids_len : ∀ T : WT, T.kids.length ≤ 2
  | .ok A => by show (A.kids.map WT.ok).length ≤ 2; rw [List.length_map]; exact A.kids_len
  | .two _ _ _ _ => Nat.le_refl _
  | .un _ _ => by show 1 ≤ 2; omega
  | .odd _ => Nat.zero_le _
theorem WT.kids_sum (d : Nat) : ∀ T : WT, sumW (T.kids.map fun B => (B, d)) + 1 = T.count
  | .ok A => by
    have h := A.count_eq
    show sumW ((A.kids.map WT.ok).map fun B => (B, d)) + 1 = A.count
    have e : sumW ((A.kids.map WT.ok).map fun B => (B, d)) = (A.kids.map AT.count).sum := by
      unfold sumW
      rw [List.map_map, List.map_map]
      rfl
    rw [e, h]
    omega
  | .two _ _ A B => by show (A.count + (B.count + 0)) + 1 = 1 + A.count + B.count; omega
  | .un _ A => by show (A.count + 0) + 1 = 1 + A.count; omega
  | .odd _ => rfl
/-- what a thing that isn't odd is: a tuple with a word; its letter, if it is one -/
structure WNode (K : PySem.W.Frag) (H : Hp) (T : WT) (p : Addr) (wd : Str) (rest : List V) : Prop where
  v : T.v = .ref p
  tup : SqT K H p (.str wd :: rest)
  lett : wd = Str.ofString "letter" → ∃ x, rest = [.str x]
theorem WT.node {H : Hp} : ∀ {T : WT}, T.In H → (∃ v, T = .odd v) ∨ ∃ p wd rest, WNode K H T p wd rest
  | .odd v, _ => .inl ⟨v, rfl⟩
  | .ok A, h => .inr ⟨A.at_, A.word, A.rest, rfl, h.1.tup, fun e => by
    rcases word_letter A with ⟨p, x, rfl⟩ | ne
    · exact ⟨x, rfl⟩
    · exact absurd (by rw [e]) ne⟩
  | .two p o A B, h => .inr ⟨p, o.word, [A.v, B.v], rfl, h.1, fun e => absurd e (by cases o <;> decide +kernel)⟩
  | .un p A, h => .inr ⟨p, Str.ofString "undo", [A.v], rfl, h.1, fun e => absurd e (by decide +kernel)⟩
def WaitW (K : PySem.W.Frag) [KFx K] (H : Hp) (v : V) (x : WT × Nat) : Prop := ∃ p, v = .ref p ∧ Tu H p [x.1.v, .int (x.2 : Int)]
theorem WaitW.keep {H H' : Hp} (k : TupKeep H H') {v : V} {x : WT × Nat} (h : WaitW K H v x) : WaitW K H' v x := by
  obtain ⟨p, e, hp⟩ := h
  exact ⟨p, e, k _ _ hp⟩
/-- is_built, things_in, of whatever stands in it -/
def spBuW (K : PySem.W.Frag) [KFx K] : Sp := fun vs H Q _ => ∃ (T : WT), vs = [T.v] ∧ T.In H ∧ ((∃ v, T = .odd v) → ∀ H', Same H H' → Q (.bl false) H') ∧ (¬ (∃ v, T = .odd v) → ∀ H', Same H H' → Q (.bl true) H')
def spThW (K : PySem.W.Frag) [KFx K] : Sp := fun vs H Q _ => ∃ (T : WT), vs = [T.v] ∧ T.In H ∧ ¬ (∃ v, T = .odd v) ∧ ∀ (p : Addr) (H' : Hp), Same H H' → SqT K H' p (T.kids.map WT.v) → Q (.ref p) H'
theorem FnOk.imp {P : Program} {w : World} {K : PySem.W.Frag} {mg : Str → Option Value} {base : Heap} {CX : CXT} {k : Nat} {f : Addr} {fd : FuncData} {ps : List Str} {a b : Sp} (x : FnOk P w K mg base CX k f fd ps a) (i : ∀ vs H Q E, b vs H Q E → a vs H Q E) : FnOk P w K mg base CX k f fd ps b :=
  ⟨fun vs H Q E h => x.len vs H Q E (i _ _ _ _ h), fun A outer s H args us vs Q E r e0 bt rv h => x.run A outer s H args us vs Q E r e0 bt rv (i _ _ _ _ h)⟩
theorem buW_of : ∀ vs H Q E, spBuW K vs H Q E → spOr spBuilt (spOr (spBuN K) (spBuF K)) vs H Q E := by
  rintro vs H Q E ⟨T, rfl, h, q1, q2⟩
  cases T with
  | ok A => exact .inl ⟨A, rfl, h.1, h.2, q2 fun ⟨_, e⟩ => by cases e⟩
  | two p o A B => exact .inr (.inl ⟨p, _, _, rfl, ⟨h.1, .inl ⟨o, rfl, rfl⟩⟩, q2 fun ⟨_, e⟩ => by cases e⟩)
  | un p A => exact .inr (.inl ⟨p, _, _, rfl, ⟨h.1, .inr ⟨rfl, rfl⟩⟩, q2 fun ⟨_, e⟩ => by cases e⟩)
  | odd v => exact .inr (.inr ⟨v, rfl, h, q1 ⟨v, rfl⟩⟩)
theorem thW_of : ∀ vs H Q E, spThW K vs H Q E → spOr (spThings K) (spThN K) vs H Q E := by
  rintro vs H Q E ⟨T, rfl, h, n, q⟩
  cases T with
  | ok A => exact .inl ⟨A, rfl, h.1, fun p H' s hp => q p H' s (by
      show SqT K H' p ((A.kids.map WT.ok).map WT.v)
      rw [List.map_map]
      exact hp)⟩
  | two p o A B => exact .inr ⟨p, _, _, rfl, ⟨h.1, .inl ⟨o, rfl, rfl⟩⟩, q⟩
  | un p A => exact .inr ⟨p, _, _, rfl, ⟨h.1, .inr ⟨rfl, rfl⟩⟩, q⟩
  | odd v => exact absurd ⟨v, rfl⟩ n
/-- what stands at each turn -/
def FlawW (K : PySem.W.Frag) [KFx K] (H : Hp) (v0 : V) (c : Nat) (σ : L2.St) (H' : Hp) : Prop := ∃ (W Fd : Addr) (vs : List V) (ws : List (WT × Nat)) (m d : Nat) (kvs : List (Key × V)) (y5 y6 y7 : Option V),
  σ = [some v0, some (.ref W), some (.int (m : Int)), some (.int (d : Int)), some (.ref Fd), y5, y6, y7] ∧ Same H H' ∧ H W = none ∧ H Fd = none ∧ H' W = some (.lst vs) ∧ Paired (WaitW K H') vs ws ∧ (∀ x ∈ ws, x.1.In H') ∧ H' Fd = some (.dK kvs) ∧ kvs.length ≤ m ∧ (∃ x ∈ ws, x.1.Odd) ∧ m + sumW ws = c
def spFlawW (K : PySem.W.Frag) [KFx K] : Sp := fun vs H Q _ => ∃ T : WT, vs = [T.v] ∧ T.In H ∧ T.count ≤ 200 ∧ T.Odd ∧ ∀ H', Same H H' → Q (.str "form") H'
theorem putK_len {kvs : List (Key × V)} {k : Key} {v : V} : (putK kvs k v).length ≤ kvs.length + 1 := by
  unfold putK
  split
  · rw [List.length_map]; omega
  · rw [List.length_append]; exact Nat.le_refl _
section
variable {P : Program} {w : World} {mg : Str → Option Value} {base : Heap} {o2 : Addr}
theorem ok_flawW {f : Addr} {fd : FuncData} (F : Fun K "flaw_of" "flaw_of" sFlaw f fd) (T : Blt mg) (mx : mg "max" = none) (C : Consts K mg o2) (GB : C8.Cal P w K mg base 3 "is_built" (spBuW K) []) (GT : C8.Cal P w K mg base 1 "things_in" (spThW K) []) :
    FnOk P w K mg base CX0 4 f fd ["term"] (spFlawW K) := by
  refine F.ok scFlaw (fun vs H Q E h => ?_) (fun cdv A outer s H vs Q E hr h => ?_)
  · obtain ⟨T, rfl, _⟩ := h
    rfl
  · obtain ⟨Z, rfl, hin, hcn, hodd, q⟩ := h
    refine ⟨_, pss_cons (ps_set (i := 1) scFlaw.nd rfl (.inl rfl) (pe_lst (pa_cons (pe_tup (pa_cons (pv 0) (pa_cons pe_int pa_nil))) pa_nil)))
      (pss_cons (ps_set (i := 2) scFlaw.nd rfl (.inl rfl) pe_int)
      (pss_cons (ps_set (i := 3) scFlaw.nd rfl (.inl rfl) pe_int)
      (pss_cons (ps_set (i := 4) scFlaw.nd rfl (.inl rfl) pe_dnewK)
      (pss_cons (ps_while PassesOwn.never (pt_truth (pv 1) (by intro _; rfl))
        (pss_cons (ps_asg (pe_bm0 PySem.F.plainAttrs_list PySem.F.slot_list_pop PySem.F.type_list_pop mt_pop (pv 1)) (pg_tup rfl (pgs_cons (pg_name (i := 5) scFlaw.nd rfl (.inl rfl)) (pgs_cons (pg_name (i := 6) scFlaw.nd rfl (.inl rfl)) pgs_nil))))
        (pss_cons (ps_if (pt_not (pt_val (C8.pe_c GB hr (by decide) (by rfl) (pa_cons (pv 5) pa_nil)))) (pss_one (ps_ret pe_str)) pss_nil)
        (pss_cons (ps_aug (i := 2) scFlaw.nd rfl (.inl rfl) pe_int ip_add)
        (pss_cons (ps_if (pt_cmpR op_eq (pe_ix ix_tup (pv 5) pe_int (fun _ _ => rfl)) pe_str (nomark _)) (pss_one (ps_dput (hu_of hr) (pv 4) (pe_ix ix_tup (pv 5) pe_int (fun _ _ => rfl)) pe_bl rfl)) pss_nil)
        (pss_cons (ps_if (pt_cmpR op_eq (pe_ix ix_tup (pv 5) pe_int (fun _ _ => rfl)) pe_str (nomark _)) (pss_one (ps_aug (i := 6) scFlaw.nd rfl (.inl rfl) pe_int ip_add)) pss_nil)
        (pss_cons (ps_set (i := 3) scFlaw.nd rfl (.inl rfl) (pe_callB (call_max2 rfl) (by rfl) mx (by decide +kernel) (pa_cons (pv 3) (pa_cons (pv 6) pa_nil))))
        (pss_one (ps_for PassesOwn.never rfl (pi_tup (C8.pe_c GT hr (by decide) (by rfl) (pa_cons (pv 5) pa_nil))) (pg_name (i := 7) scFlaw.nd rfl (.inl rfl))
          (pss_one (ps_expr (pe_bm PySem.F.plainAttrs_list PySem.F.slot_list_append PySem.F.type_list_append mt_append (pv 1) (pa_cons (pe_tup (pa_cons (pv 7) (pa_cons (pv 6) pa_nil))) pa_nil)))))))))))))
      pss_never)))), ?_⟩
    refine ⟨_, rfl, (by show 2 ≤ sizeLine; decide), fun tp ntp => ⟨(by show 1 ≤ sizeLine; decide), fun W nW => ?_⟩⟩
    intro Fd nF
    have nW' : H W = none := (same_new ntp).free nW
    have s1 := Same.trans (same_new (o := .tup [Z.v, .int 0]) ntp) (same_new (o := .lst [.ref tp]) nW)
    have nF' : H Fd = none := s1.free nF
    have s2 := Same.trans s1 (same_new (o := .dK []) nF)
    have etp : (upd (upd (upd H tp (.tup [Z.v, .int 0])) W (.lst [.ref tp])) Fd (.dK [])) tp = some (.tup [Z.v, .int 0]) := same_new nF _ _ (same_new nW _ _ upd_same)
    have eW : (upd (upd (upd H tp (.tup [Z.v, .int 0])) W (.lst [.ref tp])) Fd (.dK [])) W = some (.lst [.ref tp]) := same_new nF _ _ upd_same
    refine gN (nxS ?_)
    refine while_by (FlawW K H Z.v Z.count) mFlaw ⟨W, Fd, _, [(Z, 0)], 0, 0, [], none, none, none, rfl, s2, nW', nF', eW, .cons ⟨tp, rfl, SqT.of etp⟩ .nil, (fun x hx => ?_), upd_same, Nat.le_refl _, ⟨_, List.mem_singleton.mpr rfl, hodd⟩, ?_⟩ (fun σ H1 hP => ?_) (fun σ H Q Q' hh hc => ?_)
    · rw [List.mem_singleton.mp hx]
      exact hin.keep (Same.tk s2)
    · show 0 + (Z.count + 0) = Z.count
      omega
    · obtain ⟨W, Fd, vs, ws, m, d, kvs, y5, y6, y7, rfl, sm, nW, nF, eW, pw, wo, eF, ki, ho, hm⟩ := hP
      refine ⟨_, rfl, !vs.isEmpty, .inl ⟨vs, SqL.of eW, rfl⟩, ?_⟩
      rcases List.eq_nil_or_concat ws with rfl | ⟨ws', ⟨A, d0⟩, rfl⟩
      · obtain ⟨_, hx, _⟩ := ho
        cases hx
      · rw [List.concat_eq_append] at pw wo hm ho
        obtain ⟨zs, z, rfl, pz, tpA, rfl, etA⟩ := Paired.last pw
        rw [show (!(zs ++ [V.ref tpA]).isEmpty) = true by simp]
        refine iteT ?_
        have hA : A.In H1 := wo (A, d0) (List.mem_append_right _ (List.mem_singleton.mpr rfl))
        rw [sumW_app] at hm
        have hm : m + (sumW ws' + (A.count + 0)) = Z.count := hm
        have nWF : W ≠ Fd := fun z => by rw [z, eF] at eW; cases eW
        -- pop
        refine ⟨_, rfl, .inl ⟨rfl, _, SqL.of eW⟩, W, _, .ref tpA, rfl, rfl, eW, by simp, ?_⟩
        rw [List.dropLast_concat]
        have k2 : TupKeep H1 (upd H1 W (.lst zs)) := tk_lst eW
        have sm2 : Same H (upd H1 W (.lst zs)) := same_upd sm nW
        have eW2 : (upd H1 W (.lst zs)) W = some (.lst zs) := upd_same
        have eF2 : (upd H1 W (.lst zs)) Fd = some (.dK kvs) := by rw [upd_ne nWF.symm]; exact eF
        generalize upd H1 W (.lst zs) = H2 at k2 sm2 eW2 eF2
        have pz2 := Paired.imp' (fun _ _ => WaitW.keep k2) pz
        have wo2 : ∀ x ∈ ws', x.1.In H2 := fun x hx => (wo x (List.mem_append_left _ hx)).keep k2
        have inA : A.In H2 := hA.keep k2
        refine ⟨tpA, _, rfl, (k2 _ _ etA), rfl, _, _, rfl, _, _, rfl, rfl, ?_⟩
        -- is_built
        refine ⟨_, rfl, A, rfl, inA, fun _ H3 s3 => ⟨_, rfl, iteT (q _ (Same.trans sm2 s3))⟩, fun nA H3 s3 => ⟨_, rfl, iteF ?_⟩⟩
        have hko : (∃ x ∈ ws', x.1.Odd) ∨ ∃ B ∈ A.kids, B.Odd := by
          obtain ⟨x, hx, hox⟩ := ho
          rcases List.mem_append.mp hx with hx | hx
          · exact .inl ⟨x, hx, hox⟩
          · rw [List.mem_singleton.mp hx] at hox
            exact .inr ((WT.kid_odd hox).resolve_left nA)
        have sm3 := Same.trans sm2 s3
        have k3 := Same.tk s3
        replace inA := inA.keep k3
        replace pz2 := Paired.imp' (fun _ _ => WaitW.keep k3) pz2
        replace wo2 : ∀ x ∈ ws', x.1.In H3 := fun x hx => (wo2 x hx).keep k3
        replace eW2 := s3 _ _ eW2
        replace eF2 := s3 _ _ eF2
        refine ⟨_, rfl, _, 1, rfl, rfl, ?_⟩
        let base8 (y7 : Option V) (dd : Int) (d1 : Nat) : L2.St := [some Z.v, some (.ref W), some (.int ((m : Int) + 1)), some (.int dd), some (.ref Fd), some A.v, some (.int (d1 : Int)), y7]
        let stand (H' : Hp) (vs : List V) (ws : List (WT × Nat)) : Prop := Same H H' ∧ A.In H' ∧ Paired (WaitW K H') vs ws ∧ (∀ x ∈ ws, x.1.In H') ∧ H' W = some (.lst vs) ∧ ∃ kvs', H' Fd = some (.dK kvs') ∧ kvs'.length ≤ m + 1
        refine keepN (fun σ' H' => σ' = base8 y7 d d0 ∧ stand H' zs ws') (fun σ' H4 hM => ?_) (fun rest => ?_)
        · obtain ⟨rfl, st4⟩ := hM
          -- undo
          refine keep (fun σ' H' => ∃ d1 : Nat, σ' = base8 y7 d d1 ∧ stand H' zs ws') (fun σ' H5 hM => ?_) (fun rest => ?_)
          · obtain ⟨d1, rfl, st5⟩ := hM
            obtain ⟨sm5, inA5, pz5, wo5, eW5, kvs', eF5, ki5⟩ := st5
            refine ⟨_, rfl, _, rfl, _, _, rfl, ?_⟩
            refine ⟨_, rfl, A, rfl, inA5, nA, fun p H6 s6 hp => ?_⟩
            refine ⟨p, rfl, ⟨_, hp⟩, for_tup (K := K) (a := p) (xs := A.kids.map WT.v) (fun i σ' H' => ∃ y7 vs, σ' = base8 y7 (if ((d1 : Nat) : Int) > (d : Int) then ((d1 : Nat) : Int) else (d : Int)) d1 ∧ stand H' vs (ws' ++ (A.kids.take i).map fun B => (B, d1)) ∧ SqT K H' p (A.kids.map WT.v)) ?_ ?_ ?_ ?_⟩
            · have k6 := Same.tk s6
              refine ⟨y7, zs, rfl, ⟨Same.trans sm5 s6, inA5.keep k6, ?_, ?_, s6 _ _ eW5, kvs', s6 _ _ eF5, ki5⟩, hp⟩
              · rw [List.take_zero, List.map_nil, List.append_nil]
                exact Paired.imp' (fun _ _ => WaitW.keep k6) pz5
              · rw [List.take_zero, List.map_nil, List.append_nil]
                exact fun x hx => (wo5 x hx).keep k6
            · rintro i σ' H' _ ⟨_, _, _, _, h⟩
              exact h
            · rintro i x σ' H' hx ⟨y7', vs, rfl, ⟨sm6, inA6, pz6, wo6, eW6, kv6, eF6, ki6⟩, hp6⟩
              rw [List.getElem?_map] at hx
              obtain ⟨B, hB, rfl⟩ := Option.map_eq_some_iff.mp hx
              have mB : B ∈ A.kids := List.mem_of_getElem? hB
              refine ⟨_, rfl, .inl ⟨rfl, _, SqL.of eW6⟩, _, rfl, _, rfl, (by show 2 ≤ sizeLine; decide), fun tq nq => ?_⟩
              have k7 := tk_new (o := .tup [B.v, .int ((d1 : Nat) : Int)]) nq
              have s7 := same_new (o := .tup [B.v, .int ((d1 : Nat) : Int)]) nq
              have eW7 := s7 _ _ eW6
              have lvs : vs.length ≤ 210 := by
                have e := Paired.length pz6
                rw [List.length_append, List.length_map, List.length_take] at e
                have l2 := A.kids_len
                have l3 := sumW_len ws'
                omega
              refine ⟨W, _, _, rfl, rfl, eW7, small1000 (by omega), ?_⟩
              have k8 := TupKeep.trans k7 (tk_lst (o := .lst (vs ++ [.ref tq])) eW7)
              have sm7 := Same.trans sm6 s7
              refine ⟨_, vs ++ [.ref tq], rfl, ⟨same_upd sm7 nW, inA6.keep k8, ?_, ?_, upd_same, kv6, ?_, ki6⟩, seqT_upd eW7 (seqT s7 hp6)⟩
              · rw [List.take_add_one, hB, List.map_append, ← List.append_assoc]
                exact Paired.snoc' ⟨tq, rfl, tk_lst eW7 _ _ (SqT.of upd_same)⟩ (Paired.imp' (fun _ _ => WaitW.keep k8) pz6)
              · intro x hx
                rw [List.take_add_one, hB, List.map_append, ← List.append_assoc] at hx
                rcases List.mem_append.mp hx with hx | hx
                · exact (wo6 x hx).keep k8
                · rw [List.mem_singleton.mp hx]
                  exact (inA6.kid B mB).keep k8
              · rw [upd_ne nWF.symm]
                exact s7 _ _ eF6
            · rintro σ' H' ⟨y7', vs, rfl, ⟨sm6, inA6, pz6, wo6, eW6, kv6, eF6, ki6⟩, hp6⟩
              rw [List.length_map, List.take_length] at pz6 wo6
              have hc := A.kids_sum d1
              have cp := A.count_pos
              refine ⟨⟨W, Fd, vs, _, m + 1, max d d1, kv6, some A.v, some (.int ((d1 : Nat) : Int)), y7', ?_, sm6, nW, nF, eW6, pz6, wo6, eF6, ki6, ?_, ?_⟩, ?_⟩
              · have e1 : (if ((d1 : Nat) : Int) > (d : Int) then ((d1 : Nat) : Int) else (d : Int)) = ((max d d1 : Nat) : Int) := by split <;> omega
                rw [e1]
                rfl
              · rcases hko with ⟨x, hx, h⟩ | ⟨B, hB, h⟩
                · exact ⟨x, List.mem_append_left _ hx, h⟩
                · exact ⟨(B, d1), List.mem_append_right _ (List.mem_map.mpr ⟨B, hB, rfl⟩), h⟩
              · rw [sumW_app]
                omega
              · show 200 - ((m : Int) + 1).toNat < 200 - (m : Int).toNat
                omega
          · obtain ⟨sm4, inA4, r4⟩ := id st4
            obtain ⟨p, wd, rs, nd⟩ := (WT.node inA4).resolve_left nA
            refine ⟨_, rfl, p, _, 0, _, nd.v, rfl, nd.tup, atI_nat (j := 0) rfl, rfl, _, rfl, ite2 (fun c => ?_) (fun c => ?_)⟩
            · exact ⟨_, rfl, _, 1, rfl, rfl, rest _ _ ⟨d0 + 1, rfl, st4⟩⟩
            · exact rest _ _ ⟨d0, rfl, st4⟩
        · have st3 : stand H3 zs ws' := ⟨sm3, inA, pz2, wo2, eW2, kvs, eF2, by omega⟩
          obtain ⟨p, wd, rs, nd⟩ := (WT.node inA).resolve_left nA
          refine ⟨_, rfl, p, _, 0, _, nd.v, rfl, nd.tup, atI_nat (j := 0) rfl, rfl, _, rfl, ite2 (fun c => ?_) (fun c => rest _ _ ⟨rfl, st3⟩)⟩
          have ew : wd = Str.ofString "letter" := V.str.inj (of_decide_eq_true c)
          obtain ⟨x, ex⟩ := nd.lett ew
          have ht := nd.tup
          rw [ex] at ht
          refine ⟨_, rfl, _, rfl, p, _, 1, _, nd.v, rfl, ht, atI_nat (j := 1) rfl, Fd, _, rfl, DPut.k (k := Sum.inr x) eF2 (small1000 (by omega)), ?_⟩
          have k4 : TupKeep H3 (upd H3 Fd (.dK (putK kvs (Sum.inr x) (.bl true)))) := tk_by fun a u h _ n => by
            rw [upd_ne (fun z => by rw [z, eF2] at h; cases h; exact n _ rfl)]
            exact h
          refine rest _ _ ⟨rfl, same_upd sm3 nF, inA.keep k4, Paired.imp' (fun _ _ => WaitW.keep k4) pz2, fun x hx => (wo2 x hx).keep k4, ?_, _, upd_same, Nat.le_trans putK_len (by omega)⟩
          rw [upd_ne nWF]
          exact eW2
    · obtain ⟨v, e1, k, e2, e3⟩ := hc
      exact ⟨v, e1, k, e2, hh _ _ e3⟩
end
end Nv

set_option maxRecDepth 100000
set_option maxHeartbeats 8000000
namespace Nv
open PySem PySem.Spec PyProof.Rows L2 NvSet LamX
variable {K : PySem.W.Frag} [KFx K]
def ET.flaw (T : ET) : Option Str := if 24 < T.count then some (Str.ofString "many") else if 4 < T.deep then some (Str.ofString "deep") else none
theorem AT.flaw_er (A : AT) : A.flaw = A.er.flaw := by
  unfold AT.flaw ET.flaw
  rw [A.er_count, A.er_deep]
abbrev sNudged : Stmt := topS 46
theorem scNudged : FnScope ["term", "letter", "by"] ["term", "letter", "by"] (defScope sNudged) := ⟨rfl, rfl, rfl, by decide +kernel, rfl, by decide +kernel, by decide +kernel⟩
section
variable {P : Program} {w : World} {mg : Str → Option Value} {base : Heap} {CN C fN fI : Addr}
def spNeedW (K : PySem.W.Frag) [KFx K] (C : Addr) : Sp := fun vs H Q E => ∃ T : WT, vs = [T.v] ∧ T.In H ∧ T.count ≤ 200 ∧ T.Odd ∧ raisesT C H E (Str.ofString "form")
theorem ok_needW {f : Addr} {fd fdI : FuncData} (F : Fun K "need_term" "need_term" sNeedT f fd) (R : Errs K mg CN C fN fI) (GI : FnOk P w K mg base CX0 2 fI fdI ["self", "flaw"] (spBTm C)) (bI : Binds K fdI ["self", "flaw"] []) (GF : C8.Cal P w K mg base 4 "flaw_of" (spFlawW K) []) :
    FnOk P w K mg base (L2.CX P w) 5 f fd ["term"] (spNeedW K C) := by
  refine F.okX scNeedT (fun vs H Q E h => ?_) (fun cdv A outer s H vs Q E hr h => ?_)
  · obtain ⟨T, rfl, _⟩ := h
    rfl
  · obtain ⟨T, rfl, hin, hc, ho, q2⟩ := h
    refine ⟨_, pss_cons (ps_set (i := 1) scNeedT.nd rfl (.inl rfl) (C8.pe_c GF hr (by decide) (by rfl) (pa_cons (pv 0) pa_nil)))
      (pss_one (ps_if (pt_cmpR op_notN (pv 1) pe_non (nomark _)) (pss_one (ps_raise rfl (takes_of rfl rfl rfl rfl) (pmk_oex R.oex R.iC R.tI GI (hr.mono (by decide)) bI .nil pass0 (by rfl) R.gC (pa_cons (pv 1) pa_nil)))) pss_nil)), ?_⟩
    exact ⟨_, rfl, T, rfl, hin, hc, ho, fun H1 s1 => ⟨_, rfl, rfl, _, rfl, iteT ⟨_, rfl, raise_T (by decide +kernel) (q2.same s1)⟩⟩⟩
/-- need_term of a reckoning or of an odd thing -/
abbrev spNd (K : PySem.W.Frag) [KFx K] (C : Addr) : Sp := spOr (spNeedX C) (spNeedW K C)
def spTurned (K : PySem.W.Frag) [KFx K] (C : Addr) (n : Nat) : Sp := fun vs H Q E => (∃ (A : AT) (L : List Str), vs = [A.v] ∧ A.In H ∧ Fair A L ∧ A.flaw = none ∧ A.count ≤ n ∧ ∀ (R : AT) (H' : Hp), Same H H' → R.In H' → R.er = A.er.turn → Q R.v H') ∨ spNeedW K C vs H Q E
theorem ok_turned {f : Addr} {fd : FuncData} {n : Nat} (h4 : 4 ≤ n) (hn : n ≤ 200) (F : Fun K "turned" "turned" sTurned f fd) (GN : CalX P w K mg base 5 "need_term" (spNd K C) []) (GT : CalX P w K mg base 6 "told_of" (spTold C) []) (GU : C8.Cal P w K mg base (n + 2) "turn" (spTurn n) []) :
    FnOk P w K mg base (L2.CX P w) (n + 3) f fd ["term"] (spTurned K C n) := by
  refine F.okX scTurned (fun vs H Q E h => ?_) (fun cdv A outer s H vs Q E hr h => ?_)
  · rcases h with ⟨A, L, rfl, _⟩ | ⟨T, rfl, _⟩ <;> rfl
  · refine ⟨_, pss_cons (ps_expr (pe_cxE GN hr (by omega) (passes_call (takes_of rfl rfl rfl rfl) (fun _ _ _ _ z => z)) (by rfl) (pa_cons (pv 0) pa_nil)))
      (pss_one (ps_ret (pe_cxE GT hr (by omega) (passes_call (takes_of rfl rfl rfl rfl) (fun _ _ _ _ z => z)) (by rfl) (pa_cons (C8.pe_c GU hr (by omega) (by rfl) (pa_cons (pv 0) pa_nil)) pa_nil)))), ?_⟩
    rcases h with ⟨Z, L, rfl, hin, gd, hf, hc, q⟩ | ⟨T, rfl, hin, hc, ho, q⟩
    · refine ⟨_, rfl, .inl ⟨.ok Z, L, rfl, hin, gd, fun _ H1 s1 => ?_, fun x hx => ?_⟩⟩
      · refine ⟨_, rfl, Z, rfl, hin.keep (Same.tk s1), hc, hn, fun R H2 s2 iR eR => ?_⟩
        have okR : R.Ok := R.er_ok.mp (by rw [eR]; exact ET.turn_ok (Z.er_ok.mpr gd.ok))
        have cR : R.count = Z.count := by rw [← R.er_count, eR, ET.turn_count, Z.er_count]
        have lR : ∀ y ∈ R.lets, y ∈ L := fun y hy => gd.lets y (by
          rw [← R.er_lets, eR, ET.turn_lets, Z.er_lets] at hy
          exact hy)
        have fR : R.flaw = none := by
          rw [R.flaw_er, eR]
          rw [Z.flaw_er] at hf
          unfold ET.flaw at hf ⊢
          rw [ET.turn_count, ET.turn_deep]
          exact hf
        refine ⟨.ok R, L, rfl, iR, ⟨okR, by rw [cR]; exact gd.cnt, gd.few, lR⟩, fun _ H3 s3 => q R H3 (Same.trans (Same.trans s1 s2) s3) (iR.keep (Same.tk s3)) eR, fun x hx => ?_⟩
        have hx : R.flaw = some x := hx
        rw [fR] at hx
        cases hx
      · have hx : Z.flaw = some x := hx
        rw [hf] at hx
        cases hx
    · exact ⟨_, rfl, .inr ⟨T, rfl, hin, hc, ho, q⟩⟩
def spNudged (K : PySem.W.Frag) [KFx K] (C : Addr) (n : Nat) : Sp := fun vs H Q E => ∃ (v u : V) (x : Str), vs = [v, .str x, u] ∧ ((∃ (T U : AT) (L : List Str), v = T.v ∧ u = U.v ∧ T.In H ∧ U.In H ∧ Fair T L ∧ Fair U L ∧ T.flaw = none ∧ U.flaw = none ∧ T.count ≤ 9 ∧ U.count ≤ 3 ∧
    (∀ (R : AT) (H' : Hp), Same H H' → R.In H' → R.er = T.er.nudge x U.er → R.flaw = none → Q R.v H') ∧ (∀ y, (T.er.nudge x U.er).flaw = some y → raisesT C H E y)) ∨
  (∃ W : WT, v = W.v ∧ W.In H ∧ W.count ≤ 200 ∧ W.Odd ∧ raisesT C H E (Str.ofString "form")) ∨
  (∃ (T : AT) (L : List Str) (W : WT), v = T.v ∧ T.In H ∧ Fair T L ∧ T.flaw = none ∧ u = W.v ∧ W.In H ∧ W.count ≤ 200 ∧ W.Odd ∧ raisesT C H E (Str.ofString "form")))
theorem ok_nudged {f : Addr} {fd : FuncData} {n : Nat} {kws : List (Str × V)} (h9 : 9 ≤ n) (hn : n ≤ 200) (F : FunD K "nudged" "nudged" (defArgs sNudged) (defBody sNudged) (defScope sNudged) [] kws f fd) (GN : CalX P w K mg base 5 "need_term" (spNd K C) []) (GT : CalX P w K mg base 6 "told_of" (spTold C) []) (GU : C8.Cal P w K mg base (n + 2) "nudge" (spNudge n) []) :
    FnOk P w K mg base (L2.CX P w) (n + 3) f fd ["term", "letter", "by"] (spNudged K C n) := by
  refine F.ok scNudged (fun vs H Q E h => ?_) (fun cdv A outer s H vs Q E hr h => ?_)
  · obtain ⟨v, u, x, rfl, _⟩ := h
    rfl
  · obtain ⟨v, u, x, rfl, h⟩ := h
    refine ⟨_, pss_cons (ps_expr (pe_cxE GN hr (by omega) (passes_call (takes_of rfl rfl rfl rfl) (fun _ _ _ _ z => z)) (by rfl) (pa_cons (pv 0) pa_nil)))
      (pss_cons (ps_expr (pe_cxE GN hr (by omega) (passes_call (takes_of rfl rfl rfl rfl) (fun _ _ _ _ z => z)) (by rfl) (pa_cons (pv 2) pa_nil)))
      (pss_one (ps_ret (pe_cxE GT hr (by omega) (passes_call (takes_of rfl rfl rfl rfl) (fun _ _ _ _ z => z)) (by rfl) (pa_cons (C8.pe_c GU hr (by omega) (by rfl) (pa_cons (pv 0) (pa_cons (pv 1) (pa_cons (pv 2) pa_nil)))) pa_nil))))), ?_⟩
    have no : ∀ {Z : AT} {x : Str}, Z.flaw = none → (TH.ok Z).flaw = some x → False := fun {Z x} h1 h2 => by
      have h2 : Z.flaw = some x := h2
      rw [h1] at h2
      cases h2
    rcases h with ⟨T, U, L, rfl, rfl, iT, iU, fT, fU, nT, nU, cT, cU, q1, q2⟩ | ⟨W, rfl, iW, cW, oW, q⟩ | ⟨T, L, W, rfl, iT, fT, nT, rfl, iW, cW, oW, q⟩
    · refine ⟨_, rfl, .inl ⟨.ok T, L, rfl, iT, fT, fun _ H1 s1 => ?_, fun y hy => (no nT hy).elim⟩⟩
      refine ⟨_, rfl, .inl ⟨.ok U, L, rfl, iU.keep (Same.tk s1), fU, fun _ H2 s2 => ?_, fun y hy => (no nU hy).elim⟩⟩
      have s12 := Same.trans s1 s2
      refine ⟨_, rfl, _, rfl, _, rfl, T, U, x, rfl, iT.keep (Same.tk s12), iU.keep (Same.tk s12), by omega, hn, fun R H3 s3 iR eR => ?_⟩
      have okR : R.Ok := R.er_ok.mp (by rw [eR]; exact ET.nudge_ok (U.er_ok.mpr fU.ok) (T.er_ok.mpr fT.ok))
      have cR : R.count ≤ 200 := by
        have h := ET.nudge_count (x := x) (U := U.er) (by rw [U.er_count]; exact cU) T.er
        rw [← eR, R.er_count, T.er_count] at h
        have h81 : T.count * T.count ≤ 9 * 9 := Nat.mul_le_mul cT cT
        omega
      have lR : ∀ y ∈ R.lets, y ∈ L := by
        rw [← R.er_lets, eR]
        exact ET.nudge_lets (by rw [U.er_lets]; exact fU.lets) (by rw [T.er_lets]; exact fT.lets)
      refine ⟨.ok R, L, rfl, iR, ⟨okR, cR, fT.few, lR⟩, fun hf H4 s4 => q1 R H4 (Same.trans (Same.trans s12 s3) s4) (iR.keep (Same.tk s4)) eR hf, fun y hy => ?_⟩
      have hy : R.flaw = some y := hy
      rw [R.flaw_er, eR] at hy
      exact (q2 y hy).same (Same.trans s12 s3)
    · exact ⟨_, rfl, .inr ⟨W, rfl, iW, cW, oW, q⟩⟩
    · refine ⟨_, rfl, .inl ⟨.ok T, L, rfl, iT, fT, fun _ H1 s1 => ?_, fun y hy => (no nT hy).elim⟩⟩
      exact ⟨_, rfl, .inr ⟨W, rfl, iW.keep (Same.tk s1), cW, oW, q.same s1⟩⟩
end
end Nv

set_option maxRecDepth 100000
set_option maxHeartbeats 8000000
namespace Nv
open PySem PySem.Spec PyProof.Rows L2 NvSet LamX
variable {K : PySem.W.Frag} [KFx K]
/-! ### the law's odd things -/
def OddT (K : PySem.W.Frag) [KFx K] (H : Hp) (v : V) : Prop := ∃ T : WT, T.v = v ∧ T.In H ∧ T.count ≤ 5 ∧ T.Odd
theorem OddT.keep {H H' : Hp} (k : TupKeep H H') {v : V} (h : OddT K H v) : OddT K H' v := by
  obtain ⟨T, e, i, c, o⟩ := h
  exact ⟨T, e, i.keep k, c, o⟩
theorem OddT.of {H : Hp} {v : V} (h : NotBu K H v) : OddT K H v := ⟨.odd v, rfl, h, (by show 1 ≤ 5; decide), trivial⟩
theorem nb_let {H : Hp} {a : Addr} {y : V} (h : SqT K H a [.str "letter", y]) (n : NotLe y) : OddT K H (.ref a) :=
  .of (.at a (.str "letter") (.str "letter") [y] h (.str _) (by decide +kernel) (Nat.le_refl _) (by show 1 ≤ 900; decide) (.inr ⟨by decide +kernel, .inr ⟨y, rfl, .inr (.inl ⟨by decide +kernel, by decide +kernel, n⟩)⟩⟩))
theorem nb_sha {H : Hp} {a : Addr} {y : V} (h : SqT K H a [.str "share", y]) (n : NotSh K H y) : OddT K H (.ref a) :=
  .of (.at a (.str "share") (.str "share") [y] h (.str _) (by decide +kernel) (Nat.le_refl _) (by show 1 ≤ 900; decide) (.inr ⟨by decide +kernel, .inr ⟨y, rfl, .inl ⟨by decide +kernel, n⟩⟩⟩))
theorem nb_two {H : Hp} {a : Addr} {w : Str} {xs : List V} (h : SqT K H a (.str w :: xs)) (hw : twoD.any (fun z => z.eqv (.str w)) = true) (sw : SeqAt.shaped (.str w) = true) (h1 : 1 ≤ xs.length) (h9 : xs.length ≤ 900) (h2 : xs.length ≠ 2) : OddT K H (.ref a) :=
  .of (.at a (.str w) (.str w) xs h (.str _) sw h1 h9 (.inl ⟨hw, h2⟩))
theorem nb_many {H : Hp} {a : Addr} {w : Str} {xs : List V} (h : SqT K H a (.str w :: xs)) (hw : twoD.any (fun z => z.eqv (.str w)) = false) (sw : SeqAt.shaped (.str w) = true) (h1 : 2 ≤ xs.length) (h9 : xs.length ≤ 900) : OddT K H (.ref a) :=
  .of (.at a (.str w) (.str w) xs h (.str _) sw (by omega) h9 (.inr ⟨hw, .inl (by omega)⟩))
theorem nb_word {H : Hp} {a : Addr} {w : V} {d : PyData} {y : V} (h : SqT K H a [w, y]) (hd : WordV K H w d) (sd : SeqAt.shaped d = true) (e0 : twoD.any (fun z => z.eqv d) = false) (e1 : d.eqv (.str "share") = false) (e2 : d.eqv (.str "letter") = false) (e3 : d.eqv (.str "undo") = false) : OddT K H (.ref a) :=
  .of (.at a w d [y] h hd sd (Nat.le_refl _) (by show 1 ≤ 900; decide) (.inr ⟨e0, .inr ⟨y, rfl, .inr (.inr ⟨e1, e2, e3⟩)⟩⟩))
theorem nb_short {H : Hp} {a : Addr} {xs : List V} (h : SqT K H a xs) (l : xs.length < 2) : OddT K H (.ref a) := .of (.short a xs h l)
/-- one more of them, in a new tuple -/
theorem odd_step {H : Hp} {vs : List V} {a : Addr} {xs : List V} (hP : ∀ v ∈ vs, OddT K H v) (na : H a = none) (h : OddT K (upd H a (.tup xs)) (.ref a)) : ∀ v ∈ vs ++ [.ref a], OddT K (upd H a (.tup xs)) v := fun v hv => by
  rcases List.mem_append.mp hv with z | z
  · exact (hP v z).keep (tk_new na)
  · rw [List.mem_singleton.mp z]; exact h
theorem odd_keep {H H' : Hp} {vs : List V} (k : TupKeep H H') (hP : ∀ v ∈ vs, OddT K H v) : ∀ v ∈ vs, OddT K H' v := fun v hv => (hP v hv).keep k
theorem odd_more {H : Hp} {vs us : List V} (h1 : ∀ v ∈ vs, OddT K H v) (h2 : ∀ v ∈ us, OddT K H v) : ∀ v ∈ vs ++ us, OddT K H v := fun v hv => (List.mem_append.mp hv).elim (h1 v) (h2 v)
abbrev sOdd : Stmt := topS 68
theorem scOdd : FnScope ["_law_bag_here", "_law_some", "_law_leaf_here"] ["_law_bag_here"] (defScope sOdd) := ⟨rfl, rfl, rfl, by decide +kernel, rfl, by decide +kernel, by decide +kernel⟩
def spOddL (K : PySem.W.Frag) [KFx K] : Sp := fun vs H Q _ => ∃ l b : Addr, vs = [.ref b] ∧ Bag l b H ∧ ∀ (v : V) (H' : Hp), OddT K H' v → Bag l b H' → Grow b H H' → Q v H'
theorem small_xx : Small (Str.ofString "x") := ⟨by decide +kernel, by decide +kernel, by decide +kernel⟩
section
variable {P : Program} {w : World} {mg : Str → Option Value} {base : Heap}
theorem ok_odd {f : Addr} {fd : FuncData} (F : Fun K "_law_odd" "_law_odd" sOdd f fd) (GO : C8.Cal P w K mg base 2 "_law_of" spOf []) : FnOk P w K mg base CX0 3 f fd ["_law_bag_here"] (spOddL K) := by
  refine F.ok scOdd (fun vs H Q E h => ?_) (fun cdv A outer s H vs Q E hr h => ?_)
  · obtain ⟨l, b, rfl, _⟩ := h
    rfl
  · obtain ⟨l, b, rfl, B, q⟩ := h
    refine ⟨_, pss_cons (ps_set (i := 1) scOdd.nd rfl (.inl rfl) (pe_lst (pa_cons (pe_tup pa_nil) (pa_cons pe_non (pa_cons pe_int (pa_cons pe_str (pa_cons (pe_tup (pa_cons pe_str pa_nil)) (pa_cons (pe_tup (pa_cons pe_str pa_nil))
        (pa_cons (pe_tup (pa_cons pe_str (pa_cons pe_str pa_nil))) (pa_cons (pe_tup (pa_cons pe_str (pa_cons pe_str pa_nil))) (pa_cons (pe_tup (pa_cons pe_str (pa_cons pe_str pa_nil))) (pa_cons (pe_tup (pa_cons pe_str (pa_cons pe_str pa_nil))) pa_nil))))))))))))
      (pss_cons (ps_set (i := 1) scOdd.nd rfl (.inl rfl) (pe_op op_cat (pv 1) (pe_lst (pa_cons (pe_tup (pa_cons pe_str (pa_cons pe_int pa_nil))) (pa_cons (pe_tup (pa_cons pe_str (pa_cons pe_str (pa_cons pe_str pa_nil))))
        (pa_cons (pe_tup (pa_cons pe_str (pa_cons (pe_tup (pa_cons pe_int (pa_cons pe_int pa_nil))) pa_nil))) (pa_cons (pe_tup (pa_cons pe_str (pa_cons (pe_tup (pa_cons pe_int (pa_cons pe_int pa_nil))) pa_nil)))
        (pa_cons (pe_tup (pa_cons pe_str (pa_cons (pe_tup (pa_cons pe_int (pa_cons (pe_un un_neg pe_int) pa_nil))) pa_nil))) (pa_cons (pe_tup (pa_cons pe_str (pa_cons pe_int pa_nil))) pa_nil)))))))))
      (pss_cons (ps_set (i := 1) scOdd.nd rfl (.inl rfl) (pe_op op_cat (pv 1) (pe_lst (pa_cons (pe_tup (pa_cons pe_str (pa_cons (pe_tup (pa_cons pe_bl (pa_cons pe_int pa_nil))) pa_nil))) (pa_cons (pe_tup (pa_cons pe_str (pa_cons (pe_tup (pa_cons pe_int (pa_cons pe_int pa_nil))) pa_nil)))
        (pa_cons (pe_tup (pa_cons pe_str (pa_cons (pe_tup (pa_cons pe_int (pa_cons pe_int pa_nil))) pa_nil))) pa_nil))))))
      (pss_cons (ps_set (i := 2) scOdd.nd rfl (.inl rfl) (pe_tup (pa_cons pe_str (pa_cons pe_str pa_nil))))
      (pss_cons (ps_set (i := 1) scOdd.nd rfl (.inl rfl) (pe_op op_cat (pv 1) (pe_lst (pa_cons (pe_tup (pa_cons pe_str (pa_cons (pv 2) pa_nil))) (pa_cons (pe_tup (pa_cons pe_str (pa_cons (pv 2) (pa_cons (pv 2) (pa_cons (pv 2) pa_nil)))))
        (pa_cons (pe_tup (pa_cons pe_str pa_nil)) (pa_cons (pe_tup (pa_cons pe_str (pa_cons (pv 2) (pa_cons (pv 2) pa_nil)))) (pa_cons (pe_tup (pa_cons pe_str (pa_cons (pv 2) pa_nil))) (pa_cons (pe_tup (pa_cons pe_str (pa_cons (pv 2) (pa_cons pe_int pa_nil)))) pa_nil)))))))))
      (pss_cons (ps_set (i := 1) scOdd.nd rfl (.inl rfl) (pe_op op_cat (pv 1) (pe_lst (pa_cons (pe_tup (pa_cons pe_str (pa_cons (pv 2) (pa_cons (pv 2) pa_nil)))) (pa_cons (pe_tup (pa_cons pe_str (pa_cons pe_str pa_nil))) (pa_cons (pe_tup (pa_cons pe_str (pa_cons pe_str pa_nil)))
        (pa_cons (pe_tup (pa_cons pe_str (pa_cons (pv 2) pa_nil))) (pa_cons (pe_tup (pa_cons pe_non (pa_cons (pv 2) pa_nil))) (pa_cons (pe_tup (pa_cons pe_str (pa_cons pe_non pa_nil))) (pa_cons (pe_tup (pa_cons (pv 2) (pa_cons (pv 2) pa_nil))) pa_nil))))))))))
      (pss_one (ps_ret (C8.pe_c GO hr (by decide) (by rfl) (pa_cons (pv 0) (pa_cons (pv 1) pa_nil)))))))))), ?_⟩
    have P0 : ∀ v ∈ ([] : List V), OddT K H v := fun v h => nomatch h
    have S0 : Same H H := fun _ _ h => h
    refine ⟨(by show 0 ≤ sizeLine; decide), fun a0 n0 => ?_⟩
    have S1 := Same.trans S0 (same_new (o := .tup []) n0)
    have Q1 := odd_step (a := a0) (xs := []) P0 n0 (nb_short (SqT.of upd_same) (Nat.le_of_ble_eq_true rfl))
    have Q2 := odd_more Q1 (us := [.non]) (fun v hv => by rw [List.mem_singleton.mp hv]; exact .of .non)
    have S2 := S1
    have Q3 := odd_more Q2 (us := [.int 5]) (fun v hv => by rw [List.mem_singleton.mp hv]; exact .of (.int 5))
    have S3 := S2
    have Q4 := odd_more Q3 (us := [.str "x"]) (fun v hv => by rw [List.mem_singleton.mp hv]; exact .of (.str _))
    have S4 := S3
    refine ⟨(by show 1 ≤ sizeLine; decide), fun a4 n4 => ?_⟩
    have S5 := Same.trans S4 (same_new (o := .tup [.str "x"]) n4)
    have Q5 := odd_step (a := a4) (xs := [.str "x"]) Q4 n4 (nb_short (SqT.of upd_same) (Nat.le_of_ble_eq_true rfl))
    refine ⟨(by show 1 ≤ sizeLine; decide), fun a5 n5 => ?_⟩
    have S6 := Same.trans S5 (same_new (o := .tup [.str "letter"]) n5)
    have Q6 := odd_step (a := a5) (xs := [.str "letter"]) Q5 n5 (nb_short (SqT.of upd_same) (Nat.le_of_ble_eq_true rfl))
    refine ⟨(by show 2 ≤ sizeLine; decide), fun a6 n6 => ?_⟩
    have S7 := Same.trans S6 (same_new (o := .tup [.str "letter", .str ""]) n6)
    have Q7 := odd_step (a := a6) (xs := [.str "letter", .str ""]) Q6 n6 (nb_let (SqT.of upd_same) (.len _ (by decide +kernel) (.inl (by decide +kernel))))
    refine ⟨(by show 2 ≤ sizeLine; decide), fun a7 n7 => ?_⟩
    have S8 := Same.trans S7 (same_new (o := .tup [.str "letter", .str "X"]) n7)
    have Q8 := odd_step (a := a7) (xs := [.str "letter", .str "X"]) Q7 n7 (nb_let (SqT.of upd_same) (.sign _ 88 (by decide +kernel) (by decide +kernel) (by decide +kernel) (by decide +kernel)))
    refine ⟨(by show 2 ≤ sizeLine; decide), fun a8 n8 => ?_⟩
    have S9 := Same.trans S8 (same_new (o := .tup [.str "letter", .str "abcdefg"]) n8)
    have Q9 := odd_step (a := a8) (xs := [.str "letter", .str "abcdefg"]) Q8 n8 (nb_let (SqT.of upd_same) (.len _ (by decide +kernel) (.inr (by decide +kernel))))
    refine ⟨(by show 2 ≤ sizeLine; decide), fun a9 n9 => ?_⟩
    have S10 := Same.trans S9 (same_new (o := .tup [.str "letter", .str "a1"]) n9)
    have Q10 := odd_step (a := a9) (xs := [.str "letter", .str "a1"]) Q9 n9 (nb_let (SqT.of upd_same) (.sign _ 49 (by decide +kernel) (by decide +kernel) (by decide +kernel) (by decide +kernel)))
    refine ⟨(by show 10 ≤ sizeLine; decide), fun o0 no0 => ?_⟩
    have R0 : ∀ v ∈ ([.ref a0, .non, .int 5, .str "x", .ref a4, .ref a5, .ref a6, .ref a7, .ref a8, .ref a9] : List V), OddT K (upd (upd (upd (upd (upd (upd (upd H a0 (.tup [])) a4 (.tup [.str "x"])) a5 (.tup [.str "letter"])) a6 (.tup [.str "letter", .str ""])) a7 (.tup [.str "letter", .str "X"])) a8 (.tup [.str "letter", .str "abcdefg"])) a9 (.tup [.str "letter", .str "a1"])) v := Q10
    have S11 := Same.trans S10 (same_new (o := .lst [.ref a0, .non, .int 5, .str "x", .ref a4, .ref a5, .ref a6, .ref a7, .ref a8, .ref a9]) no0)
    have R0 := odd_keep (tk_new (o := .lst [.ref a0, .non, .int 5, .str "x", .ref a4, .ref a5, .ref a6, .ref a7, .ref a8, .ref a9]) no0) R0
    have e0 : (upd (upd (upd (upd (upd (upd (upd (upd H a0 (.tup [])) a4 (.tup [.str "x"])) a5 (.tup [.str "letter"])) a6 (.tup [.str "letter", .str ""])) a7 (.tup [.str "letter", .str "X"])) a8 (.tup [.str "letter", .str "abcdefg"])) a9 (.tup [.str "letter", .str "a1"])) o0 (.lst [.ref a0, .non, .int 5, .str "x", .ref a4, .ref a5, .ref a6, .ref a7, .ref a8, .ref a9])) o0 = some (.lst [.ref a0, .non, .int 5, .str "x", .ref a4, .ref a5, .ref a6, .ref a7, .ref a8, .ref a9]) := upd_same
    have g0 : ([.ref a0, .non, .int 5, .str "x", .ref a4, .ref a5, .ref a6, .ref a7, .ref a8, .ref a9] : List V).length = 10 := rfl
    generalize ([.ref a0, .non, .int 5, .str "x", .ref a4, .ref a5, .ref a6, .ref a7, .ref a8, .ref a9] : List V) = ys0 at *
    generalize (upd (upd (upd (upd (upd (upd (upd (upd H a0 (.tup [])) a4 (.tup [.str "x"])) a5 (.tup [.str "letter"])) a6 (.tup [.str "letter", .str ""])) a7 (.tup [.str "letter", .str "X"])) a8 (.tup [.str "letter", .str "abcdefg"])) a9 (.tup [.str "letter", .str "a1"])) o0 (.lst ys0)) = K0 at *
    refine ⟨_, rfl, ?_⟩
    have P1z : ∀ v ∈ ([] : List V), OddT K K0 v := fun v h => nomatch h
    have Y11 : Same K0 K0 := fun _ _ h => h
    refine ⟨(by show 2 ≤ sizeLine; decide), fun a11 n11 => ?_⟩
    have S12 := Same.trans S11 (same_new (o := .tup [.str "letter", .int 1]) n11)
    have Y12x := Same.trans Y11 (same_new (o := .tup [.str "letter", .int 1]) n11)
    have Q12 := odd_step (a := a11) (xs := [.str "letter", .int 1]) P1z n11 (nb_let (SqT.of upd_same) (.int 1))
    refine ⟨(by show 3 ≤ sizeLine; decide), fun a12 n12 => ?_⟩
    have S13 := Same.trans S12 (same_new (o := .tup [.str "letter", .str "x", .str "y"]) n12)
    have Y13x := Same.trans Y12x (same_new (o := .tup [.str "letter", .str "x", .str "y"]) n12)
    have Q13 := odd_step (a := a12) (xs := [.str "letter", .str "x", .str "y"]) Q12 n12 (nb_many (SqT.of upd_same) (by decide +kernel) (by decide +kernel) (Nat.le_of_ble_eq_true rfl) (Nat.le_of_ble_eq_true rfl))
    refine ⟨(by show 2 ≤ sizeLine; decide), fun a13 n13 => ?_⟩
    have S14 := Same.trans S13 (same_new (o := .tup [.int 2, .int 4]) n13)
    have Y14x := Same.trans Y13x (same_new (o := .tup [.int 2, .int 4]) n13)
    have Q14 := odd_keep (tk_new (o := .tup [.int 2, .int 4]) n13) Q13
    have I14 : (upd (upd (upd K0 a11 (.tup [.str "letter", .int 1])) a12 (.tup [.str "letter", .str "x", .str "y"])) a13 (.tup [.int 2, .int 4])) a13 = some (.tup [.int 2, .int 4]) := upd_same
    refine ⟨(by show 2 ≤ sizeLine; decide), fun a14 n14 => ?_⟩
    have S15 := Same.trans S14 (same_new (o := .tup [.str "share", .ref a13]) n14)
    have Y15x := Same.trans Y14x (same_new (o := .tup [.str "share", .ref a13]) n14)
    have Q15 := odd_step (a := a14) (xs := [.str "share", .ref a13]) Q14 n14 (nb_sha (SqT.of upd_same) (.pair a13 (2) (4) (SqT.of (by rw [upd_ne (ne_of_none I14 n14)]; exact I14)) (by decide) (by decide) (.inr (by decide))))
    refine ⟨(by show 2 ≤ sizeLine; decide), fun a15 n15 => ?_⟩
    have S16 := Same.trans S15 (same_new (o := .tup [.int 1, .int 0]) n15)
    have Y16x := Same.trans Y15x (same_new (o := .tup [.int 1, .int 0]) n15)
    have Q16 := odd_keep (tk_new (o := .tup [.int 1, .int 0]) n15) Q15
    have I16 : (upd (upd (upd (upd (upd K0 a11 (.tup [.str "letter", .int 1])) a12 (.tup [.str "letter", .str "x", .str "y"])) a13 (.tup [.int 2, .int 4])) a14 (.tup [.str "share", .ref a13])) a15 (.tup [.int 1, .int 0])) a15 = some (.tup [.int 1, .int 0]) := upd_same
    refine ⟨(by show 2 ≤ sizeLine; decide), fun a16 n16 => ?_⟩
    have S17 := Same.trans S16 (same_new (o := .tup [.str "share", .ref a15]) n16)
    have Y17x := Same.trans Y16x (same_new (o := .tup [.str "share", .ref a15]) n16)
    have Q17 := odd_step (a := a16) (xs := [.str "share", .ref a15]) Q16 n16 (nb_sha (SqT.of upd_same) (.pair a15 (1) (0) (SqT.of (by rw [upd_ne (ne_of_none I16 n16)]; exact I16)) (by decide) (by decide) (.inl (by decide))))
    refine ⟨2, rfl, (by show 2 ≤ sizeLine; decide), fun a17 n17 => ?_⟩
    have S18 := Same.trans S17 (same_new (o := .tup [.int 1, .int (-2)]) n17)
    have Y18x := Same.trans Y17x (same_new (o := .tup [.int 1, .int (-2)]) n17)
    have Q18 := odd_keep (tk_new (o := .tup [.int 1, .int (-2)]) n17) Q17
    have I18 : (upd (upd (upd (upd (upd (upd (upd K0 a11 (.tup [.str "letter", .int 1])) a12 (.tup [.str "letter", .str "x", .str "y"])) a13 (.tup [.int 2, .int 4])) a14 (.tup [.str "share", .ref a13])) a15 (.tup [.int 1, .int 0])) a16 (.tup [.str "share", .ref a15])) a17 (.tup [.int 1, .int (-2)])) a17 = some (.tup [.int 1, .int (-2)]) := upd_same
    refine ⟨(by show 2 ≤ sizeLine; decide), fun a18 n18 => ?_⟩
    have S19 := Same.trans S18 (same_new (o := .tup [.str "share", .ref a17]) n18)
    have Y19x := Same.trans Y18x (same_new (o := .tup [.str "share", .ref a17]) n18)
    have Q19 := odd_step (a := a18) (xs := [.str "share", .ref a17]) Q18 n18 (nb_sha (SqT.of upd_same) (.pair a17 (1) (-2) (SqT.of (by rw [upd_ne (ne_of_none I18 n18)]; exact I18)) (by decide) (by decide) (.inl (by decide))))
    refine ⟨(by show 2 ≤ sizeLine; decide), fun a19 n19 => ?_⟩
    have S20 := Same.trans S19 (same_new (o := .tup [.str "share", .int 1]) n19)
    have Y20x := Same.trans Y19x (same_new (o := .tup [.str "share", .int 1]) n19)
    have Q20 := odd_step (a := a19) (xs := [.str "share", .int 1]) Q19 n19 (nb_sha (SqT.of upd_same) (.int 1))
    refine ⟨(by show 6 ≤ sizeLine; decide), fun o1 no1 => ?_⟩
    have R1 : ∀ v ∈ ([.ref a11, .ref a12, .ref a14, .ref a16, .ref a18, .ref a19] : List V), OddT K (upd (upd (upd (upd (upd (upd (upd (upd (upd K0 a11 (.tup [.str "letter", .int 1])) a12 (.tup [.str "letter", .str "x", .str "y"])) a13 (.tup [.int 2, .int 4])) a14 (.tup [.str "share", .ref a13])) a15 (.tup [.int 1, .int 0])) a16 (.tup [.str "share", .ref a15])) a17 (.tup [.int 1, .int (-2)])) a18 (.tup [.str "share", .ref a17])) a19 (.tup [.str "share", .int 1])) v := Q20
    have S21 := Same.trans S20 (same_new (o := .lst [.ref a11, .ref a12, .ref a14, .ref a16, .ref a18, .ref a19]) no1)
    have R1 := odd_keep (tk_new (o := .lst [.ref a11, .ref a12, .ref a14, .ref a16, .ref a18, .ref a19]) no1) R1
    have e1 : (upd (upd (upd (upd (upd (upd (upd (upd (upd (upd K0 a11 (.tup [.str "letter", .int 1])) a12 (.tup [.str "letter", .str "x", .str "y"])) a13 (.tup [.int 2, .int 4])) a14 (.tup [.str "share", .ref a13])) a15 (.tup [.int 1, .int 0])) a16 (.tup [.str "share", .ref a15])) a17 (.tup [.int 1, .int (-2)])) a18 (.tup [.str "share", .ref a17])) a19 (.tup [.str "share", .int 1])) o1 (.lst [.ref a11, .ref a12, .ref a14, .ref a16, .ref a18, .ref a19])) o1 = some (.lst [.ref a11, .ref a12, .ref a14, .ref a16, .ref a18, .ref a19]) := upd_same
    have Z1 := Same.trans Y20x (same_new (o := .lst [.ref a11, .ref a12, .ref a14, .ref a16, .ref a18, .ref a19]) no1)
    have W1 := Z1 _ _ e0
    have V1 := odd_keep (Same.tk Z1) R0
    refine ⟨o0, o1, ys0, _, rfl, rfl, W1, e1, (by show (ys0).length + 6 ≤ sizeLine; rw [g0, sizeLine_eq]; decide), fun c1 nc1 => ?_⟩
    have S22 := Same.trans S21 (same_new (o := .lst (ys0 ++ [.ref a11, .ref a12, .ref a14, .ref a16, .ref a18, .ref a19])) nc1)
    have T1 := odd_keep (tk_new (o := .lst (ys0 ++ [.ref a11, .ref a12, .ref a14, .ref a16, .ref a18, .ref a19])) nc1) (odd_more V1 R1)
    have f1 : (upd (upd (upd (upd (upd (upd (upd (upd (upd (upd (upd K0 a11 (.tup [.str "letter", .int 1])) a12 (.tup [.str "letter", .str "x", .str "y"])) a13 (.tup [.int 2, .int 4])) a14 (.tup [.str "share", .ref a13])) a15 (.tup [.int 1, .int 0])) a16 (.tup [.str "share", .ref a15])) a17 (.tup [.int 1, .int (-2)])) a18 (.tup [.str "share", .ref a17])) a19 (.tup [.str "share", .int 1])) o1 (.lst [.ref a11, .ref a12, .ref a14, .ref a16, .ref a18, .ref a19])) c1 (.lst (ys0 ++ [.ref a11, .ref a12, .ref a14, .ref a16, .ref a18, .ref a19]))) c1 = some (.lst (ys0 ++ [.ref a11, .ref a12, .ref a14, .ref a16, .ref a18, .ref a19])) := upd_same
    have g1 : (ys0 ++ ([.ref a11, .ref a12, .ref a14, .ref a16, .ref a18, .ref a19] : List V)).length = 16 := by rw [List.length_append, g0]; rfl
    have N1 : H c1 = none := Same.free S21 nc1
    generalize (ys0 ++ ([.ref a11, .ref a12, .ref a14, .ref a16, .ref a18, .ref a19] : List V)) = ys1 at *
    generalize upd (upd (upd (upd (upd (upd (upd (upd (upd (upd (upd K0 a11 (.tup [.str "letter", .int 1])) a12 (.tup [.str "letter", .str "x", .str "y"])) a13 (.tup [.int 2, .int 4])) a14 (.tup [.str "share", .ref a13])) a15 (.tup [.int 1, .int 0])) a16 (.tup [.str "share", .ref a15])) a17 (.tup [.int 1, .int (-2)])) a18 (.tup [.str "share", .ref a17])) a19 (.tup [.str "share", .int 1])) o1 (.lst [.ref a11, .ref a12, .ref a14, .ref a16, .ref a18, .ref a19])) c1 (.lst ys1) = K1 at *
    refine ⟨_, rfl, ?_⟩
    have P2z : ∀ v ∈ ([] : List V), OddT K K1 v := fun v h => nomatch h
    have Y22 : Same K1 K1 := fun _ _ h => h
    refine ⟨(by show 2 ≤ sizeLine; decide), fun a22 n22 => ?_⟩
    have S23 := Same.trans S22 (same_new (o := .tup [.bl true, .int 1]) n22)
    have Y23x := Same.trans Y22 (same_new (o := .tup [.bl true, .int 1]) n22)
    have Q23 := odd_keep (tk_new (o := .tup [.bl true, .int 1]) n22) P2z
    have I23 : (upd K1 a22 (.tup [.bl true, .int 1])) a22 = some (.tup [.bl true, .int 1]) := upd_same
    refine ⟨(by show 2 ≤ sizeLine; decide), fun a23 n23 => ?_⟩
    have S24 := Same.trans S23 (same_new (o := .tup [.str "share", .ref a22]) n23)
    have Y24x := Same.trans Y23x (same_new (o := .tup [.str "share", .ref a22]) n23)
    have Q24 := odd_step (a := a23) (xs := [.str "share", .ref a22]) Q23 n23 (nb_sha (SqT.of upd_same) (.bool a22 true 1 (SqT.of (by rw [upd_ne (ne_of_none I23 n23)]; exact I23))))
    refine ⟨(by show 2 ≤ sizeLine; decide), fun a24 n24 => ?_⟩
    have S25 := Same.trans S24 (same_new (o := .tup [.int 3, .int 0]) n24)
    have Y25x := Same.trans Y24x (same_new (o := .tup [.int 3, .int 0]) n24)
    have Q25 := odd_keep (tk_new (o := .tup [.int 3, .int 0]) n24) Q24
    have I25 : (upd (upd (upd K1 a22 (.tup [.bl true, .int 1])) a23 (.tup [.str "share", .ref a22])) a24 (.tup [.int 3, .int 0])) a24 = some (.tup [.int 3, .int 0]) := upd_same
    refine ⟨(by show 2 ≤ sizeLine; decide), fun a25 n25 => ?_⟩
    have S26 := Same.trans S25 (same_new (o := .tup [.str "share", .ref a24]) n25)
    have Y26x := Same.trans Y25x (same_new (o := .tup [.str "share", .ref a24]) n25)
    have Q26 := odd_step (a := a25) (xs := [.str "share", .ref a24]) Q25 n25 (nb_sha (SqT.of upd_same) (.pair a24 (3) (0) (SqT.of (by rw [upd_ne (ne_of_none I25 n25)]; exact I25)) (by decide) (by decide) (.inl (by decide))))
    refine ⟨(by show 2 ≤ sizeLine; decide), fun a26 n26 => ?_⟩
    have S27 := Same.trans S26 (same_new (o := .tup [.int 6, .int 4]) n26)
    have Y27x := Same.trans Y26x (same_new (o := .tup [.int 6, .int 4]) n26)
    have Q27 := odd_keep (tk_new (o := .tup [.int 6, .int 4]) n26) Q26
    have I27 : (upd (upd (upd (upd (upd K1 a22 (.tup [.bl true, .int 1])) a23 (.tup [.str "share", .ref a22])) a24 (.tup [.int 3, .int 0])) a25 (.tup [.str "share", .ref a24])) a26 (.tup [.int 6, .int 4])) a26 = some (.tup [.int 6, .int 4]) := upd_same
    refine ⟨(by show 2 ≤ sizeLine; decide), fun a27 n27 => ?_⟩
    have S28 := Same.trans S27 (same_new (o := .tup [.str "share", .ref a26]) n27)
    have Y28x := Same.trans Y27x (same_new (o := .tup [.str "share", .ref a26]) n27)
    have Q28 := odd_step (a := a27) (xs := [.str "share", .ref a26]) Q27 n27 (nb_sha (SqT.of upd_same) (.pair a26 (6) (4) (SqT.of (by rw [upd_ne (ne_of_none I27 n27)]; exact I27)) (by decide) (by decide) (.inr (by decide))))
    refine ⟨(by show 3 ≤ sizeLine; decide), fun o2 no2 => ?_⟩
    have R2 : ∀ v ∈ ([.ref a23, .ref a25, .ref a27] : List V), OddT K (upd (upd (upd (upd (upd (upd K1 a22 (.tup [.bl true, .int 1])) a23 (.tup [.str "share", .ref a22])) a24 (.tup [.int 3, .int 0])) a25 (.tup [.str "share", .ref a24])) a26 (.tup [.int 6, .int 4])) a27 (.tup [.str "share", .ref a26])) v := Q28
    have S29 := Same.trans S28 (same_new (o := .lst [.ref a23, .ref a25, .ref a27]) no2)
    have R2 := odd_keep (tk_new (o := .lst [.ref a23, .ref a25, .ref a27]) no2) R2
    have e2 : (upd (upd (upd (upd (upd (upd (upd K1 a22 (.tup [.bl true, .int 1])) a23 (.tup [.str "share", .ref a22])) a24 (.tup [.int 3, .int 0])) a25 (.tup [.str "share", .ref a24])) a26 (.tup [.int 6, .int 4])) a27 (.tup [.str "share", .ref a26])) o2 (.lst [.ref a23, .ref a25, .ref a27])) o2 = some (.lst [.ref a23, .ref a25, .ref a27]) := upd_same
    have Z2 := Same.trans Y28x (same_new (o := .lst [.ref a23, .ref a25, .ref a27]) no2)
    have W2 := Z2 _ _ f1
    have V2 := odd_keep (Same.tk Z2) T1
    refine ⟨c1, o2, ys1, _, rfl, rfl, W2, e2, (by show (ys1).length + 3 ≤ sizeLine; rw [g1, sizeLine_eq]; decide), fun c2 nc2 => ?_⟩
    have S30 := Same.trans S29 (same_new (o := .lst (ys1 ++ [.ref a23, .ref a25, .ref a27])) nc2)
    have T2 := odd_keep (tk_new (o := .lst (ys1 ++ [.ref a23, .ref a25, .ref a27])) nc2) (odd_more V2 R2)
    have f2 : (upd (upd (upd (upd (upd (upd (upd (upd K1 a22 (.tup [.bl true, .int 1])) a23 (.tup [.str "share", .ref a22])) a24 (.tup [.int 3, .int 0])) a25 (.tup [.str "share", .ref a24])) a26 (.tup [.int 6, .int 4])) a27 (.tup [.str "share", .ref a26])) o2 (.lst [.ref a23, .ref a25, .ref a27])) c2 (.lst (ys1 ++ [.ref a23, .ref a25, .ref a27]))) c2 = some (.lst (ys1 ++ [.ref a23, .ref a25, .ref a27])) := upd_same
    have g2 : (ys1 ++ ([.ref a23, .ref a25, .ref a27] : List V)).length = 19 := by rw [List.length_append, g1]; rfl
    have N2 : H c2 = none := Same.free S29 nc2
    generalize (ys1 ++ ([.ref a23, .ref a25, .ref a27] : List V)) = ys2 at *
    generalize upd (upd (upd (upd (upd (upd (upd (upd K1 a22 (.tup [.bl true, .int 1])) a23 (.tup [.str "share", .ref a22])) a24 (.tup [.int 3, .int 0])) a25 (.tup [.str "share", .ref a24])) a26 (.tup [.int 6, .int 4])) a27 (.tup [.str "share", .ref a26])) o2 (.lst [.ref a23, .ref a25, .ref a27])) c2 (.lst ys2) = K2 at *
    refine ⟨(by show 2 ≤ sizeLine; decide), fun a30 n30 => ?_⟩
    have S31 := Same.trans S30 (same_new (o := .tup [.str "letter", .str "x"]) n30)
    have fl := (same_new (o := .tup [.str "letter", .str "x"]) n30) _ _ f2
    have Tl := odd_keep (tk_new (o := .tup [.str "letter", .str "x"]) n30) T2
    have ll : (upd K2 a30 (.tup [.str "letter", .str "x"])) a30 = some (.tup [.str "letter", .str "x"]) := upd_same
    generalize upd K2 a30 (.tup [.str "letter", .str "x"]) = Kl at *
    refine ⟨_, rfl, ?_⟩
    have P3z : ∀ v ∈ ([] : List V), OddT K Kl v := fun v h => nomatch h
    have Y31 : Same Kl Kl := fun _ _ h => h
    refine ⟨_, rfl, (by show 2 ≤ sizeLine; decide), fun a31 n31 => ?_⟩
    have S32 := Same.trans S31 (same_new (o := .tup [.str "plus", .ref a30]) n31)
    have Y32x := Same.trans Y31 (same_new (o := .tup [.str "plus", .ref a30]) n31)
    have E32 : TupKeep Kl (upd Kl a31 (.tup [.str "plus", .ref a30])) := tk_new n31
    have Q32 := odd_step (a := a31) (xs := [.str "plus", .ref a30]) P3z n31 (nb_two (SqT.of upd_same) (by decide +kernel) (by decide +kernel) (Nat.le_of_ble_eq_true rfl) (Nat.le_of_ble_eq_true rfl) (Nat.ne_of_beq_eq_false rfl))
    have L32 := (same_new (o := .tup [.str "plus", .ref a30]) n31) _ _ ll
    refine ⟨_, rfl, _, rfl, _, rfl, (by show 4 ≤ sizeLine; decide), fun a32 n32 => ?_⟩
    have S33 := Same.trans S32 (same_new (o := .tup [.str "plus", .ref a30, .ref a30, .ref a30]) n32)
    have Y33x := Same.trans Y32x (same_new (o := .tup [.str "plus", .ref a30, .ref a30, .ref a30]) n32)
    have E33 : TupKeep (upd Kl a31 (.tup [.str "plus", .ref a30])) (upd (upd Kl a31 (.tup [.str "plus", .ref a30])) a32 (.tup [.str "plus", .ref a30, .ref a30, .ref a30])) := tk_new n32
    have Q33 := odd_step (a := a32) (xs := [.str "plus", .ref a30, .ref a30, .ref a30]) Q32 n32 (nb_two (SqT.of upd_same) (by decide +kernel) (by decide +kernel) (Nat.le_of_ble_eq_true rfl) (Nat.le_of_ble_eq_true rfl) (Nat.ne_of_beq_eq_false rfl))
    have L33 := (same_new (o := .tup [.str "plus", .ref a30, .ref a30, .ref a30]) n32) _ _ L32
    refine ⟨(by show 1 ≤ sizeLine; decide), fun a33 n33 => ?_⟩
    have S34 := Same.trans S33 (same_new (o := .tup [.str "undo"]) n33)
    have Y34x := Same.trans Y33x (same_new (o := .tup [.str "undo"]) n33)
    have E34 : TupKeep (upd (upd Kl a31 (.tup [.str "plus", .ref a30])) a32 (.tup [.str "plus", .ref a30, .ref a30, .ref a30])) (upd (upd (upd Kl a31 (.tup [.str "plus", .ref a30])) a32 (.tup [.str "plus", .ref a30, .ref a30, .ref a30])) a33 (.tup [.str "undo"])) := tk_new n33
    have Q34 := odd_step (a := a33) (xs := [.str "undo"]) Q33 n33 (nb_short (SqT.of upd_same) (Nat.le_of_ble_eq_true rfl))
    have L34 := (same_new (o := .tup [.str "undo"]) n33) _ _ L33
    refine ⟨_, rfl, _, rfl, (by show 3 ≤ sizeLine; decide), fun a34 n34 => ?_⟩
    have S35 := Same.trans S34 (same_new (o := .tup [.str "undo", .ref a30, .ref a30]) n34)
    have Y35x := Same.trans Y34x (same_new (o := .tup [.str "undo", .ref a30, .ref a30]) n34)
    have E35 : TupKeep (upd (upd (upd Kl a31 (.tup [.str "plus", .ref a30])) a32 (.tup [.str "plus", .ref a30, .ref a30, .ref a30])) a33 (.tup [.str "undo"])) (upd (upd (upd (upd Kl a31 (.tup [.str "plus", .ref a30])) a32 (.tup [.str "plus", .ref a30, .ref a30, .ref a30])) a33 (.tup [.str "undo"])) a34 (.tup [.str "undo", .ref a30, .ref a30])) := tk_new n34
    have Q35 := odd_step (a := a34) (xs := [.str "undo", .ref a30, .ref a30]) Q34 n34 (nb_many (SqT.of upd_same) (by decide +kernel) (by decide +kernel) (Nat.le_of_ble_eq_true rfl) (Nat.le_of_ble_eq_true rfl))
    have L35 := (same_new (o := .tup [.str "undo", .ref a30, .ref a30]) n34) _ _ L34
    refine ⟨_, rfl, (by show 2 ≤ sizeLine; decide), fun a35 n35 => ?_⟩
    have S36 := Same.trans S35 (same_new (o := .tup [.str "times", .ref a30]) n35)
    have Y36x := Same.trans Y35x (same_new (o := .tup [.str "times", .ref a30]) n35)
    have E36 : TupKeep (upd (upd (upd (upd Kl a31 (.tup [.str "plus", .ref a30])) a32 (.tup [.str "plus", .ref a30, .ref a30, .ref a30])) a33 (.tup [.str "undo"])) a34 (.tup [.str "undo", .ref a30, .ref a30])) (upd (upd (upd (upd (upd Kl a31 (.tup [.str "plus", .ref a30])) a32 (.tup [.str "plus", .ref a30, .ref a30, .ref a30])) a33 (.tup [.str "undo"])) a34 (.tup [.str "undo", .ref a30, .ref a30])) a35 (.tup [.str "times", .ref a30])) := tk_new n35
    have Q36 := odd_step (a := a35) (xs := [.str "times", .ref a30]) Q35 n35 (nb_two (SqT.of upd_same) (by decide +kernel) (by decide +kernel) (Nat.le_of_ble_eq_true rfl) (Nat.le_of_ble_eq_true rfl) (Nat.ne_of_beq_eq_false rfl))
    have L36 := (same_new (o := .tup [.str "times", .ref a30]) n35) _ _ L35
    refine ⟨_, rfl, (by show 3 ≤ sizeLine; decide), fun a36 n36 => ?_⟩
    have S37 := Same.trans S36 (same_new (o := .tup [.str "less", .ref a30, .int 1]) n36)
    have Y37x := Same.trans Y36x (same_new (o := .tup [.str "less", .ref a30, .int 1]) n36)
    have E37 : TupKeep (upd (upd (upd (upd (upd Kl a31 (.tup [.str "plus", .ref a30])) a32 (.tup [.str "plus", .ref a30, .ref a30, .ref a30])) a33 (.tup [.str "undo"])) a34 (.tup [.str "undo", .ref a30, .ref a30])) a35 (.tup [.str "times", .ref a30])) (upd (upd (upd (upd (upd (upd Kl a31 (.tup [.str "plus", .ref a30])) a32 (.tup [.str "plus", .ref a30, .ref a30, .ref a30])) a33 (.tup [.str "undo"])) a34 (.tup [.str "undo", .ref a30, .ref a30])) a35 (.tup [.str "times", .ref a30])) a36 (.tup [.str "less", .ref a30, .int 1])) := tk_new n36
    have Q37 := odd_step (a := a36) (xs := [.str "less", .ref a30, .int 1]) Q36 n36 (⟨.two a36 .less (.ok (.le a30 (Str.ofString "x"))) (.odd (.int 1)), rfl, ⟨SqT.of upd_same, ⟨(SqT.of (by rw [upd_ne (ne_of_none L36 n36)]; exact L36)), small_xx⟩, .int 1⟩, (by show 1 + 1 + 1 ≤ 5; decide), .inr trivial⟩)
    have L37 := (same_new (o := .tup [.str "less", .ref a30, .int 1]) n36) _ _ L36
    refine ⟨(by show 6 ≤ sizeLine; decide), fun o3 no3 => ?_⟩
    have R3 : ∀ v ∈ ([.ref a31, .ref a32, .ref a33, .ref a34, .ref a35, .ref a36] : List V), OddT K (upd (upd (upd (upd (upd (upd Kl a31 (.tup [.str "plus", .ref a30])) a32 (.tup [.str "plus", .ref a30, .ref a30, .ref a30])) a33 (.tup [.str "undo"])) a34 (.tup [.str "undo", .ref a30, .ref a30])) a35 (.tup [.str "times", .ref a30])) a36 (.tup [.str "less", .ref a30, .int 1])) v := Q37
    have S38 := Same.trans S37 (same_new (o := .lst [.ref a31, .ref a32, .ref a33, .ref a34, .ref a35, .ref a36]) no3)
    have R3 := odd_keep (tk_new (o := .lst [.ref a31, .ref a32, .ref a33, .ref a34, .ref a35, .ref a36]) no3) R3
    have e3 : (upd (upd (upd (upd (upd (upd (upd Kl a31 (.tup [.str "plus", .ref a30])) a32 (.tup [.str "plus", .ref a30, .ref a30, .ref a30])) a33 (.tup [.str "undo"])) a34 (.tup [.str "undo", .ref a30, .ref a30])) a35 (.tup [.str "times", .ref a30])) a36 (.tup [.str "less", .ref a30, .int 1])) o3 (.lst [.ref a31, .ref a32, .ref a33, .ref a34, .ref a35, .ref a36])) o3 = some (.lst [.ref a31, .ref a32, .ref a33, .ref a34, .ref a35, .ref a36]) := upd_same
    have LL3 := (same_new (o := .lst [.ref a31, .ref a32, .ref a33, .ref a34, .ref a35, .ref a36]) no3) _ _ L37
    have Z3 := Same.trans Y37x (same_new (o := .lst [.ref a31, .ref a32, .ref a33, .ref a34, .ref a35, .ref a36]) no3)
    have W3 := Z3 _ _ fl
    have V3 := odd_keep (Same.tk Z3) Tl
    refine ⟨c2, o3, ys2, _, rfl, rfl, W3, e3, (by show (ys2).length + 6 ≤ sizeLine; rw [g2, sizeLine_eq]; decide), fun c3 nc3 => ?_⟩
    have S39 := Same.trans S38 (same_new (o := .lst (ys2 ++ [.ref a31, .ref a32, .ref a33, .ref a34, .ref a35, .ref a36])) nc3)
    have T3 := odd_keep (tk_new (o := .lst (ys2 ++ [.ref a31, .ref a32, .ref a33, .ref a34, .ref a35, .ref a36])) nc3) (odd_more V3 R3)
    have f3 : (upd (upd (upd (upd (upd (upd (upd (upd Kl a31 (.tup [.str "plus", .ref a30])) a32 (.tup [.str "plus", .ref a30, .ref a30, .ref a30])) a33 (.tup [.str "undo"])) a34 (.tup [.str "undo", .ref a30, .ref a30])) a35 (.tup [.str "times", .ref a30])) a36 (.tup [.str "less", .ref a30, .int 1])) o3 (.lst [.ref a31, .ref a32, .ref a33, .ref a34, .ref a35, .ref a36])) c3 (.lst (ys2 ++ [.ref a31, .ref a32, .ref a33, .ref a34, .ref a35, .ref a36]))) c3 = some (.lst (ys2 ++ [.ref a31, .ref a32, .ref a33, .ref a34, .ref a35, .ref a36])) := upd_same
    have g3 : (ys2 ++ ([.ref a31, .ref a32, .ref a33, .ref a34, .ref a35, .ref a36] : List V)).length = 25 := by rw [List.length_append, g2]; rfl
    have N3 : H c3 = none := Same.free S38 nc3
    have LC3 := (same_new (o := .lst (ys2 ++ [.ref a31, .ref a32, .ref a33, .ref a34, .ref a35, .ref a36])) nc3) _ _ LL3
    generalize (ys2 ++ ([.ref a31, .ref a32, .ref a33, .ref a34, .ref a35, .ref a36] : List V)) = ys3 at *
    generalize upd (upd (upd (upd (upd (upd (upd (upd Kl a31 (.tup [.str "plus", .ref a30])) a32 (.tup [.str "plus", .ref a30, .ref a30, .ref a30])) a33 (.tup [.str "undo"])) a34 (.tup [.str "undo", .ref a30, .ref a30])) a35 (.tup [.str "times", .ref a30])) a36 (.tup [.str "less", .ref a30, .int 1])) o3 (.lst [.ref a31, .ref a32, .ref a33, .ref a34, .ref a35, .ref a36])) c3 (.lst ys3) = K3 at *
    refine ⟨_, rfl, ?_⟩
    have P4z : ∀ v ∈ ([] : List V), OddT K K3 v := fun v h => nomatch h
    have Y39 : Same K3 K3 := fun _ _ h => h
    refine ⟨_, rfl, _, rfl, (by show 3 ≤ sizeLine; decide), fun a39 n39 => ?_⟩
    have S40 := Same.trans S39 (same_new (o := .tup [.str "over", .ref a30, .ref a30]) n39)
    have Y40x := Same.trans Y39 (same_new (o := .tup [.str "over", .ref a30, .ref a30]) n39)
    have E40 : TupKeep K3 (upd K3 a39 (.tup [.str "over", .ref a30, .ref a30])) := tk_new n39
    have Q40 := odd_step (a := a39) (xs := [.str "over", .ref a30, .ref a30]) P4z n39 (nb_many (SqT.of upd_same) (by decide +kernel) (by decide +kernel) (Nat.le_of_ble_eq_true rfl) (Nat.le_of_ble_eq_true rfl))
    have L40 := (same_new (o := .tup [.str "over", .ref a30, .ref a30]) n39) _ _ LC3
    refine ⟨(by show 2 ≤ sizeLine; decide), fun a40 n40 => ?_⟩
    have S41 := Same.trans S40 (same_new (o := .tup [.str "undo", .str "x"]) n40)
    have Y41x := Same.trans Y40x (same_new (o := .tup [.str "undo", .str "x"]) n40)
    have E41 : TupKeep (upd K3 a39 (.tup [.str "over", .ref a30, .ref a30])) (upd (upd K3 a39 (.tup [.str "over", .ref a30, .ref a30])) a40 (.tup [.str "undo", .str "x"])) := tk_new n40
    have Q41 := odd_step (a := a40) (xs := [.str "undo", .str "x"]) Q40 n40 (⟨.un a40 (.odd (.str "x")), rfl, ⟨SqT.of upd_same, .str _⟩, (by show 1 + 1 ≤ 5; decide), trivial⟩)
    have L41 := (same_new (o := .tup [.str "undo", .str "x"]) n40) _ _ L40
    refine ⟨(by show 2 ≤ sizeLine; decide), fun a41 n41 => ?_⟩
    have S42 := Same.trans S41 (same_new (o := .tup [.str "name", .str "A"]) n41)
    have Y42x := Same.trans Y41x (same_new (o := .tup [.str "name", .str "A"]) n41)
    have E42 : TupKeep (upd (upd K3 a39 (.tup [.str "over", .ref a30, .ref a30])) a40 (.tup [.str "undo", .str "x"])) (upd (upd (upd K3 a39 (.tup [.str "over", .ref a30, .ref a30])) a40 (.tup [.str "undo", .str "x"])) a41 (.tup [.str "name", .str "A"])) := tk_new n41
    have Q42 := odd_step (a := a41) (xs := [.str "name", .str "A"]) Q41 n41 (nb_word (SqT.of upd_same) (.str _) (by decide +kernel) (by decide +kernel) (by decide +kernel) (by decide +kernel) (by decide +kernel))
    have L42 := (same_new (o := .tup [.str "name", .str "A"]) n41) _ _ L41
    refine ⟨_, rfl, (by show 2 ≤ sizeLine; decide), fun a42 n42 => ?_⟩
    have S43 := Same.trans S42 (same_new (o := .tup [.str "", .ref a30]) n42)
    have Y43x := Same.trans Y42x (same_new (o := .tup [.str "", .ref a30]) n42)
    have E43 : TupKeep (upd (upd (upd K3 a39 (.tup [.str "over", .ref a30, .ref a30])) a40 (.tup [.str "undo", .str "x"])) a41 (.tup [.str "name", .str "A"])) (upd (upd (upd (upd K3 a39 (.tup [.str "over", .ref a30, .ref a30])) a40 (.tup [.str "undo", .str "x"])) a41 (.tup [.str "name", .str "A"])) a42 (.tup [.str "", .ref a30])) := tk_new n42
    have Q43 := odd_step (a := a42) (xs := [.str "", .ref a30]) Q42 n42 (nb_word (SqT.of upd_same) (.str _) (by decide +kernel) (by decide +kernel) (by decide +kernel) (by decide +kernel) (by decide +kernel))
    have L43 := (same_new (o := .tup [.str "", .ref a30]) n42) _ _ L42
    refine ⟨_, rfl, (by show 2 ≤ sizeLine; decide), fun a43 n43 => ?_⟩
    have S44 := Same.trans S43 (same_new (o := .tup [.non, .ref a30]) n43)
    have Y44x := Same.trans Y43x (same_new (o := .tup [.non, .ref a30]) n43)
    have E44 : TupKeep (upd (upd (upd (upd K3 a39 (.tup [.str "over", .ref a30, .ref a30])) a40 (.tup [.str "undo", .str "x"])) a41 (.tup [.str "name", .str "A"])) a42 (.tup [.str "", .ref a30])) (upd (upd (upd (upd (upd K3 a39 (.tup [.str "over", .ref a30, .ref a30])) a40 (.tup [.str "undo", .str "x"])) a41 (.tup [.str "name", .str "A"])) a42 (.tup [.str "", .ref a30])) a43 (.tup [.non, .ref a30])) := tk_new n43
    have Q44 := odd_step (a := a43) (xs := [.non, .ref a30]) Q43 n43 (nb_word (SqT.of upd_same) .non (by decide +kernel) (by decide +kernel) (by decide +kernel) (by decide +kernel) (by decide +kernel))
    have L44 := (same_new (o := .tup [.non, .ref a30]) n43) _ _ L43
    refine ⟨(by show 2 ≤ sizeLine; decide), fun a44 n44 => ?_⟩
    have S45 := Same.trans S44 (same_new (o := .tup [.str "share", .non]) n44)
    have Y45x := Same.trans Y44x (same_new (o := .tup [.str "share", .non]) n44)
    have E45 : TupKeep (upd (upd (upd (upd (upd K3 a39 (.tup [.str "over", .ref a30, .ref a30])) a40 (.tup [.str "undo", .str "x"])) a41 (.tup [.str "name", .str "A"])) a42 (.tup [.str "", .ref a30])) a43 (.tup [.non, .ref a30])) (upd (upd (upd (upd (upd (upd K3 a39 (.tup [.str "over", .ref a30, .ref a30])) a40 (.tup [.str "undo", .str "x"])) a41 (.tup [.str "name", .str "A"])) a42 (.tup [.str "", .ref a30])) a43 (.tup [.non, .ref a30])) a44 (.tup [.str "share", .non])) := tk_new n44
    have Q45 := odd_step (a := a44) (xs := [.str "share", .non]) Q44 n44 (nb_sha (SqT.of upd_same) .non)
    have L45 := (same_new (o := .tup [.str "share", .non]) n44) _ _ L44
    refine ⟨_, rfl, _, rfl, (by show 2 ≤ sizeLine; decide), fun a45 n45 => ?_⟩
    have S46 := Same.trans S45 (same_new (o := .tup [.ref a30, .ref a30]) n45)
    have Y46x := Same.trans Y45x (same_new (o := .tup [.ref a30, .ref a30]) n45)
    have E46 : TupKeep (upd (upd (upd (upd (upd (upd K3 a39 (.tup [.str "over", .ref a30, .ref a30])) a40 (.tup [.str "undo", .str "x"])) a41 (.tup [.str "name", .str "A"])) a42 (.tup [.str "", .ref a30])) a43 (.tup [.non, .ref a30])) a44 (.tup [.str "share", .non])) (upd (upd (upd (upd (upd (upd (upd K3 a39 (.tup [.str "over", .ref a30, .ref a30])) a40 (.tup [.str "undo", .str "x"])) a41 (.tup [.str "name", .str "A"])) a42 (.tup [.str "", .ref a30])) a43 (.tup [.non, .ref a30])) a44 (.tup [.str "share", .non])) a45 (.tup [.ref a30, .ref a30])) := tk_new n45
    have Q46 := odd_step (a := a45) (xs := [.ref a30, .ref a30]) Q45 n45 (nb_word (SqT.of upd_same) (.pair a30 _ _ (SqT.of (by rw [upd_ne (ne_of_none L45 n45)]; exact L45))) (by decide +kernel) (by decide +kernel) (by decide +kernel) (by decide +kernel) (by decide +kernel))
    have L46 := (same_new (o := .tup [.ref a30, .ref a30]) n45) _ _ L45
    refine ⟨(by show 7 ≤ sizeLine; decide), fun o4 no4 => ?_⟩
    have R4 : ∀ v ∈ ([.ref a39, .ref a40, .ref a41, .ref a42, .ref a43, .ref a44, .ref a45] : List V), OddT K (upd (upd (upd (upd (upd (upd (upd K3 a39 (.tup [.str "over", .ref a30, .ref a30])) a40 (.tup [.str "undo", .str "x"])) a41 (.tup [.str "name", .str "A"])) a42 (.tup [.str "", .ref a30])) a43 (.tup [.non, .ref a30])) a44 (.tup [.str "share", .non])) a45 (.tup [.ref a30, .ref a30])) v := Q46
    have S47 := Same.trans S46 (same_new (o := .lst [.ref a39, .ref a40, .ref a41, .ref a42, .ref a43, .ref a44, .ref a45]) no4)
    have R4 := odd_keep (tk_new (o := .lst [.ref a39, .ref a40, .ref a41, .ref a42, .ref a43, .ref a44, .ref a45]) no4) R4
    have e4 : (upd (upd (upd (upd (upd (upd (upd (upd K3 a39 (.tup [.str "over", .ref a30, .ref a30])) a40 (.tup [.str "undo", .str "x"])) a41 (.tup [.str "name", .str "A"])) a42 (.tup [.str "", .ref a30])) a43 (.tup [.non, .ref a30])) a44 (.tup [.str "share", .non])) a45 (.tup [.ref a30, .ref a30])) o4 (.lst [.ref a39, .ref a40, .ref a41, .ref a42, .ref a43, .ref a44, .ref a45])) o4 = some (.lst [.ref a39, .ref a40, .ref a41, .ref a42, .ref a43, .ref a44, .ref a45]) := upd_same
    have LL4 := (same_new (o := .lst [.ref a39, .ref a40, .ref a41, .ref a42, .ref a43, .ref a44, .ref a45]) no4) _ _ L46
    have Z4 := Same.trans Y46x (same_new (o := .lst [.ref a39, .ref a40, .ref a41, .ref a42, .ref a43, .ref a44, .ref a45]) no4)
    have W4 := Z4 _ _ f3
    have V4 := odd_keep (Same.tk Z4) T3
    refine ⟨c3, o4, ys3, _, rfl, rfl, W4, e4, (by show (ys3).length + 7 ≤ sizeLine; rw [g3, sizeLine_eq]; decide), fun c4 nc4 => ?_⟩
    have S48 := Same.trans S47 (same_new (o := .lst (ys3 ++ [.ref a39, .ref a40, .ref a41, .ref a42, .ref a43, .ref a44, .ref a45])) nc4)
    have T4 := odd_keep (tk_new (o := .lst (ys3 ++ [.ref a39, .ref a40, .ref a41, .ref a42, .ref a43, .ref a44, .ref a45])) nc4) (odd_more V4 R4)
    have f4 : (upd (upd (upd (upd (upd (upd (upd (upd (upd K3 a39 (.tup [.str "over", .ref a30, .ref a30])) a40 (.tup [.str "undo", .str "x"])) a41 (.tup [.str "name", .str "A"])) a42 (.tup [.str "", .ref a30])) a43 (.tup [.non, .ref a30])) a44 (.tup [.str "share", .non])) a45 (.tup [.ref a30, .ref a30])) o4 (.lst [.ref a39, .ref a40, .ref a41, .ref a42, .ref a43, .ref a44, .ref a45])) c4 (.lst (ys3 ++ [.ref a39, .ref a40, .ref a41, .ref a42, .ref a43, .ref a44, .ref a45]))) c4 = some (.lst (ys3 ++ [.ref a39, .ref a40, .ref a41, .ref a42, .ref a43, .ref a44, .ref a45])) := upd_same
    have g4 : (ys3 ++ ([.ref a39, .ref a40, .ref a41, .ref a42, .ref a43, .ref a44, .ref a45] : List V)).length = 32 := by rw [List.length_append, g3]; rfl
    have N4 : H c4 = none := Same.free S47 nc4
    have LC4 := (same_new (o := .lst (ys3 ++ [.ref a39, .ref a40, .ref a41, .ref a42, .ref a43, .ref a44, .ref a45])) nc4) _ _ LL4
    generalize (ys3 ++ ([.ref a39, .ref a40, .ref a41, .ref a42, .ref a43, .ref a44, .ref a45] : List V)) = ys4 at *
    generalize upd (upd (upd (upd (upd (upd (upd (upd (upd K3 a39 (.tup [.str "over", .ref a30, .ref a30])) a40 (.tup [.str "undo", .str "x"])) a41 (.tup [.str "name", .str "A"])) a42 (.tup [.str "", .ref a30])) a43 (.tup [.non, .ref a30])) a44 (.tup [.str "share", .non])) a45 (.tup [.ref a30, .ref a30])) o4 (.lst [.ref a39, .ref a40, .ref a41, .ref a42, .ref a43, .ref a44, .ref a45])) c4 (.lst ys4) = K4 at *
    have Bf := B.same S48
    exact ⟨_, rfl, _, rfl, l, b, c4, ys4, rfl, B.ne N4, f4, by rw [g4]; decide, by rw [g4]; decide, Bf, fun v H' hv B2 t => q v H' ((T4 v hv).keep (Bf.tk t.grow)) B2 (Grow.trans (Same.grow S48) t.grow)⟩
end
end Nv

set_option maxRecDepth 100000
set_option maxHeartbeats 8000000
namespace Nv
open PySem PySem.Spec PyProof.Rows L2 NvSet LamX
variable {K : PySem.W.Frag} [KFx K]
/-! ### reckonings as data -/
def AT.data : AT → PyData
  | .sh _ _ t b => .tuple [.str "share", .tuple [.int t, .int b]]
  | .le _ x => .tuple [.str "letter", .str x]
  | .two _ o A B => .tuple [.str o.word, A.data, B.data]
  | .un _ A => .tuple [.str "undo", A.data]
theorem AT.dp {H : Hp} : ∀ {T : AT}, T.In H → Dp K H T.v T.data
  | .sh _ _ _ _, h => .tup h.1 (.cons (.str _) (.cons (.tup h.2 (.cons (.int _) (.cons (.int _) .nil))) .nil))
  | .le _ _, h => .tup h (.cons (.str _) (.cons (.str _) .nil))
  | .two _ _ _ _, h => .tup h.1 (.cons (.str _) (.cons (AT.dp h.2.1) (.cons (AT.dp h.2.2) .nil)))
  | .un _ _, h => .tup h.1 (.cons (.str _) (.cons (AT.dp h.2) .nil))
theorem AT.data_depth : ∀ T : AT, T.data.depth ≤ T.count + 1
  | .sh _ _ _ _ => by show PyData.depth (.tuple _) ≤ 2; simp [PyData.depth, PyData.depthAll]
  | .le _ _ => by show PyData.depth (.tuple _) ≤ 2; simp [PyData.depth, PyData.depthAll]
  | .two _ _ A B => by
    have h1 := A.data_depth
    have h2 := B.data_depth
    show PyData.depth (.tuple _) ≤ 1 + A.count + B.count + 1
    simp [PyData.depth, PyData.depthAll]
    omega
  | .un _ A => by
    have h1 := A.data_depth
    show PyData.depth (.tuple _) ≤ 1 + A.count + 1
    simp [PyData.depth, PyData.depthAll]
    omega
theorem op_ok (o : Op) : PyData.strOk o.word = true := by cases o <;> decide +kernel
theorem AT.data_lay : ∀ {T : AT}, T.Ok → T.data.canLay0 = true
  | .sh _ _ _ _, _ => by
    show PyData.canLay0 (.tuple _) = true
    simp [PyData.canLay0, PyData.canLayAll0]
    decide +kernel
  | .le _ x, h => by
    have hx : PyData.strOk x = true := small_ok h
    show PyData.canLay0 (.tuple _) = true
    simp [PyData.canLay0, PyData.canLayAll0, hx]
    decide +kernel
  | .two _ o A B, h => by
    have h1 := AT.data_lay h.1
    have h2 := AT.data_lay h.2
    show PyData.canLay0 (.tuple _) = true
    simp [PyData.canLay0, PyData.canLayAll0, h1, h2, op_ok o]
  | .un _ A, h => by
    have h1 := AT.data_lay (T := A) h
    show PyData.canLay0 (.tuple _) = true
    simp [PyData.canLay0, PyData.canLayAll0, h1]
    decide +kernel
theorem AT.kids_data {H : Hp} {T : AT} (h : T.In H) : DpAll K H (T.kids.map AT.v) (T.kids.map AT.data) := by
  cases T with
  | sh _ _ _ _ => exact .nil
  | le _ _ => exact .nil
  | two _ _ _ _ => exact .cons (AT.dp h.2.1) (.cons (AT.dp h.2.2) .nil)
  | un _ _ => exact .cons (AT.dp h.2) .nil
theorem AT.kids_shaped {T : AT} (h : T.Ok) (c : T.count ≤ 60) : SeqAt.shaped (.tuple (T.kids.map AT.data)) = true := by
  unfold SeqAt.shaped
  cases T with
  | sh _ _ _ _ =>
    show (PyData.canLay0 (.tuple []) && decide (PyData.depth (.tuple []) ≤ 64)) = true
    decide +kernel
  | le _ _ =>
    show (PyData.canLay0 (.tuple []) && decide (PyData.depth (.tuple []) ≤ 64)) = true
    decide +kernel
  | two _ _ A B =>
    have h1 := AT.data_lay h.1
    have h2 := AT.data_lay h.2
    have d1 := A.data_depth
    have d2 := B.data_depth
    have c : 1 + A.count + B.count ≤ 60 := c
    show (PyData.canLay0 (.tuple [A.data, B.data]) && decide (PyData.depth (.tuple [A.data, B.data]) ≤ 64)) = true
    rw [Bool.and_eq_true, decide_eq_true_iff]
    refine ⟨by simp [PyData.canLay0, PyData.canLayAll0, h1, h2], ?_⟩
    simp [PyData.depth, PyData.depthAll]
    omega
  | un _ A =>
    have h1 := AT.data_lay (T := A) h
    have d1 := A.data_depth
    have c : 1 + A.count ≤ 60 := c
    show (PyData.canLay0 (.tuple [A.data]) && decide (PyData.depth (.tuple [A.data]) ≤ 64)) = true
    rw [Bool.and_eq_true, decide_eq_true_iff]
    refine ⟨by simp [PyData.canLay0, PyData.canLayAll0, h1], ?_⟩
    simp [PyData.depth, PyData.depthAll]
    omega
theorem kids_eqv (T : AT) : PyData.eqv (.tuple (T.kids.map AT.data)) (.tuple []) = T.kids.isEmpty := by
  cases T <;> rfl
abbrev sTwist : Stmt := topS 67
abbrev nTwist : List Str := ["_law_bag_here", "_law_term", "_law_odd_here", "_law_inner_here", "_law_at"]
theorem scTwist : FnScope nTwist ["_law_bag_here", "_law_term", "_law_odd_here"] (defScope sTwist) := ⟨rfl, rfl, rfl, by decide +kernel, rfl, by decide +kernel, by decide +kernel⟩
def spTwist (K : PySem.W.Frag) [KFx K] (n : Nat) : Sp := fun vs H Q _ => ∃ (l b : Addr) (T : AT) (v : V), vs = [.ref b, T.v, v] ∧ Bag l b H ∧ T.In H ∧ T.Ok ∧ T.count ≤ n ∧ n ≤ 60 ∧ OddT K H v ∧
  ∀ (W : WT) (H' : Hp), W.In H' → W.Odd → W.count ≤ T.count + 5 → Bag l b H' → Grow b H H' → Q W.v H'
section
variable {P : Program} {w : World} {mg : Str → Option Value} {base : Heap}
theorem ok_twist {f : Addr} {fd : FuncData} (F : Fun K "_law_twist" "_law_twist" sTwist f fd) (gf : mg "_law_twist" = some (.ref f)) (bf : Binds K fd ["_law_bag_here", "_law_term", "_law_odd_here"] []) (len : mg "len" = none) (GI : C8.Cal P w K mg base 1 "_law_inner" (spThings K) []) (GP : C8.Cal P w K mg base 1 "_law_pull" spPull []) :
    ∀ n : Nat, FnOk P w K mg base CX0 (n + 2) f fd ["_law_bag_here", "_law_term", "_law_odd_here"] (spTwist K n) := by
  intro n
  induction n with
  | zero => exact ⟨fun vs H Q E h => by obtain ⟨l, b, T, v, rfl, _⟩ := h; rfl, fun A outer s H args us vs Q E _ _ _ _ h => by
      obtain ⟨l, b, T, v, _, _, _, _, c, _⟩ := h
      have := T.count_pos
      omega⟩
  | succ n ih =>
    refine F.ok scTwist (fun vs H Q E h => ?_) (fun cdv A outer s H vs Q E hr h => ?_)
    · obtain ⟨l, b, T, v, rfl, _⟩ := h
      rfl
    · obtain ⟨l, b, Z, v, rfl, B, hin, hok, hc, hn, hv, q⟩ := h
      refine ⟨_, pss_cons (ps_set (i := 3) scTwist.nd rfl (.inl rfl) (C8.pe_c GI hr (by omega) (by rfl) (pa_cons (pv 1) pa_nil)))
        (pss_cons (ps_if (PW.pt (pw_or (pt_cmpR (op_eqD hr.units) (pv 3) (pe_tup pa_nil) (nomark _)) (pw_or1 (pt_cmpR op_eq (C8.pe_c GP hr (by omega) (by rfl) (pa_cons (pv 0) (pa_cons pe_int pa_nil))) pe_int (nomark _))))) (pss_one (ps_ret (pv 2))) pss_nil)
        (pss_cons (ps_set (i := 4) scTwist.nd rfl (.inl rfl) (pe_op op_add pe_int (C8.pe_c GP hr (by omega) (by rfl) (pa_cons (pv 0) (pa_cons (pe_callB call_len_seq (by rfl) len PySem.boot_len (pa_cons (pv 3) pa_nil)) pa_nil)))))
        (pss_one (ps_ret (pe_op op_catT (pe_op op_catT (pe_slice sl_tup (pv 1) po_none (po_some (pv 4))) (pe_tup (pa_cons (pe_call ih hr (by rfl) gf F.kp bf .nil pass0 (pa_cons (pv 0) (pa_cons (pe_ix ix_tup (pv 1) (pv 4) (fun _ _ => rfl)) (pa_cons (pv 2) pa_nil)))) pa_nil)))
          (pe_slice sl_tup (pv 1) (po_some (pe_op op_add (pv 4) pe_int)) po_none)))))), ?_⟩
      refine ⟨_, rfl, Z, rfl, hin, fun p H1 s1 hp1 => ?_⟩
      have B1 := B.same s1
      have i1 := hin.keep (Same.tk s1)
      refine ⟨_, rfl, (by show 0 ≤ sizeLine; decide), fun e ne => ?_⟩
      have s2 := same_new (o := .tup []) ne
      have i2 := i1.keep (Same.tk s2)
      refine ⟨.tuple (Z.kids.map AT.data), .tuple [], .tup (seqT s2 hp1) (AT.kids_data i2), .tup (SqT.of upd_same) .nil, AT.kids_shaped hok (by omega), by decide +kernel, _, rfl, ?_⟩
      rw [kids_eqv]
      have B2 := B1.same s2
      have hp2 := seqT s2 hp1
      have v2 := (hv.keep (Same.tk s1)).keep (Same.tk s2)
      have g2 := Same.grow (b := b) (Same.trans s1 s2)
      generalize upd H1 e (.tup []) = H2 at *
      have ret : ∀ H', Bag l b H' → Grow b H H' → OddT K H' v → Q v H' := fun H' b1 g ⟨T, e, i, c, o⟩ => by
        rw [← e]
        exact q T H' i o (by omega) b1 g
      by_cases hk : Z.kids = []
      · rw [hk]
        exact iteT ⟨_, rfl, ret _ B2 g2 v2⟩
      have eEm : Z.kids.isEmpty = false := by
        cases hh : Z.kids with
        | nil => exact absurd hh hk
        | cons _ _ => rfl
      rw [eEm]
      refine iteF ?_
      refine ⟨_, rfl, l, b, 3, rfl, by decide, fit8 (n := 4) (by decide) (by decide), B2, fun r3 H3 _ _ B3 t3 => ?_⟩
      have g3 := g2.trans t3.grow
      have k3 := B2.tk t3.grow
      have i3 := i2.keep k3
      refine ⟨rfl, _, rfl, ite2 (fun _ => ⟨_, rfl, ret _ B3 g3 (v2.keep k3)⟩) (fun _ => ?_)⟩
      have lK := Z.kids_len
      have k0 : Z.kids.length ≠ 0 := fun z => hk (List.length_eq_zero_iff.mp z)
      refine ⟨_, rfl, _, rfl, p, _, rfl, .inr (k3 _ _ hp2), l, b, (((Z.kids.map AT.v).length : Nat) : Int), rfl, by rw [List.length_map]; omega, small_fit (by rw [List.length_map]; omega), B3, fun r H4 r0 r1 B4 t4 => ?_⟩
      have g4 := g3.trans t4.grow
      have k4 := B3.tk t4.grow
      have iZ4 := i3.keep k4
      have v4 := (v2.keep k3).keep k4
      rw [List.length_map] at r1
      have h4 := iZ4.tup
      cases Z with
      | sh _ _ _ _ => exact absurd rfl hk
      | le _ _ => exact absurd rfl hk
      | un pz A1 =>
        have c1 : 1 + A1.count ≤ n + 1 := hc
        have e : r = 0 := by have : r < ((1 : Nat) : Int) := r1; omega
        subst e
        refine ⟨1, 0, rfl, rfl, ?_⟩
        refine ⟨_, rfl, _, rfl, ((1 : Nat) : Int), rfl, pz, [.str "undo", A1.v], rfl, h4, (fun z => nomatch (show (1 : Nat) = 2 from z.2)), fun e1 ne1 => ?_⟩
        rw [show cutV [.str "undo", A1.v] none (some ((1 : Nat) : Int)) = [.str "undo"] from rfl]
        have s5 := same_new (o := .tup [.str "undo"]) ne1
        have e5 : SqT K (upd H4 e1 (.tup [.str "undo"])) e1 [.str "undo"] := SqT.of upd_same
        have B5 := B4.same s5
        have i5 := iZ4.keep (Same.tk s5)
        have v5 := v4.keep (Same.tk s5)
        have g5 : Grow b H (upd H4 e1 (.tup [.str "undo"])) := g4.trans (Same.grow s5)
        generalize upd H4 e1 (.tup [.str "undo"]) = H5 at *
        have h5 := i5.tup
        refine ⟨_, rfl, _, rfl, _, rfl, pz, [.str "undo", A1.v], ((1 : Nat) : Int), A1.v, rfl, rfl, h5, atI_nat (j := 1) rfl, _, rfl, l, b, A1, v, rfl, B5, i5.2, hok, by omega, by omega, v5, fun W H6 iW oW cW B6 g6 => ?_⟩
        have k6 := B5.tk g6
        have i6 := i5.keep k6
        refine ⟨(by show 1 ≤ sizeLine; decide), fun tw ntw => ?_⟩
        have s7 := same_new (o := .tup [W.v]) ntw
        refine ⟨e1, tw, _, _, rfl, rfl, Same.tk s7 _ _ (k6 _ _ e5), SqT.of upd_same, (List.cons_ne_nil _ _), (by show 2 ≤ sizeLine; decide), (fun z => nomatch z), fun _ tp ntp => ?_⟩
        have s8 := same_new (o := .tup ([.str "undo"] ++ [W.v])) ntp
        have s78 := Same.trans s7 s8
        have e8 : SqT K (upd (upd H6 tw (.tup [W.v])) tp (.tup ([.str "undo"] ++ [W.v]))) tp ([.str "undo"] ++ [W.v]) := SqT.of upd_same
        have i8 := i6.keep (Same.tk s78)
        have W8 := iW.keep (Same.tk s78)
        have B8 := B6.same s78
        have g8 : Grow b H (upd (upd H6 tw (.tup [W.v])) tp (.tup ([.str "undo"] ++ [W.v]))) := g5.trans (g6.trans (Same.grow s78))
        generalize upd (upd H6 tw (.tup [W.v])) tp (.tup ([.str "undo"] ++ [W.v])) = H8 at *
        refine ⟨_, rfl, _, rfl, ((1 : Nat) : Int), 1, rfl, rfl, ((2 : Nat) : Int), rfl, pz, [.str "undo", A1.v], rfl, i8.tup, (fun z => nomatch (show (2 : Nat) = 0 from z.1)), fun e2 ne2 => ?_⟩
        rw [show cutV [.str "undo", A1.v] (some ((2 : Nat) : Int)) none = ([] : List V) from rfl]
        have s9 := same_new (o := .tup ([] : List V)) ne2
        have k9 := Same.tk s9
        refine ⟨tp, e2, _, _, rfl, rfl, k9 _ _ e8, SqT.of upd_same, (List.cons_ne_nil _ _), (by show 2 ≤ sizeLine; decide), (fun _ => q (.un tp W) _ ⟨k9 _ _ e8, W8.keep k9⟩ oW (by show 1 + W.count ≤ 1 + A1.count + 5; omega) (B8.same s9) (g8.trans (Same.grow s9))), fun z => absurd rfl z⟩
      | two pz o A1 B1 =>
        have c1 : 1 + A1.count + B1.count ≤ n + 1 := hc
        have p1 := A1.count_pos
        have p2 := B1.count_pos
        have e : r = 0 ∨ r = 1 := by have : r < ((2 : Nat) : Int) := r1; omega
        rcases e with rfl | rfl
        · refine ⟨1, 0, rfl, rfl, ?_⟩
          refine ⟨_, rfl, _, rfl, ((1 : Nat) : Int), rfl, pz, [.str o.word, A1.v, B1.v], rfl, h4, (fun z => nomatch (show (1 : Nat) = 3 from z.2)), fun e1 ne1 => ?_⟩
          rw [show cutV [.str o.word, A1.v, B1.v] none (some ((1 : Nat) : Int)) = [.str o.word] from rfl]
          have s5 := same_new (o := .tup [.str o.word]) ne1
          have e5 : SqT K (upd H4 e1 (.tup [.str o.word])) e1 [.str o.word] := SqT.of upd_same
          have B5 := B4.same s5
          have i5 := iZ4.keep (Same.tk s5)
          have v5 := v4.keep (Same.tk s5)
          have g5 : Grow b H (upd H4 e1 (.tup [.str o.word])) := g4.trans (Same.grow s5)
          generalize upd H4 e1 (.tup [.str o.word]) = H5 at *
          have h5 := i5.tup
          refine ⟨_, rfl, _, rfl, _, rfl, pz, [.str o.word, A1.v, B1.v], ((1 : Nat) : Int), A1.v, rfl, rfl, h5, atI_nat (j := 1) rfl, _, rfl, l, b, A1, v, rfl, B5, i5.2.1, hok.1, by omega, by omega, v5, fun W H6 iW oW cW B6 g6 => ?_⟩
          have k6 := B5.tk g6
          have i6 := i5.keep k6
          refine ⟨(by show 1 ≤ sizeLine; decide), fun tw ntw => ?_⟩
          have s7 := same_new (o := .tup [W.v]) ntw
          refine ⟨e1, tw, _, _, rfl, rfl, Same.tk s7 _ _ (k6 _ _ e5), SqT.of upd_same, (List.cons_ne_nil _ _), (by show 2 ≤ sizeLine; decide), (fun z => nomatch z), fun _ tp ntp => ?_⟩
          have s8 := same_new (o := .tup ([.str o.word] ++ [W.v])) ntp
          have s78 := Same.trans s7 s8
          have e8 : SqT K (upd (upd H6 tw (.tup [W.v])) tp (.tup ([.str o.word] ++ [W.v]))) tp ([.str o.word] ++ [W.v]) := SqT.of upd_same
          have i8 := i6.keep (Same.tk s78)
          have W8 := iW.keep (Same.tk s78)
          have B8 := B6.same s78
          have g8 : Grow b H (upd (upd H6 tw (.tup [W.v])) tp (.tup ([.str o.word] ++ [W.v]))) := g5.trans (g6.trans (Same.grow s78))
          generalize upd (upd H6 tw (.tup [W.v])) tp (.tup ([.str o.word] ++ [W.v])) = H8 at *
          refine ⟨_, rfl, _, rfl, ((1 : Nat) : Int), 1, rfl, rfl, ((2 : Nat) : Int), rfl, pz, [.str o.word, A1.v, B1.v], rfl, i8.tup, (fun z => nomatch (show (2 : Nat) = 0 from z.1)), fun e2 ne2 => ?_⟩
          rw [show cutV [.str o.word, A1.v, B1.v] (some ((2 : Nat) : Int)) none = [B1.v] from rfl]
          have s9 := same_new (o := .tup [B1.v]) ne2
          have k9 := Same.tk s9
          refine ⟨tp, e2, _, _, rfl, rfl, k9 _ _ e8, SqT.of upd_same, (List.cons_ne_nil _ _), (by show 3 ≤ sizeLine; decide), (fun z => nomatch z), fun _ tq ntq => ?_⟩
          have s10 := same_new (o := .tup (([V.str o.word] ++ [W.v]) ++ [B1.v])) ntq
          have k10 := Same.tk s10
          exact q (.two tq o W (.ok B1)) _ ⟨SqT.of upd_same, (W8.keep k9).keep k10, ((i8.2.2).keep k9).keep k10, hok.2⟩ (.inl oW) (by show 1 + W.count + B1.count ≤ 1 + A1.count + B1.count + 5; omega) ((B8.same s9).same s10) ((g8.trans (Same.grow s9)).trans (Same.grow s10))
        · refine ⟨1, 1, rfl, rfl, ?_⟩
          refine ⟨_, rfl, _, rfl, ((2 : Nat) : Int), rfl, pz, [.str o.word, A1.v, B1.v], rfl, h4, (fun z => nomatch (show (2 : Nat) = 3 from z.2)), fun e1 ne1 => ?_⟩
          rw [show cutV [.str o.word, A1.v, B1.v] none (some ((2 : Nat) : Int)) = [.str o.word, A1.v] from rfl]
          have s5 := same_new (o := .tup [.str o.word, A1.v]) ne1
          have e5 : SqT K (upd H4 e1 (.tup [.str o.word, A1.v])) e1 [.str o.word, A1.v] := SqT.of upd_same
          have B5 := B4.same s5
          have i5 := iZ4.keep (Same.tk s5)
          have v5 := v4.keep (Same.tk s5)
          have g5 : Grow b H (upd H4 e1 (.tup [.str o.word, A1.v])) := g4.trans (Same.grow s5)
          generalize upd H4 e1 (.tup [.str o.word, A1.v]) = H5 at *
          have h5 := i5.tup
          refine ⟨_, rfl, _, rfl, _, rfl, pz, [.str o.word, A1.v, B1.v], ((2 : Nat) : Int), B1.v, rfl, rfl, h5, atI_nat (j := 2) rfl, _, rfl, l, b, B1, v, rfl, B5, i5.2.2, hok.2, by omega, by omega, v5, fun W H6 iW oW cW B6 g6 => ?_⟩
          have k6 := B5.tk g6
          have i6 := i5.keep k6
          refine ⟨(by show 1 ≤ sizeLine; decide), fun tw ntw => ?_⟩
          have s7 := same_new (o := .tup [W.v]) ntw
          refine ⟨e1, tw, _, _, rfl, rfl, Same.tk s7 _ _ (k6 _ _ e5), SqT.of upd_same, (List.cons_ne_nil _ _), (by show 3 ≤ sizeLine; decide), (fun z => nomatch z), fun _ tp ntp => ?_⟩
          have s8 := same_new (o := .tup ([.str o.word, A1.v] ++ [W.v])) ntp
          have s78 := Same.trans s7 s8
          have e8 : SqT K (upd (upd H6 tw (.tup [W.v])) tp (.tup ([.str o.word, A1.v] ++ [W.v]))) tp ([.str o.word, A1.v] ++ [W.v]) := SqT.of upd_same
          have i8 := i6.keep (Same.tk s78)
          have W8 := iW.keep (Same.tk s78)
          have B8 := B6.same s78
          have g8 : Grow b H (upd (upd H6 tw (.tup [W.v])) tp (.tup ([.str o.word, A1.v] ++ [W.v]))) := g5.trans (g6.trans (Same.grow s78))
          generalize upd (upd H6 tw (.tup [W.v])) tp (.tup ([.str o.word, A1.v] ++ [W.v])) = H8 at *
          refine ⟨_, rfl, _, rfl, ((2 : Nat) : Int), 1, rfl, rfl, ((3 : Nat) : Int), rfl, pz, [.str o.word, A1.v, B1.v], rfl, i8.tup, (fun z => nomatch (show (3 : Nat) = 0 from z.1)), fun e2 ne2 => ?_⟩
          rw [show cutV [.str o.word, A1.v, B1.v] (some ((3 : Nat) : Int)) none = ([] : List V) from rfl]
          have s9 := same_new (o := .tup ([] : List V)) ne2
          have k9 := Same.tk s9
          refine ⟨tp, e2, _, _, rfl, rfl, k9 _ _ e8, SqT.of upd_same, (List.cons_ne_nil _ _), (by show 3 ≤ sizeLine; decide), (fun _ => q (.two tp o (.ok A1) W) _ ⟨k9 _ _ e8, ⟨(i8.2.1).keep k9, hok.1⟩, W8.keep k9⟩ (.inr oW) (by show 1 + A1.count + W.count ≤ 1 + A1.count + B1.count + 5; omega) (B8.same s9) (g8.trans (Same.grow s9))), fun z => absurd rfl z⟩
end
end Nv

set_option maxRecDepth 100000
set_option maxHeartbeats 4000000
/-! a list comprehension whose item leans on the frame around it: he is told of the frame's own state where the block starts. -/
namespace NvL
open PySem PySem.Spec PyProof.Rows L2
section
variable {X : Cx}
/-- the frame's state where the block starts -/
structure Here (X : Cx) (pins : List (Addr × Obj)) (σ : L2.St) (s : Shared) (H : Hp) (fp : List Addr) : Prop where
  inv : Inv X pins σ H s
  fps : ∀ b ∈ fp, FpOk X pins H b ∧ b < s.heap.objs.size
def tLcm (wi : TI) (g : TG) (te : L2.St → TE) (vs : List Nat) : TE := fun σ H Q => wi σ H fun J H1 => ∀ D, H1 D = none → ∃ W : Nat → Nat → Hp → Prop, (∃ m, W 0 m (upd H1 D (.lst []))) ∧ ∀ i m H, W i m H →
  (J.stop i H ∧ Q (.ref D) H) ∨ (J.go i H ∧ ∃ Nx : Hp → Prop, (∀ H', Nx H' → ∃ m', m' < m ∧ W (i + 1) m' H') ∧ ∀ x H', J.yld i H x H' → g x (wipe σ vs) H' fun σ2 H2 => wipe σ2 vs = wipe σ vs ∧
    te σ σ2 H2 fun y H4 => ∃ acc, H4 D = some (.lst acc) ∧ acc.length < sizeLine ∧ Nx (upd H4 D (.lst (acc ++ [y]))))
theorem pe_lcm {elt tg iter : Expr} {scope : Scope} {own : List (Str × Nat)} {pos : Pos} {wi : TI} {g : TG} {te : L2.St → TE} (hc : X.calm = true) (hN : X.N.Nodup) (hi : PI X tg iter wi) (ok : BlkOk X.N X.env.scope scope own)
    (hg : ∀ (s : Shared) (H : Hp) (C : Addr) (cl : List (Str × Addr)) (fp : List Addr), PG (X.blk s H scope (compEnvC scope cl C X.env) fp) tg g)
    (he : ∀ (pins : List (Addr × Obj)) (σ : L2.St) (s : Shared) (H : Hp) (C : Addr) (cl : List (Str × Addr)) (fp : List Addr), Here X pins σ s H fp → PE (X.blk s H scope (compEnvC scope cl C X.env) fp) elt (te σ)) (hs : ∀ x, foldedSetIterable iter X.env x = pure x := by intro _; rfl) :
    PE X (.ListComp elt [⟨tg, iter, [], 0⟩] scope pos) (tLcm wi g te (own.map (·.2))) := by
  refine ⟨fun pins s σ H Q I h => ?_⟩
  rw [eval_ListComp]
  have cap : ∀ y ∈ scope.names, y.2 = .free → ∃ c, X.env.cells.lookup y.1 = some c := fun y hy e => (ok.free y hy e).elim (fun k => I.ok.has _ (.inl k)) fun k => I.ok.has _ (.inr k)
  refine wpAny_comprehension_free (use := none) rfl hs (closure_ok cap) ok.kind (fun y hy e => (ok.uniq y hy).trans (congrArg some e)) (thn (hi.run pins s σ H _ I h) fun xv s1 hx => thn hx fun itv s2 ⟨it, fp, tn, J, H2, e, I2, T, st2, f2, q⟩ => ?_)
  subst e
  refine wpAny_newObj_type (newEnv_comp ?_) (Nat.zero_le _)
  have hDn : H2 s2.heap.objs.size = none := I2.hok.fresh (Nat.le_refl _)
  obtain ⟨W, ⟨m0, w0⟩, turn⟩ := q _ hDn
  have up : ∀ b o, s2.heap.get? b = some o → (s2.heap.push { cls := .type "list", data := .seq ([] : List Value).toArray }).get? b = some o := fun b o e => Heap.get?_push_of_some _ e
  have I3 : Inv X pins σ (upd H2 s2.heap.objs.size (.lst [])) { s2 with heap := s2.heap.push { cls := .type "list", data := .seq ([] : List Value).toArray } } :=
    I2.laid (t' := s2.toks) up (Nat.le_refl _) ⟨Nat.zero_le _, [], 0, .nil, Heap.get?_push_size _ rfl⟩
  have st3 := T.keep _ _ _ st2 fun b _ o e => up b o e
  have f3 : ∀ b ∈ fp, FpOk X pins (upd H2 s2.heap.objs.size (.lst [])) b ∧ b < (s2.heap.push { cls := .type "list", data := .seq ([] : List Value).toArray }).objs.size := fun b hb => by
    obtain ⟨o, e, _⟩ := T.obj _ _ st2 b hb
    have lt : b < s2.heap.objs.size := Heap.lt_size e
    refine ⟨⟨?_, (f2 b hb).2⟩, ?_⟩
    · rw [upd_ne (Nat.ne_of_lt lt)]
      exact (f2 b hb).1
    · rw [Heap.size_push]
      exact Nat.lt_succ_of_lt lt
  generalize hD : s2.heap.objs.size = D at *
  generalize hH3 : upd H2 D (.lst []) = H3 at *
  generalize hs3 : ({ s2 with heap := s2.heap.push { cls := .type "list", data := .seq ([] : List Value).toArray } } : Shared) = s3 at *
  have hp3 : s2.heap.push { cls := .type "list", data := .seq ([] : List Value).toArray } = s3.heap := by rw [← hs3]
  rw [hp3] at st3 f3
  have hh : Here X pins σ s3 H3 fp := ⟨I3, f3⟩
  have I4 := block_start I3 ok hN f3
  have pg := hg s3 H3 s3.heap.objs.size (cellsFrom (s3.heap.objs.size + 1) scope.names (cloFrom X.env.cells scope.names [])) fp
  have pe := he pins σ s3 H3 s3.heap.objs.size (cellsFrom (s3.heap.objs.size + 1) scope.names (cloFrom X.env.cells scope.names [])) fp hh
  show codeAny _ _ (.compStart (.ListComp elt [⟨tg, iter, [], 0⟩] scope pos) 0 (.ref it) (.ref D) (compEnvC scope (cellsFrom (s3.heap.objs.size + 1) scope.names (cloFrom X.env.cells scope.names [])) s3.heap.objs.size X.env)) (compPost (model X.prog X.w) X.A X.xe none _ (.ref D) s3.heap.objs.size) { s3 with heap := pushCells (s3.heap.push { cls := .type "dict", data := .dict #[] }) scope.names }
  generalize hce : compEnvC scope (cellsFrom (s3.heap.objs.size + 1) scope.names (cloFrom X.env.cells scope.names [])) s3.heap.objs.size X.env = ce at I4 pg pe ⊢
  have cL : ce.locals = s3.heap.objs.size := by rw [← hce]; rfl
  have kp4 : ∀ b o, s3.heap.get? b = some o → (pushCells (s3.heap.push { cls := .type "dict", data := .dict #[] }) scope.names).get? b = some o := fun b o e => pushCells_keeps _ _ _ _ (Heap.get?_push_of_some _ e)
  have st4 := T.keep _ _ _ st3 fun b _ o e => kp4 b o e
  generalize hs4 : ({ s3 with heap := pushCells (s3.heap.push { cls := .type "dict", data := .dict #[] }) scope.names } : Shared) = s4 at I4 ⊢
  have hp4 : pushCells (s3.heap.push { cls := .type "dict", data := .dict #[] }) scope.names = s4.heap := by rw [← hs4]
  rw [hp4] at st4
  have stat : ∀ {σ' : L2.St} {H' : Hp} {s' : Shared}, Inv (X.blk s3 H3 scope ce fp) [] σ' H' s' → (∀ b ∈ fp, H' b = none) → ∀ b ∈ fp, FpOk (X.blk s3 H3 scope ce fp) [] H' b := fun I' hn b hb => ⟨hn b hb, (I'.ok.exf b hb).1, I'.ok.exfs b hb, .inl hb, (I'.ok.exf b hb).2, fun p hp => by cases hp⟩
  have loop : codeAny (model X.prog X.w) X.A (.compLoop (.ListComp elt [⟨tg, iter, [], 0⟩] scope pos) 0 (.ref it) (.ref D) ce) (compPost (model X.prog X.w) X.A X.xe none (EP X pins σ Q) (.ref D) s3.heap.objs.size) s4 := by
    refine compLoop_any (fun n s' => ∃ i H', Inv (X.blk s3 H3 scope ce fp) [] (wipe σ (own.map (·.2))) H' s' ∧ tn i s'.heap ∧ (∀ b ∈ fp, H' b = none) ∧ W i n H') ?_ m0 ⟨0, H3, I4, st4, fun b hb => (f3 b hb).1.1, w0⟩
    rintro n s5 ⟨i, H5, I5, st5, n5, w5⟩
    rcases turn i n H5 w5 with ⟨stop, qq⟩ | ⟨go, Nx, hNx, step⟩
    · refine thnF (T.done (X.blk s3 H3 scope ce fp) rfl rfl rfl hc i [] s5 _ H5 (fun _ _ => False) I5 (stat I5 n5) st5 stop) fun r s6 ⟨hr, I6⟩ => ?_
      subst hr
      have I7 : Inv X pins σ H5 s6 := I3.call' (ch := fp) I6.os I6.base I6.hok I6.bare fun b hb => ⟨(f3 b hb).1.2.2.2.1, (f3 b hb).1.2.1, (f3 b hb).1.2.2.2.2.1, (f3 b hb).1.2.2.2.2.2⟩
      have nC : H5 s3.heap.objs.size = none := cL ▸ I6.free
      obtain ⟨m, hn, _⟩ := I6.loc
      have hn : s6.heap.Ns ce.locals m := hn
      rw [cL] at hn
      obtain ⟨g0, g1, g2, g3, g4, g5⟩ := I3.fpOk (Nat.le_refl _) nC
      exact ⟨m, hn, fun h'' sb => ⟨.ref D, H5, I7.turned (t' := s6.toks) (fun b o hb e => (sb.2 b hb).trans e) g0 g1 g3 g4 g5, rfl, qq⟩⟩
    · refine thnF (T.item (X.blk s3 H3 scope ce fp) rfl rfl rfl hc i [] s5 _ H5 (fun _ _ => False) I5 (stat I5 n5) st5 go) fun r s6 ⟨u, hr, h6⟩ => ?_
      subst hr
      refine thnF h6 fun _ s7 ⟨x, H7, I7, r7, y7, st7, n7⟩ => ?_
      refine thnF (pg.run _ s7 _ H7 x u _ (I7.pinned (stat I7 n7) (T.obj _ _ st7)) r7 (step x H7 y7)) fun _ s8 ⟨σ8, H8, I8, hw8, q8⟩ => ?_
      refine thnF (wpAny_tests_nil (Q := fun b s' => b = true ∧ s' = s8) ⟨rfl, rfl⟩) fun b s9 hb => ?_
      obtain ⟨rfl, rfl⟩ := hb
      simp only [if_true]
      refine thnF (pe.run _ s9 σ8 H8 _ I8 q8) fun zv s10 ⟨yv, H10, I10, r10, acc, hD10, hz10, nx⟩ => ?_
      refine app_ok (X := X.blk s3 H3 scope ce fp) I10 hD10 hz10 r10 fun s11 I11 => ?_
      obtain ⟨m', hm, w'⟩ := hNx _ nx
      have pin' : ∀ b ∈ fp, ∀ o, s7.heap.get? b = some o → s11.heap.get? b = some o ∧ (upd H10 D (.lst (acc ++ [yv]))) b = none := fun b hb o e =>
        let z := I11.pin (b, o) (List.mem_append_right _ (List.mem_append_right _ (mem_pinsAt hb e)))
        ⟨z.1, z.2.1⟩
      have hl : (wipe σ (own.map (·.2))).length = σ8.length := by rw [← hw8, wipe_length]
      refine ⟨m', hm, i + 1, _, (I11.unpinned (pins := [])).weak hl (fun j v e => ?_), T.keep _ _ _ st7 fun b hb o e => (pin' b hb o e).1, fun b hb => ?_, w'⟩
      · rw [← hw8] at e
        exact (wipe_some e).1
      · obtain ⟨o, e, _⟩ := T.obj _ _ st7 b hb
        exact (pin' b hb o e).2
  exact codeAny_compStart_list loop (T.self X.A 0 _ _ _ st4 loop)
end
end NvL

set_option maxRecDepth 100000
set_option maxHeartbeats 4000000
/-! zip of two things, each a list or a tuple. -/
namespace NvZ
open PySem PySem.Spec PyProof.Rows L2
/-- a list (false) or a tuple (true) -/
def SqB (K : PySem.W.Frag) (t : Bool) (H : Hp) (a : Addr) (xs : List V) : Prop := match t with
  | true => SqT K H a xs
  | false => SqL K H a xs
def rawB (t : Bool) (h : Heap) (a : Addr) (its : Array Value) : Prop := match t with
  | true => h.IsTuple a its
  | false => h.IsList a its
def atB (t : Bool) (h : Heap) (it a : Addr) (i : Nat) : Prop := match t with
  | true => h.IsTupleIter it a i
  | false => h.IsListIter it a i
def itB (t : Bool) (a : Addr) : Obj := match t with
  | true => { cls := .type "tuple_iterator", data := .fields #[.ref a, .int 0 0] }
  | false => { cls := .type "list_iterator", data := .fields #[.ref a, .int 0 0] }
section
variable {X : Cx} {pins : List (Addr × Obj)} {σ : L2.St} {H : Hp} {s : Shared} {t : Bool} {a : Addr} {xs ys : List V}
theorem raw_of (I : Inv X pins σ H s) (q : SqB X.K t H a xs) : ∃ its : List Value, Vals xs its ∧ rawB t s.heap a its.toArray := by
  cases t with
  | true =>
    obtain ⟨its, rv, p, _⟩ := I.tuple q
    exact ⟨its, rv, p⟩
  | false =>
    obtain ⟨its, rv, p, _⟩ := I.list q
    exact ⟨its, rv, p.isList⟩
theorem inj_of (I : Inv X pins σ H s) (q : SqB X.K t H a xs) (q' : SqB X.K t H a ys) : xs = ys := by
  cases t with
  | true => exact I.tuple_inj q q'
  | false => exact I.list_inj q q'
theorem rawB.lt {h : Heap} {its : Array Value} (r : rawB t h a its) : a < h.objs.size := by
  cases t with
  | true => obtain ⟨o, e, _⟩ := r; exact Heap.lt_size e
  | false => obtain ⟨o, e, _⟩ := r; exact Heap.lt_size e
theorem atB.obj {h : Heap} {it : Addr} {i : Nat} (r : atB t h it a i) : ∃ o, h.get? it = some o ∧ ∀ v, o.data ≠ .cell v := by
  cases t with
  | true => obtain ⟨o, e, _, d⟩ := r; exact ⟨o, e, fun v q => by rw [d] at q; cases q⟩
  | false => obtain ⟨o, e, _, d⟩ := r; exact ⟨o, e, fun v q => by rw [d] at q; cases q⟩
theorem atB.keep {h h' : Heap} {it : Addr} {i : Nat} (r : atB t h it a i) (k : ∀ o, h.get? it = some o → h'.get? it = some o) : atB t h' it a i := by
  cases t with
  | true => exact Heap.IsTupleIter.at r k
  | false => exact Heap.IsListIter.at r k
theorem itB.start {h : Heap} {it : Addr} (e : h.get? it = some (itB t a)) : atB t h it a 0 := by
  cases t with
  | true => exact ⟨_, e, rfl, rfl⟩
  | false => exact ⟨_, e, rfl, rfl⟩
theorem drawsB {prog : Program} {w : World} {A : Around} (hh : A.handled = none) (t : Bool) (it a : Addr) (hne : a ≠ it) (its : Array Value) :
    Draws prog w A it [it, a] its.size (fun i v => its[i]? = some v) (fun i h => atB t h it a i ∧ rawB t h a its) := by
  cases t with
  | true => exact Draws.tuple hh it a hne its
  | false => exact Draws.list hh it a hne its
theorem beginsB (t : Bool) (a : Addr) (its : Array Value) : Begins (.ref a) (itB t a) fun h => rawB t h a its := by
  cases t with
  | true => exact begins_tuple a its
  | false => exact begins_list a its
end
/-- a and b as they stand at each turn, the items in new pairs -/
def ItB (K : PySem.W.Frag) (t : Bool) (a : Addr) (u : Bool) (b : Addr) : It :=
  ⟨fun i H => ∃ (xs ys : List V) (x y : V), SqB K t H a xs ∧ SqB K u H b ys ∧ xs[i]? = some x ∧ ys[i]? = some y,
    fun i H v H' => ∃ T x y, v = .ref T ∧ H T = none ∧ H' = upd H T (.tup [x, y]) ∧ (∀ xs, SqB K t H a xs → xs[i]? = some x) ∧ ∀ ys, SqB K u H b ys → ys[i]? = some y,
    fun i H => ∃ xs ys : List V, SqB K t H a xs ∧ SqB K u H b ys ∧ i ≤ xs.length ∧ i ≤ ys.length ∧ (i = xs.length ∨ i = ys.length)⟩
structure Apart (z TI TO i1 i2 a b : Addr) : Prop where
  sep : ZipSep2 z TI TO i1 i2 [i1, a] [i2, b]
  a1 : a ≠ i1
  b2 : b ≠ i2
theorem apart_new {n a b : Nat} (ha : a < n) (hb : b < n) : Apart (n + 4) (n + 2) (n + 3) n (n + 1) a b := by
  have two : ∀ {x y z : Nat}, x ≠ y → x ≠ z → x ∉ [y, z] := fun h1 h2 hm => by
    rcases List.mem_cons.mp hm with e | e
    · exact h1 e
    · exact h2 (List.mem_singleton.mp e)
  have k : ∀ {x y : Nat}, ¬ (x = y) → x ≠ y := fun h => h
  exact ⟨⟨k (by omega), k (by omega), k (by omega), k (by omega), List.mem_cons_self, two (k (by omega)) (k (by omega)), two (k (by omega)) (k (by omega)), k (by omega), List.mem_cons_self, two (k (by omega)) (k (by omega)), two (k (by omega)) (k (by omega)), two (k (by omega)) (k (by omega)), two (k (by omega)) (k (by omega))⟩, k (by omega), k (by omega)⟩
theorem turnB {P : Program} {w : World} {K : PySem.W.Frag} {elts : List Expr} {kk : Nat} {tpos : Pos} {t u : Bool} {a b z TI TO i1 i2 : Addr} (D : Apart z TI TO i1 i2 a b) :
    Turn P w K (.Tuple elts kk tpos) (ItB K t a u b) [z, TI, TO, i1, i2] z (fun i h => IsZip h z TI TO .none ∧ IsTupOf2 h TI (.ref i1) (.ref i2) ∧ (∃ x y, IsTupOf2 h TO x y) ∧ atB t h i1 a i ∧ atB u h i2 b i) where
  mem := List.mem_cons_self
  obj := fun i h st c hc => by
    obtain ⟨hz, hTI, ⟨x, y, hTO⟩, h1, h2⟩ := st
    simp only [List.mem_cons, List.not_mem_nil, or_false] at hc
    rcases hc with rfl | rfl | rfl | rfl | rfl
    · exact ⟨_, hz, fun v q => nomatch q⟩
    · exact ⟨_, hTI, fun v q => nomatch q⟩
    · exact ⟨_, hTO, fun v q => nomatch q⟩
    · exact h1.obj
    · exact h2.obj
  keep := fun i h h' st k => by
    obtain ⟨hz, hTI, ⟨x, y, hTO⟩, h1, h2⟩ := st
    exact ⟨k z (by simp) _ hz, k TI (by simp) _ hTI, ⟨x, y, k TO (by simp) _ hTO⟩, h1.keep fun o q => k i1 (by simp) o q, h2.keep fun o q => k i2 (by simp) o q⟩
  item := by
    intro X hP hw hK hc i pins s σ H E I hf st hg
    subst hP hw hK
    obtain ⟨hz, hTI, ⟨x0, y0, hTO⟩, h1, h2⟩ := st
    obtain ⟨xs, ys, x, y, hqx, hqy, hx, hy⟩ := hg
    obtain ⟨its, rv, p⟩ := raw_of I hqx
    obtain ⟨its2, rv2, p2⟩ := raw_of I hqy
    obtain ⟨v1, e1, r1⟩ := rv.get hx
    obtain ⟨v2, e2, r2⟩ := rv2.get hy
    have hzl : z < s.heap.objs.size := Heap.lt_size hz
    have lt1 : i < its.toArray.size := by
      rw [List.size_toArray]
      exact (List.getElem?_eq_some_iff.mp e1).1
    have lt2 : i < its2.toArray.size := by
      rw [List.size_toArray]
      exact (List.getElem?_eq_some_iff.mp e2).1
    refine wpAny_pyNext_zipD2_item D.sep (drawsB (A := X.A.in1) (I.ok.hd hc) t i1 a D.a1 its.toArray) (drawsB (A := X.A.in1) (I.ok.hd hc) u i2 b D.b2 its2.toArray) hz hTI hTO ⟨h1, p⟩ ⟨h2, p2⟩ lt1 lt2 fun w1 w2 h' tk g1 g2 z' TO' k1 k2 hT hsz hk => ?_
    obtain rfl : w1 = v1 := Option.some.inj ((show its.toArray[i]? = some w1 from g1).symm.trans (by simpa using e1))
    obtain rfl : w2 = v2 := Option.some.inj ((show its2.toArray[i]? = some w2 from g2).symm.trans (by simpa using e2))
    refine ⟨_, rfl, wpAny_letOwnedTupleGo_zip (s := { s with heap := h', toks := tk }) z' fun h'' z'' sb => ?_⟩
    have hT2 : h''.get? s.heap.objs.size = some { cls := .type "tuple", data := .seq #[w1, w2] } := (sb.2 _ (Nat.ne_of_gt hzl)).trans hT
    have new : ObjOk X.prog X.w (upd H s.heap.objs.size (.tup [x, y])) h'' s.heap.objs.size (.tup [x, y]) :=
      ⟨by show 2 ≤ sizeLine; decide, [w1, w2], .cons r1 (.cons r2 .nil), ⟨_, hT2, rfl, _, rfl⟩⟩
    have I1 : Inv X pins σ (upd H s.heap.objs.size (.tup [x, y])) { s with heap := h'', toks := tk } :=
      I.turnedNew (t' := tk) (ch := [z, TI, TO, i1, i2]) (fun c o hb q => by
        simp only [List.mem_cons, List.not_mem_nil, or_false, not_or] at hb
        exact (sb.2 c hb.1).trans (hk c o hb.1 hb.2.2.1 hb.2.2.2.1 hb.2.2.2.2 q)) hf (Nat.le_refl _) new
    have S := D.sep
    refine ⟨.ref s.heap.objs.size, _, I1, rfl, ⟨_, x, y, rfl, I.hok.fresh (Nat.le_refl _), rfl, fun l hl => by rw [inj_of I hl hqx]; exact hx, fun l hl => by rw [inj_of I hl hqy]; exact hy⟩, ⟨z'', ?_, ⟨w1, w2, ?_⟩, ?_, ?_⟩, fun c hcm => ?_⟩
    · exact (sb.2 _ S.TIz).trans (hk _ _ S.TIz S.TITO S.TIi1 S.TIi2 hTI)
    · exact (sb.2 _ S.TOz).trans TO'
    · exact k1.1.keep fun o q => (sb.2 _ S.zi1.symm).trans q
    · exact k2.1.keep fun o q => (sb.2 _ S.zi2.symm).trans q
    · have hlt : c < s.heap.objs.size := by
        simp only [List.mem_cons, List.not_mem_nil, or_false] at hcm
        rcases hcm with rfl | rfl | rfl | rfl | rfl
        · exact hzl
        · exact Heap.lt_size hTI
        · exact Heap.lt_size hTO
        · obtain ⟨_, q, _⟩ := h1.obj; exact Heap.lt_size q
        · obtain ⟨_, q, _⟩ := h2.obj; exact Heap.lt_size q
      rw [upd_ne (Nat.ne_of_lt hlt)]
      exact (hf c hcm).1
  done := by
    intro X hP hw hK hc i pins s σ H E I hf st hg
    subst hP hw hK
    obtain ⟨hz, hTI, ⟨x0, y0, hTO⟩, h1, h2⟩ := st
    obtain ⟨xs, ys, hqx, hqy, l1, l2, hend⟩ := hg
    obtain ⟨its, rv, p⟩ := raw_of I hqx
    obtain ⟨its2, rv2, p2⟩ := raw_of I hqy
    have m1 : xs.length = its.toArray.size := by rw [List.size_toArray]; exact rv.length
    have m2 : ys.length = its2.toArray.size := by rw [List.size_toArray]; exact rv2.length
    rw [m1] at l1 hend
    rw [m2] at l2 hend
    exact wpAny_pyNext_zipD2_end D.sep (drawsB (A := X.A.in1) (I.ok.hd hc) t i1 a D.a1 its.toArray) (drawsB (A := X.A.in1) (I.ok.hd hc) u i2 b D.b2 its2.toArray) hz hTI hTO ⟨h1, p⟩ ⟨h2, p2⟩ l1 l2 hend fun h' tk hk =>
      ⟨rfl, I.turnedL (t' := tk) (ch := [z, TI, TO, i1, i2]) (fun c o hb q => by
        simp only [List.mem_cons, List.not_mem_nil, or_false, not_or] at hb
        exact hk c o hb.1 hb.2.2.1 hb.2.2.2.1 hb.2.2.2.2 q) hf⟩
  self := fun A i s Q E st h => wpAny_pyIter_zip st.1 h
/-- zip(x, y), each a list or a tuple -/
def iZipB (K : PySem.W.Frag) (ta : TA) : TI := fun σ H R => ta σ H fun vs H1 => ∃ t a u b xs ys, vs = [.ref a, .ref b] ∧ SqB K t H1 a xs ∧ SqB K u H1 b ys ∧ R (ItB K t a u b) H1
theorem pi_zipB (K : PySem.W.Frag) {X : Cx} {e e2 : Expr} {ta : TA} {p pos tpos : Pos} {elts : List Expr} {kk : Nat} (hg : Gl X "zip") (hm : X.mg "zip" = none) (ha : PA X [e, e2] ta) (hK : X.K = K := by rfl)
    (hs : starEach [e, e2] X.env = (false, eval e X.env) :: starEach [e2] X.env := by rfl) (hpl : (backTo pos (starEach [e2] X.env)).any (·.1) = false := by rfl) :
    PI X (.Tuple elts kk tpos) (.Call (.Name "zip" p) [e, e2] [] pos) (iZipB K ta) := by
  subst hK
  refine ⟨fun pins s σ H R I h => ?_⟩
  refine Call_ (ld_blt I hg hm PyProof.Rows.boot_zip (PyProof.Rows.callWith_type1 (thn (ha.run pos pins s σ H _ I h) fun us s1 ⟨vs, H1, I1, r1, q1⟩ => ?_) hs hpl))
  obtain ⟨t, a, u, b, xs, ys, rfl, hqx, hqy, q⟩ := q1
  cases r1 with
  | cons r rr =>
    cases rr with
    | cons r' rr =>
      cases rr
      cases r
      cases r'
      obtain ⟨its, rv, p1⟩ := raw_of I1 hqx
      obtain ⟨its2, rv2, p2⟩ := raw_of I1 hqy
      refine zip_begins2 (beginsB t a its.toArray) (beginsB u b its2.toArray) p1 p2 fun h' hz hTI hTO h1 h2 hsz hk => wpAny_pyIter_zip hz ?_
      have fresh5 : ∀ c, c ∈ [s1.heap.objs.size + 4, s1.heap.objs.size + 2, s1.heap.objs.size + 3, s1.heap.objs.size, s1.heap.objs.size + 1] → FpOk X pins H1 c := fun c hcm => by
        have hle : s1.heap.objs.size ≤ c := by
          simp only [List.mem_cons, List.not_mem_nil, or_false] at hcm
          rcases hcm with rfl | rfl | rfl | rfl | rfl <;> omega
        exact I1.fpOk hle (I1.hok.fresh hle)
      exact ⟨s1.heap.objs.size + 4, _, _, _, H1, rfl, I1.kept (t' := s1.toks) hk, turnB (apart_new p1.lt p2.lt), ⟨hz, hTI, ⟨_, _, hTO⟩, itB.start h1, itB.start h2⟩, fresh5, q⟩
theorem walk_zipB {K : PySem.W.Frag} {t u : Bool} {a b : Addr} {xs ys : List V} {n : Nat} (h1 : xs.length = n) (h2 : ys.length = n) : Walk (ItB K t a u b) n (fun H => SqB K t H a xs ∧ SqB K u H b ys) (YPair (fun i => xs[i]?) (fun i => ys[i]?)) := by
  refine ⟨fun i _ hi q => ?_, fun _ q => ⟨xs, ys, q.1, q.2, by omega, by omega, by omega⟩, fun i H v H' _ q y => ?_⟩
  · exact ⟨xs, ys, _, _, q.1, q.2, List.getElem?_eq_getElem (by omega), List.getElem?_eq_getElem (by omega)⟩
  · obtain ⟨T, x, y', e1, e2, e3, e4, e5⟩ := y
    exact ⟨T, x, y', e1, e2, e3, e4 xs q.1, e5 ys q.2⟩
end NvZ

set_option maxRecDepth 100000
set_option maxHeartbeats 4000000
/-! list(zip(*rows)), at the level of the heap. -/
namespace NvZ
open PySem PySem.Spec PyProof.Rows L2
open PySem.Sem (wp)
/-- a column: list or tuple, its address, its items -/
structure Col where
  t : Bool
  a : Addr
  its : Array Value
def Col.st (c : Col) (it : Addr) (i : Nat) (h : Heap) : Prop := atB c.t h it c.a i ∧ rawB c.t h c.a c.its
def Sts (i : Nat) (h : Heap) : List Addr → List Col → Prop := Paired fun it c => c.st it i h
/-- the iterators lie apart from one another and from what they walk -/
structure Apts (ns : List Addr) (cs : List Col) : Prop where
  nd : ns.Nodup
  off : ∀ n ∈ ns, ∀ c ∈ cs, n ≠ c.a
theorem Apts.tail {n : Addr} {c : Col} {ns : List Addr} {cs : List Col} (A : Apts (n :: ns) (c :: cs)) : Apts ns cs :=
  ⟨(List.nodup_cons.mp A.nd).2, fun m hm d hd => A.off m (List.mem_cons_of_mem _ hm) d (List.mem_cons_of_mem _ hd)⟩
theorem rawB.keep {t : Bool} {h h' : Heap} {a : Addr} {its : Array Value} (r : rawB t h a its) (k : ∀ o, h.get? a = some o → h'.get? a = some o) : rawB t h' a its := by
  cases t with
  | true => obtain ⟨o, e, x⟩ := r; exact ⟨o, k o e, x⟩
  | false => obtain ⟨o, e, x⟩ := r; exact ⟨o, k o e, x⟩
theorem Col.st.keep {c : Col} {it : Addr} {i : Nat} {h h' : Heap} (s : c.st it i h) (k1 : ∀ o, h.get? it = some o → h'.get? it = some o) (k2 : ∀ o, h.get? c.a = some o → h'.get? c.a = some o) : c.st it i h' := ⟨s.1.keep k1, s.2.keep k2⟩
theorem Sts.keep {i : Nat} {h h' : Heap} : ∀ {ns : List Addr} {cs : List Col}, Sts i h ns cs → (∀ b, b ∈ ns ∨ (∃ c ∈ cs, b = c.a) → ∀ o, h.get? b = some o → h'.get? b = some o) → Sts i h' ns cs
  | _, _, .nil, _ => .nil
  | _, _, .cons s r, k => .cons (s.keep (k _ (.inl List.mem_cons_self)) (k _ (.inr ⟨_, List.mem_cons_self, rfl⟩)))
    (Sts.keep r fun b hb => k b (hb.elim (fun z => .inl (List.mem_cons_of_mem _ z)) fun ⟨c, z, e⟩ => .inr ⟨c, List.mem_cons_of_mem _ z, e⟩))
/-- the i-th row across -/
def Row (cs : List Col) (i : Nat) (vs : List Value) : Prop := Paired (fun (c : Col) (v : Value) => c.its[i]? = some v) cs vs
section
variable {prog : Program} {w : World} {A : Around} {E : Value → Shared → Prop}
/-- all iterators drawn, what is drawn is gathered -/
theorem draw_all (hh : A.handled = none) {i : Nat} {β : Type} (f : Value → β → Sem (ForInStep β)) (g : List Value → β)
    (hf : ∀ (n : Addr) (vs : List Value) (s : Shared) (Q : ForInStep β → Shared → Prop), wpAny (model prog w) A (Builtin.SmallTypes.nextOf (.ref n)) (fun x s' => Q (.yield (g (vs ++ [x]))) s') E s → wpAny (model prog w) A (f (.ref n) (g vs)) Q E s) :
    ∀ {ns : List Addr} {cs : List Col} {vs : List Value} {s : Shared} {Q : β → Shared → Prop}, Sts i s.heap ns cs → Apts ns cs → (∀ c ∈ cs, i < c.its.size) →
      (∀ (h' : Heap) (tk : Nat) (us : List Value), Row cs i us → Sts (i + 1) h' ns cs → h'.objs.size = s.heap.objs.size → (∀ b o, b ∉ ns → s.heap.get? b = some o → h'.get? b = some o) → Q (g (vs ++ us)) { s with heap := h', toks := tk }) →
      wpAny (model prog w) A (forIn (ns.map Value.ref) (g vs) f) Q E s
  | [], _, vs, s, Q, .nil, _, _, h => by
    rw [List.map_nil, List.forIn_nil]
    have z := h s.heap s.toks [] .nil .nil rfl fun b o _ e => e
    rw [List.append_nil] at z
    exact wpAny_pure z
  | n :: ns, c :: cs, vs, s, Q, .cons st r, ap, lt, h => by
    rw [List.map_cons, List.forIn_cons]
    have na : c.a ≠ n := (ap.off n List.mem_cons_self c List.mem_cons_self).symm
    have D := drawsB (prog := prog) (w := w) (A := A) hh c.t n c.a na c.its
    refine wpAny_bind (hf n vs s _ (D.item i s _ _ (lt c List.mem_cons_self) st fun x p tk hx st' hp => ?_))
    have nn : n ∉ ns := (List.nodup_cons.mp ap.nd).1
    have r' : Sts i p ns cs := Sts.keep r fun b hb o e => hp.extBut b o (by
      rcases hb with z | ⟨d, z, e2⟩
      · exact fun q => nn (q ▸ z)
      · exact fun q => ap.off n List.mem_cons_self d (List.mem_cons_of_mem _ z) (q.symm.trans e2)) e
    refine draw_all hh f g hf (s := { s with heap := p, toks := tk }) r' ap.tail (fun d hd => lt d (List.mem_cons_of_mem _ hd)) fun h' tk' us ru st2 hsz k => ?_
    rw [List.append_assoc]
    refine h h' tk' (x :: us) (.cons hx ru) (.cons (Col.st.keep st' (k n · nn) (k c.a · fun z => ap.off c.a (List.mem_cons_of_mem _ z) c List.mem_cons_self rfl)) st2) (hsz.trans hp.1) fun b o hb e => ?_
    exact k b o (fun z => hb (List.mem_cons_of_mem _ z)) (hp.extBut b o (fun z => hb (z ▸ List.mem_cons_self)) e)
/-- the zip behind its first row: its tuple is out -/
theorem held_item (hh : A.handled = none) {i : Nat} {z TI TO T : Addr} {fl : Bool} {oT : Obj} {ns : List Addr} {cs : List Col} {s : Shared} {Q : Value → Shared → Prop} (hz : IsZipHeld s.heap z TI TO T fl) (hT : s.heap.get? T = some oT)
    (hTI : s.heap.get? TI = some { cls := .type "tuple", data := .seq (ns.map Value.ref).toArray }) (hne : ns ≠ []) (st : Sts i s.heap ns cs) (ap : Apts ns cs) (lt : ∀ c ∈ cs, i < c.its.size) (zn : z ∉ ns) (zc : ∀ c ∈ cs, z ≠ c.a) (hsm : ns.length ≤ 1000)
    (h : ∀ (h' : Heap) (tk : Nat) (us : List Value), Row cs i us → Sts (i + 1) h' ns cs → IsZipHeld h' z TI TO T true → h'.objs.size = s.heap.objs.size → (∀ b o, b ≠ z → b ∉ ns → s.heap.get? b = some o → h'.get? b = some o) →
      Q (.ref s.heap.objs.size) { s with heap := h'.push { cls := .type "tuple", data := .seq us.toArray }, toks := tk }) :
    wpAny (model prog w) A (Builtin.«zip.__next__» ⟨[.ref z], []⟩) (fun fin s' => ∃ v, fin = .done (.ret v) ∧ Q v s') E s := by
  show wpAny _ _ (field (.ref z) 2 >>= _) _ _ _
  refine wpAny_bind (wpAny_field hz rfl (x := .bool false) rfl ?_)
  show wpAny _ _ (field (.ref z) 3 >>= _) _ _ _
  refine wpAny_bind (wpAny_field hz rfl (x := .ref TI) rfl ?_)
  refine wpAny_bind (wpAny_seqItems hTI rfl ?_)
  have em : (ns.map Value.ref).toArray.isEmpty = false := by
    cases ns with
    | nil => exact absurd rfl hne
    | cons a r => rfl
  simp only [em, Bool.false_eq_true, if_false]
  refine wpAny_bind (wpAny_tupleHeld_zip hz hT fun h1 hz1 sb1 => ?_)
  simp only [Bool.false_eq_true, if_false]
  have st1 : Sts i h1 ns cs := Sts.keep st fun b hb o e => sb1.extBut b o (by
    rcases hb with q | ⟨c, q, e2⟩
    · exact fun x => zn (x ▸ q)
    · exact fun x => zc c q (x.symm.trans e2)) e
  refine wpAny_bind ?_
  rw [List.forIn_toArray]
  refine draw_all hh _ (fun vs => ((none : Option Fin), vs.toArray)) (fun n vs s Q hq => ?_) (vs := []) st1 ap lt fun h2 tk us ru st2 hsz k => ?_
  · refine wpAny_bind (wpAny_holding ?_)
    show wpAny _ _ (Builtin.SmallTypes.nextOf (.ref n) >>= fun x => pure (some x)) _ _ _
    refine wpAny_bind (wpAny_mono hq (fun x s' hx => wpAny_pure (wpAny_pure ?_)) fun _ _ e => e)
    have e2 : (vs ++ [x]).toArray = vs.toArray.push x := by simp
    rw [e2] at hx
    exact hx
  · rw [List.nil_append]
    have hl : us.length = cs.length := (Paired.length ru).symm
    have hl2 : ns.length = cs.length := Paired.length st
    show wpAny _ _ (newTuple us.toArray.toList >>= fun r => ret r) _ _ _
    refine wpAny_bind (wpAny_newTuple ?_ (by rw [List.toList_toArray]; have := sizeLine_eq; omega))
    have z2 : IsZipHeld h2 z TI TO T true := k z _ zn hz1
    have hs2 : h2.objs.size = s.heap.objs.size := hsz.trans sb1.1
    refine wpAny_pure ⟨_, rfl, ?_⟩
    rw [List.toList_toArray]
    show Q (.ref h2.objs.size) _
    rw [hs2]
    exact h h2 tk us ru st2 z2 hs2 fun b o h1 h2 e => k b o h2 (sb1.extBut b o h1 e)
/-- .. behind its last row -/
theorem held_end (hh : A.handled = none) {i : Nat} {z TI TO T : Addr} {fl : Bool} {oT : Obj} {n : Addr} {c : Col} {ns : List Addr} {cs : List Col} {s : Shared} {Q : Fin → Shared → Prop} (hz : IsZipHeld s.heap z TI TO T fl) (hT : s.heap.get? T = some oT)
    (hTI : s.heap.get? TI = some { cls := .type "tuple", data := .seq ((n :: ns).map Value.ref).toArray }) (st : c.st n i s.heap) (na : c.a ≠ n) (he : c.its.size = i) (zn : z ≠ n) (zc : z ≠ c.a)
    (h : ∀ (h' : Heap) (e : Addr), (∀ b o, b ≠ z → b ≠ n → s.heap.get? b = some o → h'.get? b = some o) → (∃ o, h'.get? e = some o ∧ o.cls = .type "StopIteration") → E (.ref e) { s with heap := h' }) :
    wpAny (model prog w) A (Builtin.«zip.__next__» ⟨[.ref z], []⟩) Q E s := by
  show wpAny _ _ (field (.ref z) 2 >>= _) _ _ _
  refine wpAny_bind (wpAny_field hz rfl (x := .bool false) rfl ?_)
  show wpAny _ _ (field (.ref z) 3 >>= _) _ _ _
  refine wpAny_bind (wpAny_field hz rfl (x := .ref TI) rfl ?_)
  refine wpAny_bind (wpAny_seqItems hTI rfl ?_)
  have em : ((n :: ns).map Value.ref).toArray.isEmpty = false := rfl
  simp only [em, Bool.false_eq_true, if_false]
  refine wpAny_bind (wpAny_tupleHeld_zip hz hT fun h1 hz1 sb1 => ?_)
  simp only [Bool.false_eq_true, if_false]
  have st1 : c.st n i h1 := st.keep (sb1.extBut n · zn.symm) (sb1.extBut c.a · zc.symm)
  refine wpAny_bind ?_
  rw [List.forIn_toArray, List.map_cons, List.forIn_cons]
  refine wpAny_bind (wpAny_bind (wpAny_holding ?_))
  show wpAny _ _ (Builtin.SmallTypes.nextOf (.ref n) >>= fun x => pure (some x)) _ _ _
  have D := drawsB (prog := prog) (w := w) (A := A) hh c.t n c.a na c.its
  rw [← he] at st1
  exact wpAny_bind (D.done { s with heap := h1 } _ _ st1 fun h2 e hx ho => h h2 e (fun b o h1 h2 q => hx b o h2 (sb1.extBut b o h1 q)) ho)
abbrev tupO (l : List Value) : Obj := { cls := .type "tuple", data := .seq l.toArray }
theorem set_mid {α : Type} (x p : α) (post : List α) : ∀ pre : List α, (pre ++ p :: post).set pre.length x = (pre ++ [x]) ++ post
  | [] => rfl
  | a :: pre => by rw [List.cons_append, List.length_cons, List.set_cons_succ, set_mid x p post pre, List.cons_append, List.cons_append]
/-- all iterators drawn into the zip's own tuple -/
theorem draw_free (hh : A.handled = none) {i : Nat} {TO : Addr} {β : Type} (f : Value × Nat → β → Sem (ForInStep β)) (b : β)
    (hf : ∀ (n : Addr) (k : Nat) (s : Shared) (Q : ForInStep β → Shared → Prop), (∀ E' : Value → Shared → Prop, wpAny (model prog w) A (Builtin.SmallTypes.nextOf (.ref n)) (fun x s' => ∃ os, s'.heap.get? TO = some (tupO os) ∧ os.length ≤ 1000 ∧
      ∀ h', h'.get? TO = some (tupO (os.set k x)) → Heap.SameBut TO s'.heap h' → Q (.yield b) { s' with heap := h' }) E' s) → wpAny (model prog w) A (f (.ref n, k) b) Q E s) :
    ∀ {ns : List Addr} {cs : List Col} {pre post : List Value} {s : Shared} {Q : β → Shared → Prop}, Sts i s.heap ns cs → Apts ns cs → (∀ c ∈ cs, i < c.its.size) → TO ∉ ns → (∀ c ∈ cs, TO ≠ c.a) → s.heap.get? TO = some (tupO (pre ++ post)) → post.length = ns.length → (pre ++ post).length ≤ 1000 →
      (∀ (h' : Heap) (tk : Nat) (us : List Value), Row cs i us → Sts (i + 1) h' ns cs → h'.get? TO = some (tupO (pre ++ us)) → h'.objs.size = s.heap.objs.size → (∀ b o, b ≠ TO → b ∉ ns → s.heap.get? b = some o → h'.get? b = some o) → Q b { s with heap := h', toks := tk }) →
      wpAny (model prog w) A (forIn ((ns.map Value.ref).zipIdx pre.length) b f) Q E s
  | [], _, pre, post, s, Q, .nil, _, _, _, _, ht, hl, _, h => by
    rw [List.map_nil, List.zipIdx_nil, List.forIn_nil]
    have e : post = [] := List.eq_nil_of_length_eq_zero hl
    subst e
    exact wpAny_pure (h s.heap s.toks [] .nil .nil ht rfl fun b o _ _ e => e)
  | n :: ns, c :: cs, pre, post, s, Q, .cons st r, ap, lt, tn, tc, ht, hl, hz, h => by
    rw [List.map_cons, List.zipIdx_cons, List.forIn_cons]
    cases post with
    | nil => cases hl
    | cons p post =>
      have na : c.a ≠ n := (ap.off n List.mem_cons_self c List.mem_cons_self).symm
      have nn : n ∉ ns := (List.nodup_cons.mp ap.nd).1
      have tn1 : TO ≠ n := fun q => tn (q ▸ List.mem_cons_self)
      have D := drawsB (prog := prog) (w := w) (A := A) hh c.t n c.a na c.its
      refine wpAny_bind (hf n pre.length s _ fun E' => D.item i s _ _ (lt c List.mem_cons_self) st fun x g tk hx st' hg => ⟨pre ++ p :: post, hg.extBut TO _ tn1 ht, hz, fun g2 h2 hg2 => ?_⟩)
      rw [set_mid] at h2
      have k2 : ∀ b o, b ≠ n → b ≠ TO → s.heap.get? b = some o → g2.get? b = some o := fun b o h1 h2 e => hg2.extBut b o h2 (hg.extBut b o h1 e)
      have r' : Sts i g2 ns cs := Sts.keep r fun b hb o e => by
        rcases hb with q | ⟨d, q, e2⟩
        · exact k2 b o (fun x => nn (x ▸ q)) (fun x => tn (x ▸ List.mem_cons_of_mem _ q)) e
        · exact k2 b o (fun x => ap.off n List.mem_cons_self d (List.mem_cons_of_mem _ q) (x.symm.trans e2)) (fun x => tc d (List.mem_cons_of_mem _ q) (x.symm.trans e2)) e
      have st2 : c.st n (i + 1) g2 := Col.st.keep st' (hg2.extBut n · tn1.symm) (hg2.extBut c.a · (tc c List.mem_cons_self).symm)
      have e3 : pre.length + 1 = (pre ++ [x]).length := by simp
      rw [e3]
      have hl' : post.length = ns.length := Nat.succ.inj hl
      refine draw_free hh f b hf (s := { s with heap := g2, toks := tk }) r' ap.tail (fun d hd => lt d (List.mem_cons_of_mem _ hd)) (fun q => tn (List.mem_cons_of_mem _ q)) (fun d hd => tc d (List.mem_cons_of_mem _ hd)) h2 hl' (by simp only [List.length_append, List.length_cons, List.length_nil] at hz ⊢; omega) fun h' tk' us ru st3 ht3 hsz k => ?_
      rw [List.append_assoc] at ht3
      refine h h' tk' (x :: us) (.cons hx ru) (.cons (Col.st.keep st2 (k n · tn1.symm nn) (k c.a · (tc c List.mem_cons_self).symm fun z => ap.off c.a (List.mem_cons_of_mem _ z) c List.mem_cons_self rfl)) st3) ht3 (hsz.trans (hg2.1.trans hg.1)) fun b o h1 hb e => ?_
      exact k b o h1 (fun z => hb (List.mem_cons_of_mem _ z)) (k2 b o (fun z => hb (z ▸ List.mem_cons_self)) h1 e)
/-- its first row: its own tuple is filled, a new one is given -/
theorem free_item (hh : A.handled = none) {i : Nat} {z TI TO : Addr} {ns : List Addr} {cs : List Col} {os : List Value} {s : Shared} {Q : Value → Shared → Prop} (hz : IsZip s.heap z TI TO .none)
    (hTI : s.heap.get? TI = some { cls := .type "tuple", data := .seq (ns.map Value.ref).toArray }) (hTO : s.heap.get? TO = some { cls := .type "tuple", data := .seq os.toArray }) (hos : os.length = ns.length) (hne : ns ≠ []) (st : Sts i s.heap ns cs) (ap : Apts ns cs) (lt : ∀ c ∈ cs, i < c.its.size) (zn : z ∉ ns) (zc : ∀ c ∈ cs, z ≠ c.a) (tn : TO ∉ ns) (tc : ∀ c ∈ cs, TO ≠ c.a) (tz : TO ≠ z) (hsm : ns.length ≤ 1000)
    (h : ∀ (h' : Heap) (tk : Nat) (us : List Value), Row cs i us → Sts (i + 1) h' ns cs → IsZipHeld h' z TI TO s.heap.objs.size false → h'.get? s.heap.objs.size = some { cls := .type "tuple", data := .seq us.toArray } → (∀ b o, b ≠ z → b ≠ TO → b ∉ ns → s.heap.get? b = some o → h'.get? b = some o) →
      Q (.ref s.heap.objs.size) { s with heap := h', toks := tk }) :
    wpAny (model prog w) A (Builtin.«zip.__next__» ⟨[.ref z], []⟩) (fun fin s' => ∃ v, fin = .done (.ret v) ∧ Q v s') E s := by
  show wpAny _ _ (field (.ref z) 2 >>= _) _ _ _
  refine wpAny_bind (wpAny_field hz rfl (x := .bool false) rfl ?_)
  show wpAny _ _ (field (.ref z) 3 >>= _) _ _ _
  refine wpAny_bind (wpAny_field hz rfl (x := .ref TI) rfl ?_)
  refine wpAny_bind (wpAny_seqItems hTI rfl ?_)
  have em : (ns.map Value.ref).toArray.isEmpty = false := by
    cases ns with
    | nil => exact absurd rfl hne
    | cons a r => rfl
  simp only [em, Bool.false_eq_true, if_false]
  show wpAny _ _ (Builtin.SmallTypes.ownedTupleIsFree (.ref z) >>= _) _ _ _
  refine wpAny_bind ?_
  unfold Builtin.SmallTypes.ownedTupleIsFree
  refine wpAny_bind (wpAny_field hz rfl (x := .none) rfl (wpAny_pure ?_))
  simp only [if_true]
  refine wpAny_bind (wpAny_rule ?_)
  refine wpAny_bind (wpAny_field hz rfl (x := .ref TO) rfl ?_)
  refine wpAny_bind (wpAny_setField_rec hz (by simp) fun g0 hz0 hs0 => ?_)
  refine wpAny_bind ?_
  have sb : ∀ b o, b ≠ z → s.heap.get? b = some o → g0.get? b = some o := fun b o h e => hs0.extBut b o h e
  have st0 : Sts i g0 ns cs := Sts.keep st fun b hb o e => sb b o (by
    rcases hb with q | ⟨c, q, e2⟩
    · exact fun x => zn (x ▸ q)
    · exact fun x => zc c q (x.symm.trans e2)) e
  refine draw_free hh (TO := TO) _ _ (fun n k s Q hq => ?_) (pre := []) (post := os) st0 ap lt tn tc (sb TO _ tz hTO) hos (by rw [List.nil_append]; omega) fun h2 tk us ru st2 ht2 hsz k => ?_
  · refine wpAny_bind (wpAny_onRaise ?_)
    show wpAny _ _ (Builtin.SmallTypes.nextOf (.ref n) >>= fun x => pure (some x)) _ _ _
    refine wpAny_bind (wpAny_mono (hq (fun _ _ => False)) (fun x s' hx => wpAny_pure ?_) fun _ _ e => e.elim)
    obtain ⟨os', e1, e2, e3⟩ := hx
    refine wpAny_bind (wpAny_seqItems e1 rfl ?_)
    refine wpAny_bind (wpAny_updateSeq e1 rfl ?_ (by rw [List.size_toArray]; have := sizeLine_eq; omega) (by simp only [Array.size_setIfInBounds, List.size_toArray]; have := sizeLine_eq; omega))
    refine wpAny_bind (wpAny_letGo (wpAny_pure (e3 _ ?_ (Heap.SameBut.update ..))))
    rw [Heap.get?_update_self _ e1 rfl]
    simp [Obj.mapSeq, tupO]
  · rw [List.nil_append] at ht2
    have hl : us.length = cs.length := (Paired.length ru).symm
    have hl2 : ns.length = cs.length := Paired.length st
    refine wpAny_bind (wpAny_seqItems ht2 rfl ?_)
    refine wpAny_bind (wpAny_newTuple ?_ (by rw [List.toList_toArray]; have := sizeLine_eq; omega))
    have hs2 : h2.objs.size = s.heap.objs.size := hsz.trans hs0.1
    have hz2 : IsZip h2 z TI TO .ellipsis := k z _ tz.symm zn hz0
    have hz3 : IsZip (h2.push (tupO us)) z TI TO .ellipsis := Heap.get?_push_of_some _ hz2
    rw [List.toList_toArray]
    show wpAny _ _ (Builtin.SmallTypes.ownedTupleHandOut (.ref z) (.ref h2.objs.size) >>= _) _ _ _
    refine wpAny_bind ?_
    unfold Builtin.SmallTypes.ownedTupleHandOut
    refine wpAny_bind (wpAny_setField_rec hz3 (by simp) fun h4 hz4 sb4 => ?_)
    replace hz4 : IsZip h4 z TI TO (rawInt h2.objs.size) := hz4
    refine wpAny_setField_rec hz4 (by simp) fun h5 hz5 sb5 => ?_
    replace hz5 : IsZipHeld h5 z TI TO h2.objs.size false := hz5
    have up : ∀ b o, b ≠ z → (h2.push (tupO us)).get? b = some o → h5.get? b = some o := fun b o hb e => sb5.extBut b o hb (sb4.extBut b o hb e)
    have ne : h2.objs.size ≠ z := Nat.ne_of_gt (Heap.lt_size hz2)
    have hT : h5.get? h2.objs.size = some (tupO us) := up _ _ ne (Heap.get?_push_size _ rfl)
    refine wpAny_pure ⟨_, rfl, ?_⟩
    show Q (.ref h2.objs.size) _
    rw [hs2] at hz5 hT ⊢
    refine h h5 tk us ru (Sts.keep st2 fun b hb o e => up b o (by
      rcases hb with q | ⟨c, q, e2⟩
      · exact fun x => zn (x ▸ q)
      · exact fun x => zc c q (x.symm.trans e2)) (Heap.get?_push_of_some _ e)) hz5 hT fun b o h1 h3 h4 e => up b o h1 (Heap.get?_push_of_some _ (k b o h3 h4 (sb b o h1 e)))
end
end NvZ

set_option maxRecDepth 100000
set_option maxHeartbeats 4000000
namespace NvZ
open PySem PySem.Spec PyProof.Rows L2
open PySem.Sem (wp)
/-- where a zip's things lie -/
structure Lay (z TI TO : Addr) (ns : List Addr) (cs : List Col) : Prop where
  ap : Apts ns cs
  ne : ns ≠ []
  sm : ns.length ≤ 1000
  zn : z ∉ ns
  zc : ∀ c ∈ cs, z ≠ c.a
  tn : TO ∉ ns
  tc : ∀ c ∈ cs, TO ≠ c.a
  tz : TO ≠ z
  iz : TI ≠ z
  io : TI ≠ TO
  in_ : TI ∉ ns
/-- its tuple is out -/
def Held (z TI TO : Addr) (ns : List Addr) (h : Heap) : Prop := ∃ T fl oT, IsZipHeld h z TI TO T fl ∧ h.get? T = some oT ∧ T ≠ z ∧ T ≠ TO ∧ T ∉ ns
/-- the zip behind j rows -/
def ZSt (z TI TO : Addr) (ns : List Addr) (cs : List Col) (j : Nat) (h : Heap) : Prop :=
  h.get? TI = some (tupO (ns.map Value.ref)) ∧ Sts j h ns cs ∧
    ((IsZip h z TI TO .none ∧ ∃ os : List Value, h.get? TO = some (tupO os) ∧ os.length = ns.length) ∨ Held z TI TO ns h)
def off (z TO : Addr) (ns : List Addr) (h h' : Heap) : Prop := ∀ b o, b ≠ z → b ≠ TO → b ∉ ns → h.get? b = some o → h'.get? b = some o
theorem Sts.live {i : Nat} {h : Heap} : ∀ {ns : List Addr} {cs : List Col}, Sts i h ns cs → ∀ n ∈ ns, n < h.objs.size
  | _, _, .cons s r, n, hn => by
    rcases List.mem_cons.mp hn with e | e
    · obtain ⟨o, q, _⟩ := s.1.obj
      rw [e]
      exact Heap.lt_size q
    · exact Sts.live r n e
section
variable {prog : Program} {w : World} {A : Around} {E : Value → Shared → Prop} {z TI TO : Addr} {ns : List Addr} {cs : List Col} {j m : Nat} {s : Shared}
theorem next_item (hh : A.handled = none) (L : Lay z TI TO ns cs) (st : ZSt z TI TO ns cs j s.heap) (hm : ∀ c ∈ cs, c.its.size = m) (lt : j < m) {Q : Option Value → Shared → Prop}
    (h : ∀ (h' : Heap) (tk : Nat) (us : List Value), Row cs j us → h'.get? TI = some (tupO (ns.map Value.ref)) → Sts (j + 1) h' ns cs → Held z TI TO ns h' → h'.get? s.heap.objs.size = some (tupO us) → s.heap.objs.size < h'.objs.size → off z TO ns s.heap h' → Q (some (.ref s.heap.objs.size)) { s with heap := h', toks := tk }) :
    wpAny (model prog w) A (pyNext (.ref z)) Q E s := by
  obtain ⟨hTI, hs, hz⟩ := st
  have lt' : ∀ c ∈ cs, j < c.its.size := fun c hc => by rw [hm c hc]; exact lt
  rcases hz with ⟨hz, os, hTO, hos⟩ | ⟨T, fl, oT, hz, hT, t1, t2, t3⟩
  · have hTy : s.TypeIs (.ref z) "zip" := ⟨_, hz, rfl⟩
    unfold pyNext
    refine wpAny_bind (wpAny_attempt (wpAny_callSpecial?_slot (name := Str.ofString "__next__") hTy F.slot_zip_next (wpAny_call_entry F.slot_zip_next hTy F.entry_zip_next
      (free_item (A := A.in1) hh hz hTI hTO hos L.ne hs L.ap lt' L.zn L.zc L.tn L.tc L.tz L.sm fun h' tk us ru st2 hz2 hT2 k => wpAny_pure ?_) (F.args_zip_next_1 _))))
    have lz : z < s.heap.objs.size := Heap.lt_size hz
    have lo : TO < s.heap.objs.size := Heap.lt_size hTO
    exact h h' tk us ru (k TI _ L.iz L.io L.in_ hTI) st2 ⟨_, false, _, hz2, hT2, Nat.ne_of_gt lz, Nat.ne_of_gt lo, fun q => Nat.lt_irrefl _ (Sts.live hs _ q)⟩ hT2 (Heap.lt_size hT2) fun b o h1 h2 h3 e => k b o h1 h2 h3 e
  · have hTy : s.TypeIs (.ref z) "zip" := ⟨_, hz, rfl⟩
    unfold pyNext
    refine wpAny_bind (wpAny_attempt (wpAny_callSpecial?_slot (name := Str.ofString "__next__") hTy F.slot_zip_next (wpAny_call_entry F.slot_zip_next hTy F.entry_zip_next
      (held_item (A := A.in1) hh hz hT hTI L.ne hs L.ap lt' L.zn L.zc L.sm fun h' tk us ru st2 hz2 hsz k => wpAny_pure ?_) (F.args_zip_next_1 _))))
    have up : ∀ b o, h'.get? b = some o → (h'.push (tupO us)).get? b = some o := fun b o e => Heap.get?_push_of_some _ e
    have hn : (h'.push (tupO us)).get? s.heap.objs.size = some (tupO us) := by
      rw [← hsz]
      exact Heap.get?_push_size _ rfl
    exact h (h'.push (tupO us)) tk us ru (up _ _ (k TI _ L.iz L.in_ hTI)) (Sts.keep st2 fun b _ o e => up b o e) ⟨T, true, oT, up _ _ hz2, up _ _ (k T _ t1 t3 hT), t1, t2, t3⟩ hn (Heap.lt_size hn) fun b o h1 h2 h3 e => up b o (k b o h1 h3 e)
theorem next_end (hh : A.handled = none) (L : Lay z TI TO ns cs) (st : ZSt z TI TO ns cs m s.heap) (hm : ∀ c ∈ cs, c.its.size = m) (hj : 0 < m) (hel : Held z TI TO ns s.heap) {Q : Option Value → Shared → Prop}
    (h : ∀ h' : Heap, off z TO ns s.heap h' → Q none { s with heap := h' }) : wpAny (model prog w) A (pyNext (.ref z)) Q E s := by
  obtain ⟨hTI, hs, _⟩ := st
  obtain ⟨T, fl, oT, hz, hT, _⟩ := hel
  have hTy : s.TypeIs (.ref z) "zip" := ⟨_, hz, rfl⟩
  cases hs with
  | nil => exact absurd rfl L.ne
  | @cons n c ns' cs' st r =>
    unfold pyNext
    refine wpAny_bind (wpAny_attempt (wpAny_callSpecial?_slot (name := Str.ofString "__next__") hTy F.slot_zip_next (wpAny_call_entry F.slot_zip_next hTy F.entry_zip_next
      (held_end (A := A.in1) (cs := cs') hh hz hT hTI st (L.ap.off n List.mem_cons_self c List.mem_cons_self).symm (hm c List.mem_cons_self) (fun q => L.zn (q ▸ List.mem_cons_self)) (L.zc c List.mem_cons_self) fun h' e k ho => ?_) (F.args_zip_next_1 _))))
    obtain ⟨o, ho, hc⟩ := ho
    refine wpAny_bind (wpAny_isInstance (T := "StopIteration") (b := true) ⟨o, ho, hc⟩ isSubtype_stop ?_)
    exact wpAny_pure (h h' fun b o h1 _ h3 e => k b o h1 (fun q => h3 (q ▸ List.mem_cons_self)) e)
/-- the tuples that were given -/
structure Got (cs : List Col) (z TO S N : Addr) (ns Ts : List Addr) (h : Heap) : Prop where
  at_ : ∀ (q : Nat) (T : Addr), Ts[q]? = some T → ∃ us, Row cs q us ∧ h.get? T = some (tupO us)
  nd : Ts.Nodup
  lo : ∀ T ∈ Ts, N < T
abbrev lstO (acc : List Value) (c : Nat) : Obj := { cls := .type "list", dict := none, data := .seq acc.toArray c, slots := #[] }
theorem loopZ (hh : A.handled = none) (L : Lay z TI TO ns cs) (hm : ∀ c ∈ cs, c.its.size = m) (hm0 : 0 < m) (hm1 : m ≤ 1000) {S N : Addr} {res : Value} {R : Result → Shared → Prop} (sz : S ≠ z) (sO : S ≠ TO) (sI : S ≠ TI) (sn : S ∉ ns) (sc : ∀ c ∈ cs, S ≠ c.a) (hN : S ≤ N) (zN : z ≤ N) (oN : TO ≤ N) (nN : ∀ n ∈ ns, n ≤ N) :
    ∀ (k j : Nat) (s : Shared) (Ts : List Addr) (c : Nat), m - j = k → Ts.length = j → j ≤ m → ZSt z TI TO ns cs j s.heap → (j ≠ 0 → Held z TI TO ns s.heap) → s.heap.get? S = some (lstO (Ts.map Value.ref) c) → Got cs z TO S N ns Ts s.heap → N < s.heap.objs.size →
      (∀ (h' : Heap) (tk : Nat) (Ts' : List Addr) (c' : Nat), Ts'.length = m → h'.get? S = some (lstO (Ts'.map Value.ref) c') → Got cs z TO S N ns Ts' h' → (∀ b o, b ≠ S → b ≠ z → b ≠ TO → b ∉ ns → s.heap.get? b = some o → h'.get? b = some o) → R (.ok (.ret res)) { s with heap := h', toks := tk }) →
      codeAny (model prog w) A (.builtin "list.extend.loop" ⟨[.ref S, .ref z, res], []⟩) R s := by
  intro k
  induction k with
  | zero =>
    intro j s Ts c hk hl hj st hd hS g hN1 h
    obtain rfl : j = m := by omega
    refine codeAny_builtin F.entry_extend_loop ?_
    rw [Around.under_plainId F.plain_extend_loop _]
    show wpAny _ A.in1 (pyNext (.ref z) >>= _) _ _ s
    refine wpAny_bind (next_end (A := A.in1) hh L st hm hm0 (hd (by omega)) fun h' k => ?_)
    exact wpAny_pure (h h' s.toks Ts c hl (k S _ sz sO sn hS) ⟨fun q T e => by
      obtain ⟨us, ru, ht⟩ := g.at_ q T e
      have lt := g.lo T (List.mem_of_getElem? e)
      exact ⟨us, ru, k T _ (Nat.ne_of_gt (Nat.lt_of_le_of_lt zN lt)) (Nat.ne_of_gt (Nat.lt_of_le_of_lt oN lt)) (fun x => Nat.lt_irrefl _ (Nat.lt_of_lt_of_le lt (nN T x))) ht⟩, g.nd, g.lo⟩ fun b o _ h1 h2 h3 e => k b o h1 h2 h3 e)
  | succ k ih =>
    intro j s Ts c hk hl hj st hd hS g hN1 h
    have lt : j < m := by omega
    refine codeAny_builtin F.entry_extend_loop ?_
    rw [Around.under_plainId F.plain_extend_loop _]
    show wpAny _ A.in1 (pyNext (.ref z) >>= _) _ _ s
    refine wpAny_bind (next_item (A := A.in1) hh L st hm lt fun h' tk us ru s1 s2 s3 hT hlt kk => ?_)
    have hS' := kk S _ sz sO sn hS
    show wpAny _ A.in1 (updateSeq S (·.push (.ref s.heap.objs.size)) >>= _) _ _ _
    have lS : S < s.heap.objs.size := Heap.lt_size hS
    have lz : z < s.heap.objs.size := Nat.lt_of_le_of_lt zN hN1
    refine wpAny_bind (wpAny_updateSeq hS' rfl (wpAny_pure ⟨plainId_quiet F.plain_extend_loop _, ?_⟩) (by rw [List.size_toArray, List.length_map, hl]; have := sizeLine_eq; omega) (by show (Array.push _ _).size ≤ _; rw [Array.size_push, List.size_toArray, List.length_map, hl]; have := sizeLine_eq; omega))
    have sb : Heap.SameBut S h' (h'.update S (Obj.mapSeq (·.push (.ref s.heap.objs.size)))) := Heap.SameBut.update ..
    have hS2 := Heap.get?_update_self (Obj.mapSeq (·.push (Value.ref s.heap.objs.size))) hS' rfl
    have eS : ((Ts ++ [s.heap.objs.size]).map Value.ref).toArray = (Ts.map Value.ref).toArray.push (.ref s.heap.objs.size) := by simp
    generalize h'.update S (Obj.mapSeq (·.push (.ref s.heap.objs.size))) = h2 at sb hS2 ⊢
    have up : ∀ b o, b ≠ S → h'.get? b = some o → h2.get? b = some o := fun b o hb e => sb.extBut b o hb e
    have neT : s.heap.objs.size ≠ S := Nat.ne_of_gt lS
    have keepT : ∀ T o, N < T → s.heap.get? T = some o → h2.get? T = some o := fun T o lt e => up T o (Nat.ne_of_gt (Nat.lt_of_le_of_lt hN lt))
      (kk T o (Nat.ne_of_gt (Nat.lt_of_le_of_lt zN lt)) (Nat.ne_of_gt (Nat.lt_of_le_of_lt oN lt)) (fun x => Nat.lt_irrefl _ (Nat.lt_of_lt_of_le lt (nN T x))) e)
    have hT2 : h2.get? s.heap.objs.size = some (tupO us) := up _ _ neT hT
    have s4 : Held z TI TO ns h2 := by
      obtain ⟨T, fl, oT, e1, e2, e3⟩ := s3
      by_cases q : T = S
      · exact ⟨T, fl, _, up _ _ sz.symm e1, q ▸ hS2, e3⟩
      · exact ⟨T, fl, oT, up _ _ sz.symm e1, up _ _ q e2, e3⟩
    have st3 : ZSt z TI TO ns cs (j + 1) h2 := ⟨up _ _ sI.symm s1, Sts.keep s2 fun b hb o e => up b o (by
      rcases hb with q | ⟨d, q, e2⟩
      · exact fun x => sn (x ▸ q)
      · exact fun x => sc d q (x.symm.trans e2)) e, .inr s4⟩
    have hsz : s.heap.objs.size < h2.objs.size := by rw [sb.1]; exact hlt
    refine ih (j + 1) { s with heap := h2, toks := tk } (Ts ++ [s.heap.objs.size]) (c + 1) (by omega) (by rw [List.length_append, hl]; rfl) (by omega) st3 (fun _ => s4) ?_ ⟨fun q T e => ?_, ?_, fun T hT => ?_⟩ (Nat.lt_trans hN1 hsz) fun h' tk' Ts' c' a1 a2 a3 a4 => h h' tk' Ts' c' a1 a2 a3 fun b o h1 h2 h3 h4 e => a4 b o h1 h2 h3 h4 (up b o h1 (kk b o h2 h3 h4 e))
    · show h2.get? S = _
      rw [hS2]
      simp [Obj.mapSeq, eS]
    · by_cases hq : q < Ts.length
      · rw [List.getElem?_append_left hq] at e
        obtain ⟨us', r1, r2⟩ := g.at_ q T e
        exact ⟨us', r1, keepT T _ (g.lo T (List.mem_of_getElem? e)) r2⟩
      · rw [List.getElem?_append_right (by omega)] at e
        have e0 : q - Ts.length = 0 := by
          cases hc : q - Ts.length with
          | zero => rfl
          | succ y => rw [hc] at e; simp at e
        rw [e0] at e
        simp only [List.getElem?_cons_zero, Option.some.injEq] at e
        have e1 : q = j := by omega
        subst e e1
        exact ⟨us, ru, hT2⟩
    · refine List.nodup_append.mpr ⟨g.nd, by simp, fun a ha b hb => ?_⟩
      rw [List.mem_singleton.mp hb]
      obtain ⟨q, e⟩ := List.mem_iff_getElem?.mp ha
      obtain ⟨_, _, r2⟩ := g.at_ q a e
      exact Nat.ne_of_lt (Heap.lt_size r2)
    · rcases List.mem_append.mp hT with q | q
      · exact g.lo T q
      · rw [List.mem_singleton.mp q]
        exact hN1
end
end NvZ

set_option maxRecDepth 100000
set_option maxHeartbeats 4000000
namespace NvZ
open PySem PySem.Spec PyProof.Rows L2
open PySem.Sem (wp)
section
variable {prog : Program} {w : World} {A : Around} {E : Value → Shared → Prop}
/-- iterators of all -/
theorem iter_loop (f : Value → Array Value → Sem (ForInStep (Array Value)))
    (hf : ∀ (v : Value) (acc : Array Value) (s : Shared) (Q : ForInStep (Array Value) → Shared → Prop), wpAny (model prog w) A (pyIter v) (fun x s' => Q (.yield (acc.push x)) s') E s → wpAny (model prog w) A (f v acc) Q E s) :
    ∀ {cs : List Col} {acc : Array Value} {s : Shared} {Q : Array Value → Shared → Prop}, (∀ c ∈ cs, rawB c.t s.heap c.a c.its) →
      (∀ (h' : Heap) (ns : List Addr), Sts 0 h' ns cs → (∀ b o, s.heap.get? b = some o → h'.get? b = some o) → (∀ n ∈ ns, s.heap.objs.size ≤ n) → ns.Nodup → s.heap.objs.size ≤ h'.objs.size → Q (acc ++ (ns.map Value.ref).toArray) { s with heap := h' }) →
      wpAny (model prog w) A (forIn (cs.map fun c => Value.ref c.a) acc f) Q E s
  | [], acc, s, Q, _, h => by
    rw [List.map_nil, List.forIn_nil]
    have z := h s.heap [] .nil (fun b o e => e) (fun n hn => nomatch hn) .nil (Nat.le_refl _)
    have e : acc ++ (List.map Value.ref []).toArray = acc := by simp
    rw [e] at z
    exact wpAny_pure z
  | c :: cs, acc, s, Q, hr, h => by
    rw [List.map_cons, List.forIn_cons]
    refine wpAny_bind (hf _ acc s _ ((beginsB c.t c.a c.its).iter prog w A E s _ (hr c List.mem_cons_self) ?_))
    have up : ∀ b o, s.heap.get? b = some o → (s.heap.push (itB c.t c.a)).get? b = some o := fun b o e => Heap.get?_push_of_some _ e
    have hsz : (s.heap.push (itB c.t c.a)).objs.size = s.heap.objs.size + 1 := Heap.size_push ..
    refine iter_loop f hf (s := { s with heap := s.heap.push (itB c.t c.a) }) (fun d hd => (hr d (List.mem_cons_of_mem _ hd)).keep fun o e => up _ o e) fun h' ns st k lo nd hle => ?_
    have h0 : h'.get? s.heap.objs.size = some (itB c.t c.a) := k _ _ (Heap.get?_push_size _ (by cases c.t <;> rfl))
    have lo' : ∀ n ∈ ns, s.heap.objs.size + 1 ≤ n := fun n hn => hsz ▸ lo n hn
    have z := h h' (s.heap.objs.size :: ns) (.cons ⟨itB.start h0, (hr c List.mem_cons_self).keep fun o e => k _ o (up _ o e)⟩ st) (fun b o e => k b o (up b o e)) (fun n hn => by
      rcases List.mem_cons.mp hn with q | q
      · rw [q]; exact Nat.le_refl _
      · exact Nat.le_of_succ_le (lo' n q)) (List.nodup_cons.mpr ⟨fun q => Nat.lt_irrefl _ (lo' _ q), nd⟩) (Nat.le_trans (by rw [hsz]; exact Nat.le_succ _) hle)
    have e : acc ++ (List.map Value.ref (s.heap.objs.size :: ns)).toArray = acc.push (.ref s.heap.objs.size) ++ (ns.map Value.ref).toArray := by simp
    rw [e] at z
    exact z
theorem iter_all {cs : List Col} {s : Shared} {Q : List Value → Shared → Prop} (hr : ∀ c ∈ cs, rawB c.t s.heap c.a c.its)
    (h : ∀ (h' : Heap) (ns : List Addr), Sts 0 h' ns cs → (∀ b o, s.heap.get? b = some o → h'.get? b = some o) → (∀ n ∈ ns, s.heap.objs.size ≤ n) → ns.Nodup → s.heap.objs.size ≤ h'.objs.size → Q (ns.map Value.ref) { s with heap := h' }) :
    wpAny (model prog w) A (Builtin.SmallTypes.iterAll (cs.map fun c => Value.ref c.a)) Q E s := by
  unfold Builtin.SmallTypes.iterAll
  refine wpAny_bind (iter_loop _ (fun v acc s Q hq => ?_) hr fun h' ns st k lo nd hle => ?_)
  · exact wpAny_bind (wpAny_holding (wpAny_mono hq (fun x s' hx => wpAny_pure hx) fun _ _ e => e))
  · have z := h h' ns st k lo nd hle
    refine wpAny_pure ?_
    have e : (#[] ++ (ns.map Value.ref).toArray : Array Value).toList = ns.map Value.ref := by simp
    rw [e]
    exact z
end
/-- what zip makes of n things -/
structure ZipOk (vs : List Value) : Prop where
  tc : checkTypeCall "zip" ⟨vs, []⟩ = pure ()
  nc : checkBuiltinCall "zip.__new__" ⟨.type "zip" :: vs, []⟩ = pure ()
  ao : ∀ obj, argsOk "object.__init__" ⟨obj :: vs, []⟩
theorem meets_new {cs : List Col} (hl : cs.length ≤ 1000) :
    Meets (Builtin.«zip.__new__» ⟨.type "zip" :: (cs.map fun c => Value.ref c.a), []⟩) (fun _ R s => (∀ c ∈ cs, rawB c.t s.heap c.a c.its) ∧
      ∀ (h' : Heap) (ns : List Addr), Sts 0 h' ns cs → (∀ b o, s.heap.get? b = some o → h'.get? b = some o) → (∀ n ∈ ns, s.heap.objs.size ≤ n) → ns.Nodup → s.heap.objs.size ≤ h'.objs.size →
        R (.ok (.ret (.ref (h'.objs.size + 2)))) { s with heap := ((h'.push (tupO (ns.map Value.ref))).push (tupO (ns.map fun _ => Value.none))).push { cls := .type "zip", data := .fields #[.none, .bool false, .bool false, .ref h'.objs.size, .ref (h'.objs.size + 1)] } }) :=
  .of_wp fun prog w A R s h => by
    obtain ⟨hp, g, d, tk, os⟩ := s
    obtain ⟨h1, h⟩ := h
    have hsub := sub_zip
    have qA : ∀ {A' : Around} {E : Value → Shared → Prop} {Q : List Value → Shared → Prop}, (∀ (h' : Heap) (ns : List Addr), Sts 0 h' ns cs → (∀ b o, hp.get? b = some o → h'.get? b = some o) → (∀ n ∈ ns, hp.objs.size ≤ n) → ns.Nodup → hp.objs.size ≤ h'.objs.size → Q (ns.map Value.ref) ⟨h', g, d, tk, os⟩) →
        wpAny (model prog w) A' (Builtin.SmallTypes.iterAll (cs.map fun c => Value.ref c.a)) Q E ⟨hp, g, d, tk, os⟩ := fun q => iter_all (s := ⟨hp, g, d, tk, os⟩) h1 q
    wp_walk using qA
    intro h' ns st k lo nd hle
    have hl2 : ns.length = cs.length := Paired.length st
    have z1 : (h'.push (tupO (ns.map Value.ref))).objs.size = h'.objs.size + 1 := Heap.size_push ..
    have z2 : ((h'.push (tupO (ns.map Value.ref))).push (tupO (ns.map fun _ => Value.none))).objs.size = h'.objs.size + 2 := by rw [Heap.size_push, z1]
    refine wpAny_bind (wpAny_newTuple ?_ (by rw [List.length_map]; have := sizeLine_eq; omega))
    have e1 : (List.map (fun _ => Value.none) (ns.map Value.ref)) = ns.map fun _ => Value.none := by rw [List.map_map]; rfl
    rw [e1]
    refine wpAny_bind (wpAny_newTuple ?_ (by rw [List.length_map]; have := sizeLine_eq; omega))
    refine wpAny_bind (m := Builtin.SmallTypes.newRecord _ _) ?_
    unfold Builtin.SmallTypes.newRecord
    refine wpAny_newObj_type ?_ (by show 5 ≤ _; have := sizeLine_eq; omega)
    refine wpAny_pure ⟨_, rfl, ?_⟩
    have zz := h h' ns st k lo nd hle
    show R (.ok (.ret (.ref ((h'.push (tupO (ns.map Value.ref))).push (tupO (ns.map fun _ => Value.none))).objs.size))) _
    rw [z2]
    show R _ { heap := ((h'.push (tupO (ns.map Value.ref))).push (tupO (ns.map fun _ => Value.none))).push { cls := .type "zip", data := .fields #[.none, .bool false, .bool false, .ref h'.objs.size, .ref (h'.push (tupO (ns.map Value.ref))).objs.size] }, gens := g, drawn := d, toks := tk, os := os }
    rw [z1]
    exact zz
end NvZ

set_option maxRecDepth 100000
set_option maxHeartbeats 4000000
namespace NvZ
open PySem PySem.Spec PyProof.Rows L2
open PySem.Sem (wp)
theorem zip_no_len : typeLookup (.type "zip") "__len__" = pure none := am_miss_of_fast (by decide +kernel)
theorem zip_no_hint : typeLookup (.type "zip") "__length_hint__" = pure none := am_miss_of_fast (by decide +kernel)
theorem ok1 (a : Value) : ZipOk [a] := ⟨by kernel_rfl, by kernel_rfl, fun obj => F.args_object_init_2 obj _⟩
theorem ok2 (a b : Value) : ZipOk [a, b] := ⟨F.typeCall_zip_2 _ _, F.newCall_zip_2 _ _, fun obj => F.args_object_init_3 obj _ _⟩
theorem ok3 (a b c : Value) : ZipOk [a, b, c] := ⟨F.typeCall_zip_3 _ _ _, F.newCall_zip_3 _ _ _, fun obj => by
  unfold argsOk; rw [signature?_of (id := "object.__init__") (n := ['_', '_', 't', 'i', 'n', 'i', '_', '_']) (o := ['t', 'c', 'e', 'j', 'b', 'o']) (by kernel_rfl) F.owner_object]; kernel_rfl⟩
theorem ok4 (a b c d : Value) : ZipOk [a, b, c, d] := ⟨by kernel_rfl, by kernel_rfl, fun obj => by
  unfold argsOk; rw [signature?_of (id := "object.__init__") (n := ['_', '_', 't', 'i', 'n', 'i', '_', '_']) (o := ['t', 'c', 'e', 'j', 'b', 'o']) (by kernel_rfl) F.owner_object]; kernel_rfl⟩
theorem zipOk : ∀ {vs : List Value}, 1 ≤ vs.length → vs.length ≤ 4 → ZipOk vs
  | [], h, _ => absurd h (by decide)
  | [a], _, _ => ok1 a
  | [a, b], _, _ => ok2 a b
  | [a, b, c], _, _ => ok3 a b c
  | [a, b, c, d], _, _ => ok4 a b c d
  | _ :: _ :: _ :: _ :: _ :: _, _, h => absurd h (by simp)
section
variable {prog : Program} {w : World} {A : Around} {E : Value → Shared → Prop} {s : Shared}
theorem zip_new {cs : List Col} {Q : Value → Shared → Prop} (h1 : 1 ≤ cs.length) (h4 : cs.length ≤ 4) (hr : ∀ c ∈ cs, rawB c.t s.heap c.a c.its)
    (h : ∀ (h' : Heap) (z TI TO : Addr) (ns : List Addr), Lay z TI TO ns cs → ZSt z TI TO ns cs 0 h' → IsZip h' z TI TO .none → (∀ b o, s.heap.get? b = some o → h'.get? b = some o) → (∀ x ∈ z :: TI :: TO :: ns, s.heap.objs.size ≤ x ∧ x < h'.objs.size) → Q (.ref z) { s with heap := h' }) :
    wpAny (model prog w) A (call (.type "zip") (cs.map fun c => Value.ref c.a)) Q E s := by
  have ok := zipOk (vs := cs.map fun c => Value.ref c.a) (by rw [List.length_map]; exact h1) (by rw [List.length_map]; exact h4)
  refine callType_new F.called_zip (by decide) ok.tc ok.nc ok.ao F.entry_zip_new (meets_new (by omega)) ⟨hr, fun h' ns st k lo nd hle => ?_⟩
  have z1 : (h'.push (tupO (ns.map Value.ref))).objs.size = h'.objs.size + 1 := Heap.size_push ..
  have z2 : ((h'.push (tupO (ns.map Value.ref))).push (tupO (ns.map fun _ => Value.none))).objs.size = h'.objs.size + 2 := by rw [Heap.size_push, z1]
  have hl2 : ns.length = cs.length := Paired.length st
  have gz : IsZip (((h'.push (tupO (ns.map Value.ref))).push (tupO (ns.map fun _ => Value.none))).push { cls := .type "zip", data := .fields #[.none, .bool false, .bool false, .ref h'.objs.size, .ref (h'.objs.size + 1)] }) (h'.objs.size + 2) h'.objs.size (h'.objs.size + 1) .none := by
    rw [← z2]
    exact Heap.get?_push_size _ rfl
  have g1 : (((h'.push (tupO (ns.map Value.ref))).push (tupO (ns.map fun _ => Value.none))).push { cls := .type "zip", data := .fields #[.none, .bool false, .bool false, .ref h'.objs.size, .ref (h'.objs.size + 1)] }).get? h'.objs.size = some (tupO (ns.map Value.ref)) :=
    Heap.get?_push_of_some _ (Heap.get?_push_of_some _ (Heap.get?_push_size _ rfl))
  have g2 : (((h'.push (tupO (ns.map Value.ref))).push (tupO (ns.map fun _ => Value.none))).push { cls := .type "zip", data := .fields #[.none, .bool false, .bool false, .ref h'.objs.size, .ref (h'.objs.size + 1)] }).get? (h'.objs.size + 1) = some (tupO (ns.map fun _ => Value.none)) := by
    have q := Heap.get?_push_of_some (Obj.mk (.type "zip") none (.fields #[.none, .bool false, .bool false, .ref h'.objs.size, .ref (h'.objs.size + 1)]) #[]) (Heap.get?_push_size (h'.push (tupO (ns.map Value.ref))) (o := tupO (ns.map fun _ => Value.none)) rfl)
    rw [z1] at q
    exact q
  have up : ∀ b o, h'.get? b = some o → (((h'.push (tupO (ns.map Value.ref))).push (tupO (ns.map fun _ => Value.none))).push { cls := .type "zip", data := .fields #[.none, .bool false, .bool false, .ref h'.objs.size, .ref (h'.objs.size + 1)] }).get? b = some o :=
    fun b o e => Heap.get?_push_of_some _ (Heap.get?_push_of_some _ (Heap.get?_push_of_some _ e))
  have z3 : (((h'.push (tupO (ns.map Value.ref))).push (tupO (ns.map fun _ => Value.none))).push { cls := .type "zip", data := .fields #[.none, .bool false, .bool false, .ref h'.objs.size, .ref (h'.objs.size + 1)] }).objs.size = h'.objs.size + 3 := by rw [Heap.size_push, z2]
  generalize (((h'.push (tupO (ns.map Value.ref))).push (tupO (ns.map fun _ => Value.none))).push { cls := .type "zip", data := .fields #[.none, .bool false, .bool false, .ref h'.objs.size, .ref (h'.objs.size + 1)] }) = h2 at gz g1 g2 up z3 ⊢
  have big : ∀ c ∈ cs, c.a < s.heap.objs.size := fun c hc => (hr c hc).lt
  have live := Sts.live st
  refine ⟨⟨_, gz, rfl⟩, h h2 _ _ _ ns ⟨⟨nd, fun n hn c hc => Nat.ne_of_gt (Nat.lt_of_lt_of_le (big c hc) (lo n hn))⟩, fun q => ?_, by omega, fun q => ?_, fun c hc => ?_, fun q => ?_, fun c hc => ?_, ?_, ?_, ?_, fun q => ?_⟩ ⟨g1, Sts.keep st fun b _ o e => up b o e, .inl ⟨gz, _, g2, by rw [List.length_map]⟩⟩ gz (fun b o e => up b o (k b o e)) fun x hx => ?_⟩
  · rw [q] at hl2
    exact absurd hl2 (by simp only [List.length_nil]; omega)
  · exact absurd (live _ q) (Nat.not_lt_of_le (Nat.le_add_right _ _))
  · exact Nat.ne_of_gt (Nat.lt_of_lt_of_le (big c hc) (Nat.le_trans hle (Nat.le_add_right _ _)))
  · exact absurd (live _ q) (Nat.not_lt_of_le (Nat.le_add_right _ _))
  · exact Nat.ne_of_gt (Nat.lt_of_lt_of_le (big c hc) (Nat.le_trans hle (Nat.le_add_right _ _)))
  · exact Nat.ne_of_lt (Nat.lt_succ_self _)
  · exact Nat.ne_of_lt (Nat.lt_add_of_pos_right (by decide))
  · exact Nat.ne_of_lt (Nat.lt_succ_self _)
  · exact absurd (live _ q) (Nat.lt_irrefl _)
  · rw [z3]
    rcases List.mem_cons.mp hx with rfl | hx
    · exact ⟨Nat.le_trans hle (Nat.le_add_right _ _), Nat.lt_succ_self _⟩
    rcases List.mem_cons.mp hx with rfl | hx
    · exact ⟨hle, Nat.lt_add_of_pos_right (by decide)⟩
    rcases List.mem_cons.mp hx with rfl | hx
    · exact ⟨Nat.le_trans hle (Nat.le_succ _), Nat.lt_succ_of_lt (Nat.lt_succ_self _)⟩
    · exact ⟨lo x hx, Nat.lt_of_lt_of_le (live x hx) (Nat.le_add_right _ _)⟩
/-- list(z) of a new zip -/
theorem list_zip (hh : A.handled = none) {z TI TO : Addr} {ns : List Addr} {cs : List Col} {m : Nat} {Q : Value → Shared → Prop} (L : Lay z TI TO ns cs) (st : ZSt z TI TO ns cs 0 s.heap) (hz : IsZip s.heap z TI TO .none) (hm : ∀ c ∈ cs, c.its.size = m) (hm0 : 0 < m) (hm1 : m ≤ 1000) (hb : ∀ x ∈ z :: TI :: TO :: ns, x < s.heap.objs.size) (hc : ∀ c ∈ cs, c.a < s.heap.objs.size)
    (h : ∀ (h' : Heap) (tk : Nat) (Ts : List Addr) (c : Nat), Ts.length = m → h'.get? s.heap.objs.size = some (lstO (Ts.map Value.ref) c) → (∀ (q : Nat) (T : Addr), Ts[q]? = some T → ∃ us, Row cs q us ∧ h'.get? T = some (tupO us)) → Ts.Nodup → (∀ T ∈ Ts, s.heap.objs.size < T) → off z TO ns s.heap h' → Q (.ref s.heap.objs.size) { s with heap := h', toks := tk }) :
    wpAny (model prog w) A (call (.type "list") [.ref z]) Q E s := by
  refine callType_codes (Q₁ := fun obj s₁ => obj = .ref s.heap.objs.size ∧ s₁ = { s with heap := s.heap.push { cls := .type "list", data := .seq #[] } }) F.called_list (F.typeCall_list_1 _) F.entry_list_init (code_list_new _ ⟨rfl, rfl⟩) fun obj s₁ h₁ => ?_
  obtain ⟨rfl, rfl⟩ := h₁
  have hS : (s.heap.push { cls := .type "list", data := .seq #[] }).get? s.heap.objs.size = some { cls := .type "list", data := .seq #[] } := Heap.get?_push_size _ rfl
  have up : ∀ b o, s.heap.get? b = some o → (s.heap.push { cls := .type "list", data := .seq #[] }).get? b = some o := fun b o e => Heap.get?_push_of_some _ e
  refine ⟨⟨_, hS, rfl⟩, F.args_list_init_2 _ _, ?_⟩
  have hsz : (s.heap.push { cls := .type "list", data := .seq #[] }).objs.size = s.heap.objs.size + 1 := Heap.size_push ..
  generalize s.heap.push { cls := .type "list", data := .seq #[] } = h1 at hS up hsz ⊢
  have neS : ∀ x, x < s.heap.objs.size → x ≠ s.heap.objs.size := fun x hx => Nat.ne_of_lt hx
  have bz := hb z List.mem_cons_self
  have bI := hb TI (List.mem_cons_of_mem _ List.mem_cons_self)
  have bO := hb TO (List.mem_cons_of_mem _ (List.mem_cons_of_mem _ List.mem_cons_self))
  have bn : ∀ n ∈ ns, n < s.heap.objs.size := fun n hn => hb n (List.mem_cons_of_mem _ (List.mem_cons_of_mem _ (List.mem_cons_of_mem _ hn)))
  -- what stands of the zip through writes at the new list alone
  have zst : ∀ {g : Heap}, (∀ b o, b ≠ s.heap.objs.size → s.heap.get? b = some o → g.get? b = some o) → ZSt z TI TO ns cs 0 g ∧ IsZip g z TI TO .none := fun {g} k => by
    obtain ⟨a1, a2, a3⟩ := st
    refine ⟨⟨k _ _ (neS _ bI) a1, Sts.keep a2 fun b hb o e => k b o (by
      rcases hb with q | ⟨c, q, e2⟩
      · exact neS _ (bn b q)
      · rw [e2]; exact neS _ (hc c q)) e, ?_⟩, k _ _ (neS _ bz) hz⟩
    rcases a3 with ⟨_, os, e1, e2⟩ | ⟨T, fl, oT, e1, _⟩
    · exact .inl ⟨k _ _ (neS _ bz) hz, os, k _ _ (neS _ bO) e1, e2⟩
    · have e1 : s.heap.get? z = _ := e1
      rw [show s.heap.get? z = _ from hz] at e1
      cases e1
  show wpAny _ A.in1.in1 (do let old ← Builtin.List.listItems (.ref s.heap.objs.size); Builtin.List.listUpdate (.ref s.heap.objs.size) (fun _ => #[]); letGo old.toList.reverse; Builtin.List.listExtendWith (.ref s.heap.objs.size) (.ref z) .none) _ _ _
  refine wpAny_bind ?_
  unfold Builtin.List.listItems
  refine wpAny_bind (wpAny_seqItems hS rfl (wpAny_pure ?_))
  show wpAny _ _ (updateSeq s.heap.objs.size (fun _ => #[]) >>= fun _ => letGo (#[] : Array Value).toList.reverse >>= fun _ => Builtin.List.listExtendWith (.ref s.heap.objs.size) (.ref z) .none) _ _ _
  refine wpAny_bind (wpAny_updateSeq hS rfl ?_)
  have hS2 := Heap.get?_update_self (Obj.mapSeq (fun _ => (#[] : Array Value))) hS rfl
  have sb2 : Heap.SameBut s.heap.objs.size h1 (h1.update s.heap.objs.size (Obj.mapSeq (fun _ => (#[] : Array Value)))) := Heap.SameBut.update ..
  generalize h1.update s.heap.objs.size (Obj.mapSeq (fun _ => (#[] : Array Value))) = h2 at hS2 sb2 ⊢
  replace hS2 : h2.get? s.heap.objs.size = some (lstO [] 0) := hS2
  have up2 : ∀ b o, b ≠ s.heap.objs.size → s.heap.get? b = some o → h2.get? b = some o := fun b o n e => sb2.extBut b o n (up b o e)
  refine wpAny_bind (wpAny_letGo ?_)
  unfold Builtin.List.listExtendWith
  obtain ⟨st2, hz2⟩ := zst up2
  have ty : ∀ {g : Heap} {s' : Shared}, s'.heap = g → IsZip g z TI TO .none → s'.TypeIs (.ref z) "zip" := fun e q => ⟨_, by rw [e]; exact q, rfl⟩
  refine wpAny_bind (wpAny_typeOf (ty rfl hz2) ?_)
  have q1 : Builtin.List.listSameRef (.ref s.heap.objs.size) (.ref z) = false := by simp [Builtin.List.listSameRef, (neS _ bz).symm]
  have q2 : (Value.type "zip" == Value.type "list") = false := by decide
  have q3 : (Value.type "zip" == Value.type "tuple") = false := by decide
  simp only [q1, q2, q3, Bool.or_false, Bool.false_eq_true, if_false]
  refine wpAny_bind (wpAny_pyIter_zip hz2 (wpAny_bind (wpAny_holding ?_)))
  unfold Builtin.List.listLengthHint
  refine wpAny_bind (wpAny_specialOf (ty rfl hz2) zip_no_len ?_)
  show wpAny _ _ (specialOf (Value.ref z) (Str.ofString "__length_hint__") >>= _) _ _ _
  refine wpAny_bind (wpAny_specialOf (ty rfl hz2) zip_no_hint (wpAny_pure ?_))
  show wpAny _ _ (rule "list.extend.makes-room" >>= fun _ => Builtin.List.listTouch (.ref s.heap.objs.size) >>= fun _ => again (.builtin "list.extend.loop" ⟨[.ref s.heap.objs.size, .ref z, .none], []⟩)) _ _ _
  refine wpAny_bind (wpAny_rule (wpAny_bind ?_))
  show wpAny _ _ (updateSeq s.heap.objs.size (·.push .none) >>= fun _ => updateSeq s.heap.objs.size (·.pop)) _ _ _
  refine wpAny_bind (wpAny_updateSeq hS2 rfl ?_)
  have hS3 := Heap.get?_update_self (Obj.mapSeq (·.push Value.none)) hS2 rfl
  have sb3 : Heap.SameBut s.heap.objs.size h2 (h2.update s.heap.objs.size (Obj.mapSeq (·.push Value.none))) := Heap.SameBut.update ..
  generalize h2.update s.heap.objs.size (Obj.mapSeq (·.push Value.none)) = h3 at hS3 sb3 ⊢
  refine wpAny_updateSeq (hz := by seq_fits) hS3 rfl ?_
  have hS4 := Heap.get?_update_self (Obj.mapSeq (·.pop)) hS3 rfl
  have sb4 : Heap.SameBut s.heap.objs.size h3 (h3.update s.heap.objs.size (Obj.mapSeq (·.pop))) := Heap.SameBut.update ..
  generalize h3.update s.heap.objs.size (Obj.mapSeq (·.pop)) = h4 at hS4 sb4 ⊢
  have up4 : ∀ b o, b ≠ s.heap.objs.size → s.heap.get? b = some o → h4.get? b = some o := fun b o n e => sb4.extBut b o n (sb3.extBut b o n (up2 b o n e))
  have hsz4 : h4.objs.size = s.heap.objs.size + 1 := by rw [sb4.1, sb3.1, sb2.1, hsz]
  obtain ⟨st4, _⟩ := zst up4
  refine wpAny_pure ⟨plainId_quiet F.plain_extend_loop _, loopZ (A := A.in1) (N := s.heap.objs.size) (m := m) hh L hm hm0 hm1 (neS _ bz).symm (neS _ bO).symm (neS _ bI).symm (fun q => Nat.lt_irrefl _ (bn _ q)) (fun c hc' => (neS _ (hc c hc')).symm) (Nat.le_refl _) (Nat.le_of_lt bz) (Nat.le_of_lt bO) (fun n hn => Nat.le_of_lt (bn n hn)) m 0 { s with heap := h4 } [] _ (Nat.sub_zero m) rfl (Nat.zero_le _) st4 (fun q => absurd rfl q) hS4
    ⟨fun q T e => by simp at e, .nil, fun T hT => nomatch hT⟩ (by show _ < h4.objs.size; rw [hsz4]; exact Nat.lt_succ_self _) fun h' tk Ts c e1 e2 e3 e4 => ?_⟩
  exact ⟨rfl, h h' tk Ts c e1 e2 e3.at_ e3.nd e3.lo fun b o n1 n2 n3 e => e4 b o (Nat.ne_of_lt (Heap.lt_size e)) n1 n2 n3 (up4 b o (Nat.ne_of_lt (Heap.lt_size e)) e)⟩
end
end NvZ

set_option maxRecDepth 100000
set_option maxHeartbeats 4000000
/-! list(zip(*rows)), told of the tracked heap. -/
namespace NvZ
open PySem PySem.Spec PyProof.Rows L2
section
variable {X : Cx} {pins : List (Addr × Obj)} {σ : L2.St} {H : Hp} {s : Shared}
/-- a thing that stands there already is tracked from now on -/
theorem track {T : Addr} {o : HO} (I : Inv X pins σ H s) (f : FpOk X pins H T) (new : ObjOk X.prog X.w (upd H T o) s.heap T o) : Inv X pins σ (upd H T o) s := by
  have hn : H T = none := f.1
  have ne : ∀ b u, H b = some u → b ≠ T := fun b u e z => by rw [z, hn] at e; cases e
  have same : ∀ b u, H b = some u → upd H T o b = some u := fun b u e => by rw [upd_ne (ne b u e)]; exact e
  have z := I.step (h' := s.heap) (H' := upd H T o) (g' := s.gens) (d' := s.drawn) (t' := s.toks) (ch := [T]) (fun b hb => by
      rw [List.mem_singleton.mp hb]
      exact ⟨f.2.2.2.1, f.2.1, f.2.2.2.2.1, f.2.2.2.2.2⟩)
    (fun b u _ _ _ e _ => e) (fun b u _ _ _ e _ => ⟨u.slots, e⟩) (fun b u hb _ e => by rw [upd_ne (fun q => hb (List.mem_singleton.mpr q))]; exact e) (fun b u _ e => ⟨u, e⟩) (fun b xs e => same _ _ e) (fun b u v e => same _ _ e) (fun b ps e => ⟨#[], by rw [Array.append_empty]; exact same _ _ e⟩) (fun m hm => hm) (fun b u e => ?_) I.bare
  · exact z
  · by_cases hb : b = T
    · subst hb
      rw [upd_same] at e
      cases e
      exact new
    · rw [upd_ne hb] at e
      exact (I.hok b u e).stay (fun c v _ q => q) (fun c q => same _ _ q) fun c xs q => same _ _ q
/-- tuples that stand there already -/
theorem track_all (row : Nat → List V) : ∀ (Ts : List Addr) (k : Nat) (H : Hp), Inv X pins σ H s → (∀ T ∈ Ts, FpOk X pins H T) → Ts.Nodup → (∀ (q : Nat) (T : Addr), Ts[q]? = some T → ∃ us, Vals (row (k + q)) us ∧ us.length ≤ sizeLine ∧ s.heap.get? T = some (tupO us)) →
    ∃ H', Inv X pins σ H' s ∧ (∀ a o, H a = some o → H' a = some o) ∧ (∀ a, a ∉ Ts → H' a = H a) ∧ ∀ (q : Nat) (T : Addr), Ts[q]? = some T → H' T = some (.tup (row (k + q)))
  | [], k, H, I, _, _, _ => ⟨H, I, fun _ _ e => e, fun _ _ => rfl, fun q T e => by simp at e⟩
  | T :: Ts, k, H, I, f, nd, h => by
    obtain ⟨us, hv, hl, e⟩ := h 0 T rfl
    have fT := f T List.mem_cons_self
    have nT : T ∉ Ts := (List.nodup_cons.mp nd).1
    have I1 := track (o := .tup (row (k + 0))) I fT ⟨by rw [hv.length]; exact hl, us, hv, ⟨_, e, rfl, _, rfl⟩⟩
    obtain ⟨H', I2, s2, o2, t2⟩ := track_all row Ts (k + 1) _ I1 (fun U hU => by
      have fU := f U (List.mem_cons_of_mem _ hU)
      have n : U ≠ T := fun q => nT (q ▸ hU)
      exact ⟨by rw [upd_ne n]; exact fU.1, fU.2⟩) (List.nodup_cons.mp nd).2 (fun q U e => by
      obtain ⟨vs, a, b, c⟩ := h (q + 1) U e
      exact ⟨vs, by rw [show k + 1 + q = k + (q + 1) by omega]; exact a, b, c⟩)
    refine ⟨H', I2, fun a o e => s2 a o (by rw [upd_ne (ne_of_none e fT.1)]; exact e), fun a ha => ?_, fun q U e => ?_⟩
    · rw [o2 a (fun q => ha (List.mem_cons_of_mem _ q)), upd_ne (fun q : a = T => ha (by rw [q]; exact List.mem_cons_self))]
    · cases q with
      | zero =>
        cases e
        exact s2 T _ upd_same
      | succ q =>
        have z := t2 q U e
        rw [show k + 1 + q = k + (q + 1) by omega] at z
        exact z
/-- a row that is walked: list or tuple, where, what it holds -/
abbrev Rw := Bool × Addr × List V
theorem cols_of {m : Nat} : ∀ (cs : List Rw), Inv X pins σ H s → (∀ c ∈ cs, SqB X.K c.1 H c.2.1 c.2.2 ∧ c.2.2.length = m) →
    ∃ ks : List Col, (ks.map fun k => Value.ref k.a) = cs.map (fun c => Value.ref c.2.1) ∧ (∀ k ∈ ks, rawB k.t s.heap k.a k.its ∧ k.its.size = m) ∧ Paired (fun (c : Rw) (k : Col) => Vals c.2.2 k.its.toList) cs ks
  | [], _, _ => ⟨[], rfl, fun _ h => (nomatch h), .nil⟩
  | c :: cs, I, h => by
    obtain ⟨its, rv, p⟩ := raw_of I (h c List.mem_cons_self).1
    obtain ⟨ks, e1, e2, e3⟩ := cols_of cs I fun d hd => h d (List.mem_cons_of_mem _ hd)
    refine ⟨⟨c.1, c.2.1, its.toArray⟩ :: ks, by simp only [List.map_cons, e1], fun k hk => ?_, .cons (by simpa using rv) e3⟩
    rcases List.mem_cons.mp hk with rfl | hk
    · refine ⟨p, ?_⟩
      rw [List.size_toArray, ← rv.length]
      exact (h c List.mem_cons_self).2
    · exact e2 k hk
/-- the q-th row across -/
def across (cs : List Rw) (q : Nat) : List V := cs.map fun c => c.2.2.getD q .non
theorem across_vals {q : Nat} : ∀ {cs : List Rw} {ks : List Col} {us : List Value}, Paired (fun (c : Rw) (k : Col) => Vals c.2.2 k.its.toList) cs ks → Row ks q us → Vals (across cs q) us
  | _, _, _, .nil, .nil => .nil
  | c :: cs, k :: ks, u :: us, .cons a r, .cons b t => by
    refine .cons ?_ (across_vals r t)
    have b : k.its[q]? = some u := b
    have hq : q < k.its.size := (Array.getElem?_eq_some_iff.mp b).1
    have hl : c.2.2.length = k.its.toList.length := a.length
    rw [Array.length_toList] at hl
    obtain ⟨v, e1, e2⟩ := Vals.get a (List.getElem?_eq_getElem (show q < c.2.2.length by omega))
    rw [Array.getElem?_toList, b] at e1
    cases e1
    show RelV (c.2.2.getD q .non) u
    rw [List.getD_eq_getElem?_getD, List.getElem?_eq_getElem (show q < c.2.2.length by omega)]
    exact e2
end
def tLzs (K : PySem.W.Frag) (te : TE) : TE := fun σ H Q => te σ H fun x H1 => ∃ (l : Addr) (cs : List Rw) (m : Nat), x = .ref l ∧ (SqT K H1 l (cs.map fun c => .ref c.2.1) ∨ SqL K H1 l (cs.map fun c => .ref c.2.1)) ∧ 1 ≤ cs.length ∧ cs.length ≤ 4 ∧ 0 < m ∧ m ≤ 1000 ∧
  (∀ c ∈ cs, SqB K c.1 H1 c.2.1 c.2.2 ∧ c.2.2.length = m) ∧
  ∀ (p : Addr) (ps : List Addr) (H2 : Hp), H1 p = none → ps.length = m → (∀ a o, H1 a = some o → H2 a = some o) → (∀ q r, ps[q]? = some r → H2 r = some (.tup (across cs q))) → H2 p = some (.lst (ps.map V.ref)) → Q (.ref p) H2
theorem vals_refs : ∀ {as : List Addr} {us : List Value}, Vals (as.map V.ref) us → us = as.map Value.ref
  | [], _, .nil => rfl
  | a :: as, _, .cons r t => by
    have e := vals_refs t
    rw [e]
    have : _ = Value.ref a := r
    rw [this]
    rfl
theorem pe_lzs (K : PySem.W.Frag) {X : Cx} {e : Expr} {te : TE} {p p2 sp pos pos2 : Pos} (hc : X.calm = true) (hg : Gl X "list") (hm : X.mg "list" = none) (hg2 : Gl X "zip") (hm2 : X.mg "zip" = none) (he : PE X e te) (hK : X.K = K := by rfl)
    (hs : starEach [.Call (.Name "zip" p2) [.Starred e sp] [] pos2] X.env = [(false, eval (.Call (.Name "zip" p2) [.Starred e sp] [] pos2) X.env)] := by rfl) (hs2 : starEach [.Starred e sp] X.env = [(true, eval e X.env)] := by rfl) :
    PE X (.Call (.Name "list" p) [.Call (.Name "zip" p2) [.Starred e sp] [] pos2] [] pos) (tLzs K te) := by
  subst hK
  refine ⟨fun pins s σ H Q I h => ?_⟩
  refine Call_ (ld_blt I hg hm PyProof.Rows.boot_list (PyProof.Rows.callWith_type1 (args_cons ?_ hs) hs rfl))
  refine Call_ (ld_blt I hg2 hm2 PyProof.Rows.boot_zip ?_)
  rw [hs2]
  refine PySem.W.ks_call (P := fun _ => True) rfl (fun _ _ => ⟨.machine, .inr (.inl rfl), .of_pure rfl⟩) (PySem.W.ks_lone (thn (he.run pins s σ H _ I h) fun v s1 ⟨y, H1, I1, ry, l, cs, m, ey, hl, c1, c4, m0, m1, hcs, q⟩ => ?_))
  subst ey
  obtain rfl : v = Value.ref l := ry
  refine StX.star_any I1 hl fun us s2 I2 rv => ⟨trivial, ?_⟩
  have eu : us = cs.map fun c => Value.ref c.2.1 := by
    have z : (cs.map fun c => V.ref c.2.1) = (cs.map fun c => c.2.1).map V.ref := by rw [List.map_map]; rfl
    rw [z] at rv
    rw [vals_refs rv, List.map_map]
    rfl
  obtain ⟨ks, e1, e2, e3⟩ := cols_of cs I2 hcs
  subst eu
  have lk : ks.length = cs.length := (Paired.length e3).symm
  show wpAny _ _ (call (.type "zip") ([] ++ cs.map fun c => Value.ref c.2.1) []) _ _ _
  rw [List.nil_append, ← e1]
  refine zip_new (by omega) (by omega) (fun k hk => (e2 k hk).1) fun h' z TI TO ns L st hz kp big => args_nil ?_
  have I3 : Inv X pins σ H1 { s2 with heap := h' } := I2.kept (t' := s2.toks) kp
  have hf : ∀ b ∈ z :: TO :: ns, FpOk X pins H1 b := fun b hb => by
    have hb2 : b ∈ z :: TI :: TO :: ns := by
      rcases List.mem_cons.mp hb with q | q
      · rw [q]; exact List.mem_cons_self
      · exact List.mem_cons_of_mem _ (List.mem_cons_of_mem _ q)
    exact I2.fpOk (big b hb2).1 (I2.hok.fresh (big b hb2).1)
  refine list_zip (I.ok.hd hc) L st hz (fun k hk => (e2 k hk).2) m0 m1 (fun x hx => (big x hx).2) (fun k hk => ?_) fun h4 tk Ts c hl4 hS hT nd lo kk => ?_
  · exact Nat.lt_of_lt_of_le (e2 k hk).1.lt (Nat.le_of_lt (Nat.lt_of_le_of_lt (big z List.mem_cons_self).1 (big z List.mem_cons_self).2))
  have hS' : h4.get? h'.objs.size = some (lstO (Ts.map Value.ref) c) := hS
  have lo' : ∀ T ∈ Ts, h'.objs.size < T := lo
  have I4 : Inv X pins σ H1 { s2 with heap := h4, toks := tk }   := Inv.turnedL (s := { s2 with heap := h' }) (t' := tk) (ch := z :: TO :: ns) I3 (fun b o hb e => kk b o (fun q => hb (by rw [q]; exact List.mem_cons_self)) (fun q => hb (by rw [q]; exact List.mem_cons_of_mem _ List.mem_cons_self)) (fun q => hb (List.mem_cons_of_mem _ (List.mem_cons_of_mem _ q))) e) hf
  have hp : H1 h'.objs.size = none := I3.hok.fresh (Nat.le_refl _)
  have fT : ∀ T ∈ Ts, FpOk X pins H1 T := fun T hT => I3.fpOk (Nat.le_of_lt (lo' T hT)) (I3.hok.fresh (Nat.le_of_lt (lo' T hT)))
  obtain ⟨H5, I5, s5, o5, t5⟩ := track_all (across cs) Ts 0 H1 I4 fT nd (fun q T e => by
    obtain ⟨us, r1, r2⟩ := hT q T e
    have av := across_vals e3 r1
    refine ⟨us, by rw [Nat.zero_add]; exact av, ?_, r2⟩
    rw [← av.length]
    unfold across
    rw [List.length_map]
    have := sizeLine_eq
    omega)
  have nS : h'.objs.size ∉ Ts := fun q => Nat.lt_irrefl _ (lo' _ q)
  have fS : FpOk X pins H5 h'.objs.size := I3.fpOk (Nat.le_refl _) (by rw [o5 _ nS]; exact hp)
  have vr : Vals (Ts.map V.ref) (Ts.map Value.ref) := by
    have : ∀ l : List Addr, Vals (l.map V.ref) (l.map Value.ref) := fun l => by
      induction l with
      | nil => exact .nil
      | cons a l ih => exact .cons rfl ih
    exact this Ts
  have I6 := track (o := .lst (Ts.map V.ref)) I5 fS ⟨by rw [List.length_map, hl4]; have := sizeLine_eq; omega, Ts.map Value.ref, c, vr, hS'⟩
  refine ⟨.ref h'.objs.size, _, I6, rfl, q _ Ts _ hp hl4 (fun a o e => ?_) (fun k r e => ?_) upd_same⟩
  · rw [upd_ne (ne_of_none e hp)]
    exact s5 a o e
  · rw [upd_ne (fun z => nS (by rw [← z]; exact List.mem_of_getElem? e))]
    have zz := t5 k r e
    rw [Nat.zero_add] at zz
    exact zz
end NvZ

set_option maxRecDepth 100000
set_option maxHeartbeats 4000000
/-! lambdas kept as values (with defaults), called later, out of a comprehension too. -/
namespace NvL
open PySem PySem.Spec PyProof.Rows L2 LamX
/-- a lambda's object -/
abbrev lamFd (qual : Str) (params : Arguments) (body : Expr) (scope : Scope) (cl : List (Str × Addr)) (dV pm cdv ct : Value) : FuncData :=
  { PySem.W.kla_fn "<lambda>" qual params body scope cl pm cdv ct with defaults := dV }
abbrev lamObj (qual : Str) (params : Arguments) (body : Expr) (scope : Scope) (cl : List (Str × Addr)) (dV pm cdv ct : Value) : Obj := { cls := .type "function", data := .func (lamFd qual params body scope cl dV pm cdv ct) }
section
variable {M : Model} {A : Around} {E : Value → Shared → Prop} {s : Shared} {qual : Str} {params : Arguments} {body : Expr} {scope : Scope} {env : Env} {c P : Addr} {ps : Array Value} {pos : Pos} {fl : Nat} {mg : Str → Option Value} {clos : List (Str × Addr)} {Q : Value → Shared → Prop} {dV : Value}
/-- the tuple of the captured cells -/
theorem clo_tuple {k : Value → Sem Value} (h : ∀ (v : Value) (h' : Heap), (∀ b o, s.heap.get? b = some o → h'.get? b = some o) → s.heap.objs.size ≤ h'.objs.size → wpAny M A (k v) Q E { s with heap := h' }) :
    wpAny M A (if clos.isEmpty = true then (pure Value.none >>= k) else (newTextTuple ((clos.mergeSort fun a b => a.1.cps.toList ≤ b.1.cps.toList).map (.ref ·.2)) >>= k)) Q E s := by
  cases clos.isEmpty with
  | true => exact wpAny_bind (wpAny_pure (h .none s.heap (fun _ _ e => e) (Nat.le_refl _)))
  | false => exact wpAny_bind (wpAny_newTextTuple (h _ _ (fun b o e => Heap.get?_push_of_some _ e) (by rw [Heap.size_push]; exact Nat.le_succ _)))
theorem tail_new (hcl : closureFor scope env = pure clos) (hge : env.globals = mainGlobals) (hg : s.heap.Ns mainGlobals mg) (hcode : env.code = .ref c) (C : PySem.W.CodeHd s.heap c P) (hP : s.heap.get? P = some { cls := .none, data := .fields ps }) (ht : TriplesOk ps.toList) (hnf : codeAmong pos ps.toList = none) (hgP : mainGlobals ≠ P) (hb : s.heap.BuiltinsAt mg P)
    (h : ∀ (c' : Addr) (ctv : Value) (h' : Heap) (tk : Nat), Heap.ExtBut P s.heap h' → s.heap.objs.size ≤ c' → c' < h'.objs.size → h'.CodeRec (.ref c') qual → h'.get? P = some { cls := .none, data := .fields (ps ++ #[rawInt pos.line, rawInt pos.col, .ref c']) } →
      Q (.ref h'.objs.size) { s with heap := h'.push (lamObj qual params body scope clos dV ((mg "__name__").getD .none) (.ref c') ctv), toks := tk }) :
    wpAny M A (makeTail "<lambda>" qual params (.expr body) scope env dV .none none pos fl) Q E s := by
  obtain ⟨bm, ob, b1, b2, _, b3, b4, b5, b6, b7⟩ := hb
  unfold makeTail
  rw [hcl, hge]
  refine wpAny_bind (wpAny_pure (clo_tuple (k := _) fun ctv h0 k0 z0 => ?_))
  refine wpAny_bind (wpAny_functionCodeX hcode ((C.keeps k0).code (k0 _ _ hP) ht) ((C.keeps k0).tab (k0 _ _ hP)) hnf fun c' h' tk hx hge' hlt _ hrec htb _ => ?_)
  have hx' : Heap.ExtBut P s.heap h' := fun b o hb e => hx b o hb (k0 b o e)
  have hg' := (hg.keeps k0).extBut hx hgP
  refine wpAny_bind (wpAny_builtinsFor hg' b1 b2 (hx' _ _ b3 b4) b5 b6 b7 (wpAny_bind (wpAny_nsGet hg' (wpAny_bind (wpAny_pure ?_)))))
  exact wpAny_newObj_type (h c' ctv h' tk hx' (Nat.le_trans z0 hge') hlt hrec htb.2) (by size_fits)
theorem tail_hit {cv : Value} (hcl : closureFor scope env = pure clos) (hge : env.globals = mainGlobals) (hg : s.heap.Ns mainGlobals mg) (hcode : env.code = .ref c) (C : PySem.W.CodeHd s.heap c P) (hP : s.heap.get? P = some { cls := .none, data := .fields ps }) (ht : TriplesOk ps.toList) (hf : codeAmong pos ps.toList = some cv) (hb : s.heap.BuiltinsAt mg P)
    (h : ∀ (ctv : Value) (h' : Heap), (∀ b o, s.heap.get? b = some o → h'.get? b = some o) → s.heap.objs.size ≤ h'.objs.size → Q (.ref h'.objs.size) { s with heap := h'.push (lamObj qual params body scope clos dV ((mg "__name__").getD .none) cv ctv) }) :
    wpAny M A (makeTail "<lambda>" qual params (.expr body) scope env dV .none none pos fl) Q E s := by
  obtain ⟨bm, ob, b1, b2, _, b3, b4, b5, b6, b7⟩ := hb
  unfold makeTail
  rw [hcl, hge]
  refine wpAny_bind (wpAny_pure (clo_tuple (k := _) fun ctv h0 k0 z0 => ?_))
  refine wpAny_bind (wpAny_functionCode_hit hcode ((C.keeps k0).code (k0 _ _ hP) ht) hf ?_)
  have hg' := hg.keeps k0
  refine wpAny_bind (wpAny_builtinsFor hg' b1 b2 (k0 _ _ b4) b5 b6 b7 (wpAny_bind (wpAny_nsGet hg' (wpAny_bind (wpAny_pure ?_)))))
  exact wpAny_newObj_type (h ctv h0 k0 z0) (by size_fits)
end
/-- the defaults: none, or a tuple of them -/
def DflAt (H : Hp) (dV : Value) (dvs : List V) : Prop := (dvs = [] ∧ dV = .none) ∨ (dvs ≠ [] ∧ ∃ T, dV = .ref T ∧ H T = some (.tup dvs))
theorem DflAt.ext {H H' : Hp} {dV : Value} {dvs : List V} (d : DflAt H dV dvs) (e : ExtN H H') : DflAt H' dV dvs := by
  rcases d with d | ⟨d, T, a, b⟩
  · exact .inl d
  · exact .inr ⟨d, T, a, e _ _ b fun ps z => by cases z⟩
/-- a lambda as written -/
structure Lam where
  params : Arguments
  body : Expr
  scope : Scope
  dvs : List V
def live (f : Addr) : HO := .ext fun h => ∃ o, h.get? f = some o
/-- the lambda L of the frame X is the object at f -/
def LamAt (X : Cx) (H : Hp) (f : Addr) (L : Lam) : Prop := ∃ (c' : Addr) (dV pm ctv : Value), H f = some (.frz (lamObj (X.env.qual ++ "<lambda>") L.params L.body L.scope (cloFrom X.env.cells L.scope.names []) dV pm (.ref c') ctv) (live f)) ∧ H c' = some (CodeO c' (X.env.qual ++ "<lambda>")) ∧ DflAt H dV L.dvs
theorem LamAt.ext {X : Cx} {H H' : Hp} {f : Addr} {L : Lam} (l : LamAt X H f L) (e : ExtN H H') : LamAt X H' f L := by
  obtain ⟨c', dV, pm, ctv, h1, h2, h3⟩ := l
  exact ⟨c', dV, pm, ctv, e _ _ h1 (fun ps z => by cases z), e _ _ h2 codeO_ne, h3.ext e⟩
/-- the written defaults -/
structure PDs (X : Cx) (params : Arguments) (dvs : List V) : Prop where
  kw : (defaultsOf params X.env).2 = []
  len : dvs.length ≤ 1000
  run : ∀ (pins : List (Addr × Obj)) (s : Shared) (σ : L2.St) (H : Hp) (Q : List Value → Shared → Prop), Inv X pins σ H s → (∀ us s', Inv X pins σ H s' → Vals dvs us → Q us s') → wpAny (model X.prog X.w) X.A (evalAll (defaultsOf params X.env).1) Q X.xe s
section
variable {X : Cx} {params : Arguments}
theorem pds0 (h : defaultsOf params X.env = ([], [])) : PDs X params [] := ⟨by rw [h], by decide, fun pins s σ H Q I q => by rw [h]; exact wpAny_pure (q [] s I .nil)⟩
theorem pds1 {e : Expr} {i : Int} (he : PE X e (tC (.int i))) (h : defaultsOf params X.env = ([eval e X.env], [])) : PDs X params [.int i] := ⟨by rw [h], (by show 1 ≤ 1000; decide), fun pins s σ H Q I q => by
  rw [h]
  refine wpAny_bind (thn (he.run pins s σ H (fun v H1 => v = .int i ∧ H1 = H) I ⟨rfl, rfl⟩) fun u s1 ⟨v, H1, I1, r1, e1, e2⟩ => ?_)
  subst e1 e2
  exact wpAny_bind (wpAny_holding (wpAny_pure (wpAny_pure (q [u] s1 I1 (.cons r1 .nil)))))⟩
theorem pds2 {e e2 : Expr} {i j : Int} (he : PE X e (tC (.int i))) (he2 : PE X e2 (tC (.int j))) (h : defaultsOf params X.env = ([eval e X.env, eval e2 X.env], [])) : PDs X params [.int i, .int j] := ⟨by rw [h], (by show 2 ≤ 1000; decide), fun pins s σ H Q I q => by
  rw [h]
  refine wpAny_bind (thn (he.run pins s σ H (fun v H1 => v = .int i ∧ H1 = H) I ⟨rfl, rfl⟩) fun u s1 ⟨v, H1, I1, r1, e1, e2⟩ => ?_)
  subst e1 e2
  refine wpAny_bind (wpAny_holding (wpAny_bind (thn (he2.run pins s1 σ H1 (fun v H2 => v = .int j ∧ H2 = H1) I1 ⟨rfl, rfl⟩) fun u2 s2 ⟨v2, H2, I2, r2, e1, e2⟩ => ?_)))
  subst e1 e2
  exact wpAny_bind (wpAny_holding (wpAny_pure (wpAny_pure (wpAny_pure (q [u, u2] s2 I2 (.cons r1 (.cons r2 .nil)))))))⟩
/-- a lambda as a value -/
def tLamV (X : Cx) (T : List (Addr × Str)) (L : Lam) : TE := fun σ H Q => Tabs T H ∧ ∀ (f : Addr) (H1 : Hp), H f = none → ExtN H H1 → Tabs T H1 → LamAt X H1 f L → Q (.ref f) H1
theorem live_ok {P : Program} {w : World} {H : Hp} {h : Heap} {f : Addr} {o : Obj} (e : h.get? f = some o) : ObjOk P w H h f (.frz o (live f)) :=
  ⟨e, ⟨o, e⟩, ⟨o, e⟩, fun h1 h2 ⟨u, q⟩ k => ⟨u, k u q⟩⟩
theorem pe_lam {T : List (Addr × Str)} {L : Lam} {c P : Addr} {pos : Pos} (TB : TabB X.base X.mg c P) (hcode : X.env.code = .ref c) (hm : (P, X.env.qual ++ "<lambda>") ∈ T) (hu : ∀ p ∈ T, p.1 = P → p.2 = X.env.qual ++ "<lambda>")
    (hfr : ∀ y ∈ L.scope.names, y.2 = .free → X.env.scope.names.lookup y.1 = some .cell ∨ X.env.scope.names.lookup y.1 = some .free) (D : PDs X L.params L.dvs) : PE X (.Lambda L.params L.body L.scope pos) (tLamV X T L) := by
  refine ⟨fun pins s σ H Q I h => ?_⟩
  obtain ⟨hT, h⟩ := h
  have cap : ∀ y ∈ L.scope.names, y.2 = .free → ∃ c, X.env.cells.lookup y.1 = some c := fun y hy e => (hfr y hy e).elim (fun k => I.ok.has _ (.inl k)) fun k => I.ok.has _ (.inr k)
  rw [arm_eval_Lambda]
  show wpAny _ _ (do let dv ← evalAll (defaultsOf L.params X.env).1; let kdv ← holding dv (evalAllOpt (defaultsOf L.params X.env).2); makeFunction "<lambda>" (X.env.qual ++ "<lambda>") L.params (.expr L.body) L.scope X.env dv kdv [] pos pos.line) _ _ s
  rw [D.kw]
  refine wpAny_bind (D.run pins s σ H _ I fun us s1 I1 rv => wpAny_bind (wpAny_holding (wpAny_pure ?_)))
  rw [makeFunction_eq]
  simp only [List.zip_nil_right, List.filterMap_nil, List.isEmpty_nil, if_true, pure_bind]
  -- the object is made
  have fin : ∀ (dV : Value) (s2 : Shared) (H2 : Hp), Inv X pins σ H2 s2 → ExtN H H2 → Tabs T H2 → DflAt H2 dV L.dvs → (∀ f, H2 f = none → H f = none) → wpAny (model X.prog X.w) X.A (makeTail "<lambda>" (X.env.qual ++ "<lambda>") L.params (.expr L.body) L.scope X.env dV .none none pos pos.line) (EP X pins σ Q) X.xe s2 := by
    intro dV s2 H2 I2 ex hT2 hd back
    obtain ⟨ps, hP, ht, ha⟩ := hT2 _ hm
    have bP : s2.heap.BuiltinsAt X.mg P := TB.bm.keeps I2.bk
    have hP' : s2.heap.get? P = some { cls := .none, data := .fields ps } := I2.hok P _ hP
    -- tracked
    have last : ∀ (f c' : Addr) (pm ctv : Value) (H3 : Hp) (s3 : Shared), Inv X pins σ H3 s3 → ExtN H2 H3 → Tabs T H3 → s3.heap.get? f = some (lamObj (X.env.qual ++ "<lambda>") L.params L.body L.scope (cloFrom X.env.cells L.scope.names []) dV pm (.ref c') ctv) → s2.heap.objs.size ≤ f → H3 f = none → H3 c' = some (CodeO c' (X.env.qual ++ "<lambda>")) → EP X pins σ Q (.ref f) s3 := by
      intro f c' pm ctv H3 s3 I3 e3 hT3 hf hle hn hc
      have fp : FpOk X pins H3 f := I2.fpOk hle hn
      have I4 := NvZ.track (o := .frz (lamObj (X.env.qual ++ "<lambda>") L.params L.body L.scope (cloFrom X.env.cells L.scope.names []) dV pm (.ref c') ctv) (live f)) I3 fp (live_ok hf)
      have e4 : ∀ b o, H3 b = some o → upd H3 f (.frz (lamObj (X.env.qual ++ "<lambda>") L.params L.body L.scope (cloFrom X.env.cells L.scope.names []) dV pm (.ref c') ctv) (live f)) b = some o := fun b o e => by rw [upd_ne (ne_of_none e hn)]; exact e
      have nH : H f = none := back f (I2.hok.fresh hle)
      exact ⟨.ref f, _, I4, rfl, h f _ nH (ex.trans (e3.trans (.of e4))) (hT3.ext e4) ⟨c', dV, pm, ctv, upd_same, e4 _ _ hc, (hd.ext e3).ext (.of e4)⟩⟩
    cases hc : codeAmong pos ps.toList with
    | none =>
      refine tail_new (closure_ok cap) I2.ok.glob (I2.mod.glob.keeps I2.bk) hcode (TB.code.keeps I2.bk) hP' ht hc TB.gP bP fun c' ctv h' tk hx hge hlt hrec htb => ?_
      obtain ⟨c2, oc, vs, t, e2, hoc, hdd, hv⟩ := hrec
      cases e2
      have hsz : s2.heap.objs.size ≤ h'.objs.size := Nat.le_trans hge (Nat.le_of_lt hlt)
      have nC : H2 c' = none := I2.hok.fresh hge
      have nP : ∀ b u, H2 b = some u → (∀ q, u ≠ .tbl q) → b ≠ P := fun b u e q z => by
        rw [z, hP] at e
        exact q ps (Option.some.inj e).symm
      have I3 := inv_table (t' := tk) (more := #[rawInt pos.line, rawInt pos.col, .ref c']) (h' := h'.push (lamObj (X.env.qual ++ "<lambda>") L.params L.body L.scope (cloFrom X.env.cells L.scope.names []) dV ((X.mg "__name__").getD .none) (.ref c') ctv)) I2 hP
        (fun b o hb e => Heap.get?_push_of_some _ (hx b o hb e)) (Heap.get?_push_of_some _ htb) hge ⟨oc, vs, t, Heap.get?_push_of_some _ hoc, hdd, hv⟩
      have hE : ExtN H2 (upd (upd H2 P (.tbl (ps ++ #[rawInt pos.line, rawInt pos.col, .ref c']))) c' (CodeO c' (X.env.qual ++ "<lambda>"))) := fun b o e n => by
        rw [upd_ne (ne_of_none e nC), upd_ne (nP b o e n)]
        exact e
      have eL : (ps ++ #[rawInt pos.line, rawInt pos.col, .ref c']).toList = ps.toList ++ [rawInt pos.line, rawInt pos.col, .ref c'] := by simp
      refine last h'.objs.size c' _ ctv _ _ I3 hE (fun p hp => ?_) (Heap.get?_push_size _ rfl) hsz ?_ upd_same
      · by_cases hb : p.1 = P
        · rw [hu p hp hb, hb]
          refine ⟨_, by rw [upd_ne (ne_of_none hP nC), upd_same], by rw [eL]; exact PySem.TriplesOk_snoc _ _ _ _ ht, fun p' cv hcv => ?_⟩
          rw [eL] at hcv
          rcases among_app _ ht hcv with z | z
          · obtain ⟨c0, e1, e2⟩ := ha p' cv z
            exact ⟨c0, e1, hE _ _ e2 codeO_ne⟩
          · exact ⟨c', z, upd_same⟩
        · obtain ⟨ps', a1, a2, a3⟩ := hT2 p hp
          refine ⟨ps', by rw [upd_ne (ne_of_none a1 nC), upd_ne hb]; exact a1, a2, fun p' cv hcv => ?_⟩
          obtain ⟨c0, e1, e2⟩ := a3 p' cv hcv
          exact ⟨c0, e1, hE _ _ e2 codeO_ne⟩
      · rw [upd_ne (Nat.ne_of_gt hlt), upd_ne (Nat.ne_of_gt (Nat.lt_of_lt_of_le (Heap.lt_size hP') hsz))]
        exact I2.hok.fresh hsz
    | some cv =>
      obtain ⟨c', e, hco⟩ := ha pos cv hc
      subst e
      refine tail_hit (closure_ok cap) I2.ok.glob (I2.mod.glob.keeps I2.bk) hcode (TB.code.keeps I2.bk) hP' ht hc bP fun ctv h' hx hsz => ?_
      have I3 : Inv X pins σ H2 { s2 with heap := h'.push (lamObj (X.env.qual ++ "<lambda>") L.params L.body L.scope (cloFrom X.env.cells L.scope.names []) dV ((X.mg "__name__").getD .none) (.ref c') ctv) } := I2.kept (t' := s2.toks) fun b o e => Heap.get?_push_of_some _ (hx b o e)
      exact last h'.objs.size c' _ ctv H2 _ I3 (ExtN.refl H2) hT2 (Heap.get?_push_size _ rfl) hsz (I2.hok.fresh hsz) hco
  cases hus : us with
  | nil =>
    subst hus
    have ed : L.dvs = [] := by
      cases e : L.dvs with
      | nil => rfl
      | cons a r => rw [e] at rv; cases rv
    exact fin .none s1 H I1 (ExtN.refl H) hT (.inl ⟨ed, rfl⟩) fun _ e => e
  | cons u0 ur =>
    subst hus
    have nT : H s1.heap.objs.size = none := I1.hok.fresh (Nat.le_refl _)
    refine wpAny_bind (wpAny_newTextTuple ?_)
    have e2 : ∀ b o, H b = some o → upd H s1.heap.objs.size (.tup L.dvs) b = some o := fun b o e => by rw [upd_ne (ne_of_none e nT)]; exact e
    have I2 : Inv X pins σ (upd H s1.heap.objs.size (.tup L.dvs)) { s1 with heap := s1.heap.push { cls := .type "tuple", data := .seq (u0 :: ur).toArray } } :=
      I1.laid (t' := s1.toks) (fun b o e => Heap.get?_push_of_some _ e) (Nat.le_refl _) ⟨by have := D.len; have := sizeLine_eq; omega, _, rv, ⟨_, Heap.get?_push_size _ rfl, rfl, _, rfl⟩⟩
    refine fin (.ref s1.heap.objs.size) _ _ I2 (.of e2) (hT.ext e2) (.inr ⟨(fun q => by rw [q] at rv; cases rv), _, rfl, upd_same⟩) fun f e => ?_
    by_cases q : f = s1.heap.objs.size
    · rw [q]; exact nT
    · rw [upd_ne q] at e; exact e
end
/-! ### the lambda runs -/
/-- its names: parameters (with defaults), captured ones, globals -/
structure LamK (N : List Str) (sc : Scope) (L : Lam) (ps : List Str) : Prop where
  kind : L.scope.kind = .function
  co : L.scope.isCoroutine = false
  gen : L.scope.isGenerator = false
  own : ∀ y ∈ L.scope.names, y.2 ≠ .cell ∧ (y.2 = .local → y.1 ∉ N)
  par : ∀ p ∈ ps, L.scope.names.lookup p = some .local
  free : ∀ y ∈ L.scope.names, y.2 = .free → sc.names.lookup y.1 = some .cell ∨ sc.names.lookup y.1 = some .free
  bind0 : L.dvs = [] → ps = [] ∧ ∀ (q : Str) (cl : List (Str × Addr)) (pm cv ct : Value), bindArgs (lamFd q L.params L.body L.scope cl .none pm cv ct) ⟨[], []⟩ = pure []
  bind1 : L.dvs ≠ [] → ∀ (q : Str) (cl : List (Str × Addr)) (T : Addr) (pm cv ct : Value), ∃ k, bindArgs (lamFd q L.params L.body L.scope cl (.ref T) pm cv ct) ⟨[], []⟩ = seqItems? (.ref T) >>= k ∧ ∀ its : List Value, its.length = L.dvs.length → k (some its.toArray) = pure (ps.zip its)
def lamKB (N : List Str) (sc scope : Scope) (ps : List Str) : Bool :=
  decide (scope.kind = .function) && !scope.isCoroutine && !scope.isGenerator && (scope.names.all fun y => !decide (y.2 = .cell) && (!decide (y.2 = .local) || !decide (y.1 ∈ N)) && (!decide (y.2 = .free) || decide (sc.names.lookup y.1 = some .cell) || decide (sc.names.lookup y.1 = some .free))) && ps.all fun p => decide (scope.names.lookup p = some .local)
theorem lamK_by {N : List Str} {sc : Scope} {L : Lam} {ps : List Str} (h : lamKB N sc L.scope ps = true) (b0 : L.dvs = [] → ps = [] ∧ ∀ (q : Str) (cl : List (Str × Addr)) (pm cv ct : Value), bindArgs (lamFd q L.params L.body L.scope cl .none pm cv ct) ⟨[], []⟩ = pure [])
    (b1 : L.dvs ≠ [] → ∀ (q : Str) (cl : List (Str × Addr)) (T : Addr) (pm cv ct : Value), ∃ k, bindArgs (lamFd q L.params L.body L.scope cl (.ref T) pm cv ct) ⟨[], []⟩ = seqItems? (.ref T) >>= k ∧ ∀ its : List Value, its.length = L.dvs.length → k (some its.toArray) = pure (ps.zip its)) : LamK N sc L ps := by
  unfold lamKB at h
  simp only [Bool.and_eq_true, Bool.or_eq_true, Bool.not_eq_true', decide_eq_true_eq, decide_eq_false_iff_not, List.all_eq_true] at h
  obtain ⟨⟨⟨⟨h1, h2⟩, h3⟩, h4⟩, h5⟩ := h
  refine ⟨h1, h2, h3, fun y hy => ⟨(h4 y hy).1.1, fun e => (h4 y hy).1.2.resolve_left fun z => z e⟩, h5, fun y hy e => ?_, b0, b1⟩
  rcases (h4 y hy).2 with (z | z) | z
  · exact absurd e z
  · exact .inl z
  · exact .inr z
section
variable {X : Cx} {pins : List (Addr × Obj)} {σ : L2.St} {H HZ : Hp} {s s1 : Shared} {L : Lam} {ps : List Str}
/-- the lambda's frame as it starts -/
theorem start_lam {A : Around} {outer : List Env} {E : XK} {f c' : Addr} {h₁ : Heap} {tk : Nat} {m : Str → Option Value} (I : Inv X pins σ H s) (K : LamK X.N X.env.scope L ps) (e0 : Env0 X.prog X.w X.K X.mg X.base A outer s1 HZ) (hd : A.handled = none)
    (un : Un (frs X.stack) [] H HZ s.heap s1.heap) (hns : h₁.Ns s1.heap.objs.size m) (kp : ∀ b o, s1.heap.get? b = some o → h₁.get? b = some o) :
    Inv (lamCx X A outer s1 HZ E L.scope f c') [] σ HZ { s1 with heap := h₁, toks := tk } := by
  have cap : ∀ y ∈ L.scope.names, y.2 = .free → ∃ c, X.env.cells.lookup y.1 = some c := fun y hy e => (K.free y hy e).elim (fun k => I.ok.has _ (.inl k)) fun k => I.ok.has _ (.inr k)
  have cm : ∀ {y c}, (cloFrom X.env.cells L.scope.names []).lookup y = some c → X.env.cells.lookup y = some c := fun {y c} e => by
    rcases cloFrom_mem (PySem.mem_of_lookup e) with hm | ⟨h1, h2⟩
    · cases hm
    · obtain ⟨c1, hc⟩ := cap _ h1 rfl
      have hc : X.env.cells.lookup y = some c1 := hc
      rw [h2, hc]
      exact rfl
  have look : ∀ {y}, L.scope.names.lookup y = some .free → ∃ c, (cloFrom X.env.cells L.scope.names []).lookup y = some c := fun {y} hl => mem_lookup (cloFrom_has (cells := X.env.cells) (acc := []) (PySem.mem_of_lookup hl))
  have cellK : ∀ {c : Addr} {v : Option Value}, H c = none → s.heap.IsCell c v → h₁.IsCell c v := fun {c v} n ⟨o, ho, hd⟩ => by
    obtain ⟨sl, q⟩ := un.any ho n (by simp)
    exact ⟨_, kp _ _ q, hd⟩
  have nocell : ∀ {y}, L.scope.names.lookup y ≠ some .cell := fun {y} q => (K.own _ (PySem.mem_of_lookup q)).1 rfl
  have okL : (lamCx X A outer s1 HZ E L.scope f c').Ok :=
    { mod := e0.mod, kind := K.kind, glob := rfl, blt := rfl, above := Nat.le_refl _
      inj := fun y z c e1 e2 => I.ok.inj y z c (cm e1) (cm e2)
      has := fun y hy => by
        have hy : L.scope.names.lookup y = some .cell ∨ L.scope.names.lookup y = some .free := hy
        exact hy.elim (fun q => absurd q nocell) look
      cab := fun y c z _ => by
        have z : false = true := z
        cases z
      hd := fun _ => hd, frames := Around.frames_deeper e0.frames, stk := .inr ⟨rfl, rfl⟩
      exf := fun b z => by cases (show b ∈ ([] : List Addr) from z)
      bs := e0.bs, bsz := e0.bsz
      noex := fun b _ _ z => by cases (show b ∈ ([] : List Addr) from z)
      exfs := fun b z => by cases (show b ∈ ([] : List Addr) from z)
      funs := e0.funs, frf := e0.frf }
  refine { ok := okL, os := rfl, bare := e0.bare, base := Un.kept kp, loc := ⟨m, hns, fun i y v e1 e2 e3 => ?_⟩, cell := fun y c e => ?_, free := e0.hok.fresh (Nat.le_refl _), freeC := fun y c e => ?_, pin := fun q hq => ?_, hok := e0.hok.kept kp, len := I.len }
  · have e1 : X.N[i]? = some y := e1
    have e3 : Vis L.scope y := e3
    rcases e3 with k | k | k
    · exact absurd (List.mem_of_getElem? e1) ((K.own _ (PySem.mem_of_lookup k)).2 rfl)
    · exact absurd k nocell
    · obtain ⟨m', hn, hl⟩ := I.loc
      have hv := K.free _ (PySem.mem_of_lookup k) rfl
      obtain ⟨u, r, q⟩ := hl i y v e1 e2 (hv.elim (fun k => .inr (.inl k)) fun k => .inr (.inr k))
      obtain ⟨c2, h2⟩ := look k
      have c1 := cm h2
      refine ⟨u, r, .inr ⟨.inr k, c2, h2, ?_⟩⟩
      rcases q with ⟨k', _⟩ | ⟨_, c3, e', z⟩
      · have k' : X.env.scope.names.lookup y = some .local := k'
        rcases hv with k2 | k2 <;> rw [show X.env.scope.names.lookup y = _ from k2] at k' <;> cases k'
      · rw [c1] at e'
        cases e'
        exact cellK (I.freeC y _ c1) z
  · obtain ⟨u, z⟩ := I.cell y c (cm e)
    exact ⟨u, cellK (I.freeC y c (cm e)) z⟩
  · obtain ⟨v, o, ho, _⟩ := I.cell y c (cm e)
    exact un.free c o ho (I.freeC y c (cm e)) (by simp)
  · exact absurd (show q ∈ ([] : List (Addr × Obj)) ++ [] from hq) (by simp)
/-- what it binds -/
theorem bind_lam (K : LamK X.N X.env.scope L ps) {q : Str} {cl : List (Str × Addr)} {dV pm cv ct : Value} {A : Around} {E' : Value → Shared → Prop} {Q : List (Str × Value) → Shared → Prop} (hok : HOk X.prog X.w H s.heap) (d : DflAt H dV L.dvs)
    (h : ∀ binds : List (Str × Value), (∀ y ∈ binds, L.scope.names.lookup y.1 = some .local) → Q binds s) : wpAny (model X.prog X.w) A (bindArgs (lamFd q L.params L.body L.scope cl dV pm cv ct) ⟨[], []⟩) Q E' s := by
  rcases d with ⟨e, rfl⟩ | ⟨e, T, rfl, hT⟩
  · rw [(K.bind0 e).2]
    exact wpAny_pure (h [] fun y hy => by cases hy)
  · obtain ⟨_, its, rv, ⟨o, ho, hc, n, hdt⟩⟩ := hok T _ hT
    obtain ⟨k, e1, e2⟩ := K.bind1 e q cl T pm cv ct
    rw [e1]
    refine wpAny_bind (wpAny_seqItems ho hdt ?_)
    rw [e2 its rv.length.symm]
    exact wpAny_pure (h _ fun y hy => K.par _ (List.of_mem_zip hy).1)
/-- a(), in the def that got the lambda -/
theorem pe_actF {CXg : CXT} {Eg : XK} {Ng : List Str} {qg : Str} {sg : Scope} {g f c' : Addr} {cdg dV pm ctv : Value} {k i : Nat} {a : Str} {pn : List (Addr × Obj)} {xe : Value → Shared → Prop} {W : WX} {E : XK} {tb : TE} {p1 p2 : Pos}
    (I : Inv X pins σ H s) (K : LamK X.N X.env.scope L ps) (hF : H f = some (.frz (lamObj (X.env.qual ++ "<lambda>") L.params L.body L.scope (cloFrom X.env.cells L.scope.names []) dV pm (.ref c') ctv) (live f))) (hD : DflAt H dV L.dvs)
    (tk : Takes ((cxOf CXg X.prog X.w X.K X.mg X.base Ng qg sg g cdg X.A X.stack s H Eg).tr pn xe) W) (hW : ∀ cls d σ' H', E cls d H' → W cls d σ' H') (hr : Room (k + 1) (X.A.deeper (envOfC qg sg s.heap.objs.size g cdg)))
    (hbody : ∀ (A : Around) (outer : List Env) (s : Shared) (H : Hp), Room k (A.deeper (lamEnv X L.scope s.heap.objs.size f c')) → PE (lamCx X A outer s H E L.scope f c') L.body tb)
    (hN : Ng[i]? = some a) (hv : Vis sg a) (hd : (a == ("__debug__" : Str)) = false) (hcd : (a == ("__classdict__" : Str)) = false) :
    PE ((cxOf CXg X.prog X.w X.K X.mg X.base Ng qg sg g cdg X.A X.stack s H Eg).tr pn xe) (.Call (.Name a p1) [] [] p2)
      (fun σZ HZ Q => σZ[i]? = some (some (.ref f)) ∧ HZ c' = some (CodeO c' (X.env.qual ++ "<lambda>")) ∧ tb σ HZ Q) := by
  refine ⟨fun pinsZ sZ σZ HZ Q IZ h => ?_⟩
  obtain ⟨hs, hc, ht⟩ := h
  refine wpAny_Call_Name_kw (thn ((pe_var (pos := p1) (i := i) hN hv hd hcd).run pinsZ sZ σZ HZ (fun v H1 => v = .ref f ∧ H1 = HZ) IZ ⟨.ref f, hs, rfl, rfl⟩) fun u s1 ⟨v, H1, I1, r1, ev, eH⟩ => ?_)
  subst ev eH
  obtain rfl : u = Value.ref f := r1
  have un : Un (frs X.stack) [] H H1 s.heap s1.heap := I1.base
  obtain ⟨of1, _⟩ := I1.hok f _ (un.frzs f _ _ hF)
  have hD1 : DflAt H1 dV L.dvs := by
    rcases hD with e | ⟨e, T, e1, e2⟩
    · exact .inl e
    · exact .inr ⟨e, T, e1, un.tups _ _ e2⟩
  refine PySem.W.callWith_F0 ⟨_, _, _, _, of1⟩ ?_
  obtain ⟨⟨oc, vs, t, hoc, hdc, hvc⟩, _, _⟩ := I1.hok c' _ hc
  have rc : codeAny (model X.prog X.w) (X.A.deeper (envOfC qg sg s.heap.objs.size g cdg)) (.call (.ref f) ⟨[], []⟩) (CR (L2.CX X.prog X.w) (envOfC qg sg s.heap.objs.size g cdg :: X.stack) X.prog X.w H1 s1 Q E) s1 := by
    refine PySem.W.kla_callFunE hr.depth of1 rfl K.co K.gen rfl ⟨c', oc, vs, t, rfl, hoc, hdc, hvc⟩ ?_
    refine bind_lam K I1.hok hD1 fun binds hbl => wpAny_newFunctionEnv (fun y hy => (K.own y hy).1) hbl (fun h₁ hns hsb => ⟨I1.nolimit.fresh _ hsb, ?_⟩) K.kind
    have kp : ∀ b o, s1.heap.get? b = some o → h₁.get? b = some o := fun b o e => hsb.extBut b o (Nat.ne_of_lt (Heap.lt_size e)) (Heap.get?_push_of_some _ e)
    have J : Inv (lamCx X (X.A.deeper (envOfC qg sg s.heap.objs.size g cdg)) (envOfC qg sg s.heap.objs.size g cdg :: X.stack) s1 H1 E L.scope f c') [] σ H1 { s1 with heap := h₁, toks := s1.toks + binds.length } :=
      start_lam I K I1.env0 hr.hd un hns kp
    refine PySem.W.kla_codeExpr (wpAny_mono ((hbody _ _ s1 H1 (hr.deeper _)).run [] _ _ H1 Q J ht) (fun v s' ⟨w', H', J', rv, q⟩ => ⟨w', H', J'.os, J'.bare, J'.base, J'.hok, rv, q⟩) fun e s' hq => hq)
  refine wpAny_call (codeAny_mono rc fun r s' hq => ?_)
  cases r with
  | error e => exact passes_call tk hW pinsZ σZ H1 s1 e s' I1 hq
  | ok fl =>
    cases fl with
    | ret u => exact I1.after hq
    | next => exact False.elim hq
    | brk => exact False.elim hq
    | cont => exact False.elim hq
end
/-! ### handed to a def -/
/-- a def of one parameter that calls what it gets -/
structure Taker (X : Cx) (x a : Str) (g : Addr) (Ng : List Str) (TT : (XK → Hp → VK → Prop) → Hp → VK → Prop) : Prop where
  gm : X.mg x = some (.ref g)
  kp : PySem.W.keepIn X.K (.ref g) = true
  vis : Ng[0]? = some a
  ok : ∃ (pg : Arguments) (bg : List Stmt) (sg : Scope) (dV kV doc pm cdv ct oc : Value) (an od : Option Addr) (osl : Array (Option Value)), X.K.lookup g = some ⟨oc, od, .func (PySem.W.fnOf x x pg bg sg dV kV doc pm an cdv ct), osl⟩ ∧ PySem.W.codeIn X.K cdv x = true ∧
    L2.Binds X.K (PySem.W.fnOf x x pg bg sg dV kV doc pm an cdv ct) [a] [] ∧ FnScope Ng [a] sg ∧ Vis sg a ∧ GivesTo X Ng x sg g cdv bg a (X.env.qual ++ "<lambda>") TT
section
variable {X : Cx} {pins : List (Addr × Obj)} {σ : L2.St} {H : Hp} {s : Shared}
/-- the def runs, handed the lambda L at f; the maker's frame stands as it does here -/
theorem run_taker {x a : Str} {g f : Addr} {Ng : List Str} {TT : (XK → Hp → VK → Prop) → Hp → VK → Prop} {k : Nat} {L : Lam} {ps : List Str} {t : XK → TE} {Q : VK} (G : Taker X x a g Ng TT) (hr : Room (k + 2) X.A) (K : LamK X.N X.env.scope L ps) (I : Inv X pins σ H s) (hl : LamAt X H f L)
    (hbody : ∀ (A : Around) (outer : List Env) (s : Shared) (H : Hp) (E : XK) (f c' : Addr), Room k (A.deeper (lamEnv X L.scope s.heap.objs.size f c')) → PE (lamCx X A outer s H E L.scope f c') L.body (t E)) (h : TT (fun E H' Q' => t E σ H' Q') H Q) (hd : (a == ("__debug__" : Str)) = false) (hcd : (a == ("__classdict__" : Str)) = false) :
    wpAny (model X.prog X.w) X.A (call (.ref g) [.ref f]) (fun u s' => CE X.stack X.prog X.w H s Q u s') (fun _ _ => False) s := by
  obtain ⟨pg, bg, sg, dV, kV, doc, pm, cdv, ct, oc, an, od, osl, lk, hcg, hb, Sg, hva, hG⟩ := G.ok
  obtain ⟨c', dVl, pml, ctv, hF, hC, hD⟩ := hl
  have rc : codeAny (model X.prog X.w) X.A (.call (.ref g) ⟨[.ref f], []⟩) (CR C8.CX0 X.stack X.prog X.w H s Q C8.E0) s := by
    refine run_ofS (N := Ng) (ps := [a]) (us := [.ref f]) (vs := [.ref f]) lk hcg Sg hr I.env0 (hb s [.ref f] I.kIn rfl) (.cons rfl .nil) rfl fun hr' => ?_
    obtain ⟨t', ht', hq'⟩ := hG f c' s H Q (fun E H' Q' => t E σ H' Q') (fun W pn xe E p1 p2 tk hW => pe_actF (i := 0) I K hF hD tk hW hr' (fun A outer s H hr2 => hbody A outer s H E f c' hr2) G.vis hva hd hcd) hC h
    exact ⟨t', ht'.nox, hq'⟩
  refine wpAny_call (codeAny_mono rc fun r s2 hq => ?_)
  cases r with
  | error e => exact (show False from hq).elim
  | ok fl =>
    cases fl with
    | ret u => exact hq
    | next => exact False.elim hq
    | brk => exact False.elim hq
    | cont => exact False.elim hq
/-- x(e), e a value that is such a lambda, in the maker's own frame -/
theorem pe_take {x a : Str} {g : Addr} {Ng : List Str} {TT : (XK → Hp → VK → Prop) → Hp → VK → Prop} {k : Nat} {L : Lam} {ps : List Str} {t : XK → TE} {e : Expr} {te : TE} {p pos : Pos} (G : Taker X x a g Ng TT) (hg : Gl X x) (hr : Room (k + 2) X.A) (K : LamK X.N X.env.scope L ps) (he : PE X e te)
    (hbody : ∀ (A : Around) (outer : List Env) (s : Shared) (H : Hp) (E : XK) (f c' : Addr), Room k (A.deeper (lamEnv X L.scope s.heap.objs.size f c')) → PE (lamCx X A outer s H E L.scope f c') L.body (t E))
    (hdb : (x == ("__debug__" : Str)) = false := by decide) (hd : (a == ("__debug__" : Str)) = false := by decide) (hcd : (a == ("__classdict__" : Str)) = false := by decide) (hs : starEach [e] X.env = (false, eval e X.env) :: starEach [] X.env := by rfl) :
    PE X (.Call (.Name x p) [e] [] pos) (fun σ H Q => te σ H fun v H1 => ∃ f, v = .ref f ∧ LamAt X H1 f L ∧ TT (fun E H' Q' => t E σ H' Q') H1 Q) := by
  refine ⟨fun pins s σ H Q I h => ?_⟩
  refine wpAny_Call_Name_kw (ld_glob I hg G.gm ?_ hdb)
  refine PySem.W.callWith_K (h₀ := X.base) I.ok.mod.kin G.kp (args_cons (thn (he.run pins s σ H _ I h) fun v s1 ⟨y, H1, I1, ry, f, ey, hl, q⟩ => args_nil ?_) hs) hs rfl
  subst ey
  obtain rfl : v = Value.ref f := ry
  exact ⟨I1.kIn, wpAny_mono (run_taker G hr K I1 hl hbody q hd hcd) (fun u s' hq => I1.after hq) fun _ _ z => z.elim⟩
/-- x(y) within a comprehension's block, y a name that is such a lambda of the frame around it -/
theorem pe_takeB {x a y : Str} {g : Addr} {Ng : List Str} {TT : (XK → Hp → VK → Prop) → Hp → VK → Prop} {k j : Nat} {Ls : Nat → Lam} {pss : Nat → List Str} {ts : Nat → XK → TE} {n : Nat} {py p pos : Pos} {scope : Scope} {C : Addr} {cl : List (Str × Addr)} {fp : List Addr} (G : Taker X x a g Ng TT) (hr : Room (k + 2) X.A) (hh : Here X pins σ s H fp)
    (hg : Gl (X.blk s H scope (compEnvC scope cl C X.env) fp) x) (hy : X.N[j]? = some y) (hvy : Vis (X.blk s H scope (compEnvC scope cl C X.env) fp).env.scope y) (K : ∀ i, i < n → LamK X.N X.env.scope (Ls i) (pss i))
    (hbody : ∀ i, i < n → ∀ (A : Around) (outer : List Env) (s : Shared) (H : Hp) (E : XK) (f c' : Addr), Room k (A.deeper (lamEnv X (Ls i).scope s.heap.objs.size f c')) → PE (lamCx X A outer s H E (Ls i).scope f c') (Ls i).body (ts i E))
    (hdb : (x == ("__debug__" : Str)) = false := by decide) (hd : (a == ("__debug__" : Str)) = false := by decide) (hcd : (a == ("__classdict__" : Str)) = false := by decide) (hyd : (y == ("__debug__" : Str)) = false := by decide) (hyc : (y == ("__classdict__" : Str)) = false := by decide) :
    PE (X.blk s H scope (compEnvC scope cl C X.env) fp) (.Call (.Name x p) [.Name y py] [] pos) (fun σb Hb Q => ∃ i f, i < n ∧ σb[j]? = some (some (.ref f)) ∧ LamAt X Hb f (Ls i) ∧ TT (fun E H' Q' => ts i E σ H' Q') Hb Q) := by
  refine ⟨fun pinsb sb σb Hb Q Ib h => ?_⟩
  obtain ⟨i, f, hi, hs, hl, q⟩ := h
  refine wpAny_Call_Name_kw (ld_glob Ib hg G.gm ?_ hdb)
  refine PySem.W.callWith_K (h₀ := X.base) Ib.ok.mod.kin G.kp (args_cons (thn ((pe_var (X := X.blk s H scope (compEnvC scope cl C X.env) fp) (pos := py) (i := j) hy hvy hyd hyc).run pinsb sb σb Hb (fun v H1 => v = .ref f ∧ H1 = Hb) Ib ⟨.ref f, hs, rfl, rfl⟩) fun v s1 ⟨v', H1, I1, r1, ev, eH⟩ => args_nil ?_) rfl) rfl rfl
  subst ev eH
  obtain rfl : v = Value.ref f := r1
  have I2 : Inv X pins σ H1 s1 := hh.inv.call' (ch := fp) I1.os I1.base I1.hok I1.bare fun b hb => ⟨(hh.fps b hb).1.2.2.2.1, (hh.fps b hb).1.2.1, (hh.fps b hb).1.2.2.2.2.1, (hh.fps b hb).1.2.2.2.2.2⟩
  exact ⟨I1.kIn, wpAny_mono (run_taker (X := X) G hr (K i hi) I2 hl (hbody i hi) q hd hcd) (fun u s' hq => I1.after hq) fun _ _ z => z.elim⟩
end
end NvL

set_option maxRecDepth 100000
set_option maxHeartbeats 8000000
namespace NvL
open PySem PySem.Spec PyProof.Rows L2 LamX
section
variable {J : It} {n : Nat} {G : Hp → Prop} {Y : Nat → Hp → V → Hp → Prop}
theorem lcm_it (w : Walk J n G Y) {g : TG} {te : TE} {vs : List Nat} {σ : L2.St} {H1 : Hp} {D : Addr} {Qd : Hp → Prop} (Pv : Nat → Hp → Prop) (h0 : Pv 0 (upd H1 D (.lst []))) (hG : ∀ i H, i ≤ n → Pv i H → G H)
    (hs : ∀ i x H H', i < n → Pv i H → Y i H x H' → g x (wipe σ vs) H' fun σ2 H2 => wipe σ2 vs = wipe σ vs ∧
      te σ2 H2 fun y H4 => ∃ acc, H4 D = some (.lst acc) ∧ acc.length < sizeLine ∧ Pv (i + 1) (upd H4 D (.lst (acc ++ [y])))) (hd : ∀ H, Pv n H → Qd H) :
    ∃ W : Nat → Nat → Hp → Prop, (∃ m, W 0 m (upd H1 D (.lst []))) ∧ ∀ i m H, W i m H →
      (J.stop i H ∧ Qd H) ∨ (J.go i H ∧ ∃ Nx : Hp → Prop, (∀ H', Nx H' → ∃ m', m' < m ∧ W (i + 1) m' H') ∧ ∀ x H', J.yld i H x H' → g x (wipe σ vs) H' fun σ2 H2 => wipe σ2 vs = wipe σ vs ∧
        te σ2 H2 fun y H4 => ∃ acc, H4 D = some (.lst acc) ∧ acc.length < sizeLine ∧ Nx (upd H4 D (.lst (acc ++ [y])))) := by
  refine ⟨fun i m H => m = n - i ∧ i ≤ n ∧ Pv i H, ⟨n, by simp, Nat.zero_le _, h0⟩, ?_⟩
  rintro i m H ⟨rfl, hi, p⟩
  have q := hG i H hi p
  by_cases hlt : i < n
  · refine .inr ⟨w.goes i H hlt q, Pv (i + 1), fun H' p' => ⟨n - (i + 1), by omega, rfl, hlt, p'⟩, fun x H' y => hs i x H H' hlt p (w.yields i H x H' hlt q y)⟩
  · have e : i = n := by omega
    subst e
    exact .inl ⟨w.stops H q, hd H p⟩
end
end NvL
namespace Nv
open PySem PySem.Spec PyProof.Rows L2 NvSet LamX
variable {K : PySem.W.Frag} [KFx K]
abbrev sLaw : Stmt := topS 71
abbrev nLaw : List Str := ["_law_script", "_law_bag_here", "_law_turn", "_law_signs", "_law_given", "_law_found", "_law_made", "_law_flaw", "_law_asks", "_law_odd_here", "_law_per", "_law_sign", "_law_term", "_law_ask"]
theorem scLaw : FnScope nLaw ["_law_script"] (defScope sLaw) := ⟨rfl, rfl, rfl, by decide +kernel, rfl, by decide +kernel, by decide +kernel⟩
def qLam : Str := "law.<locals>.<lambda>"
def spLaw (K : PySem.W.Frag) (Pt : Addr) : Sp := fun vs H Q _ => ∃ (a : Addr) (ns : List Int), vs = [.ref a] ∧ SqL K H a (ns.map V.int) ∧ Tabs [(Pt, qLam)] H ∧ ∀ H', Q (.bl true) H'
/-- nudged, its last parameter left out (at fN with the default B0) or handed by its name -/
structure Nud (P : Program) (w : World) (K : PySem.W.Frag) [KFx K] (mg : Str → Option Value) (base : Heap) (C B0 B1 fN : Addr) (fdN : FuncData) : Prop where
  dfl : CalX P w K mg base 12 "nudged" (spNudged K C 9) [.ref B0]
  fn : FnOk P w K mg base (L2.CX P w) 12 fN fdN ["term", "letter", "by"] (spNudged K C 9)
  gN : mg "nudged" = some (.ref fN)
  kp : PySem.W.keepIn K (.ref fN) = true
  kb : KBn K fdN ["term", "letter", "by"] 2 ["by"] (fun us ws => us ++ ws) (fun vs zs => vs ++ zs)
  one : ∀ H, (AT.sh B0 B1 1 1).In H
structure Calls (P : Program) (w : World) (K : PySem.W.Frag) [KFx K] (mg : Str → Option Value) (base : Heap) (C : Addr) : Prop where
  bag : C8.Cal P w K mg base 1 "_law_bag" (spBag K) []
  pull : C8.Cal P w K mg base 1 "_law_pull" spPull []
  pick : C8.Cal P w K mg base 2 "_law_of" spOf []
  light : C8.Cal P w K mg base 3 "_law_light" spLight []
  abc : C8.Cal P w K mg base 3 "_law_abc" spAbc []
  drawn : C8.Cal P w K mg base 13 "_law_drawn" (spDrawn 9) []
  moved : C8.Cal P w K mg base 11 "_law_moved" (spMoved 9) []
  fault : C8.Cal P w K mg base 134 "_law_fault" (spFault 130) []
  same : C8.Cal P w K mg base 133 "_law_same" (spSame K 132) []
  other : C8.Cal P w K mg base 11 "_law_other_way" (spTurn 9) []
  twist : C8.Cal P w K mg base 11 "_law_twist" (spTwist K 9) []
  odd : C8.Cal P w K mg base 3 "_law_odd" (spOddL K) []
  turned : CalX P w K mg base 12 "turned" (spTurned K C 9) []
theorem pss_imp {X : Cx} {sts : List Stmt} {t t' : TS} (h : PSs X sts t) (w : ∀ D σ H, t' D σ H → t D σ H) : PSs X sts t' := ⟨fun pins s σ H D I q => h.run pins s σ H D I (w D σ H q)⟩
def forB : Stmt → List Stmt
  | .For _ _ body _ _ => body
  | _ => []
def elE : Expr → Nat → Expr
  | .List es _, i => es.getD i (.Constant .none 0 ⟨0, 0, 0, 0⟩)
  | e, _ => e
def setE : Stmt → Expr
  | .Assign _ e _ => e
  | _ => .Constant .none 0 ⟨0, 0, 0, 0⟩
def lamOf : Expr → List V → NvL.Lam
  | .Lambda p b s _, d => ⟨p, b, s, d⟩
  | e, d => ⟨⟨[], [], none, [], [], none, []⟩, e, defScope sLaw, d⟩
abbrev turnB : List Stmt := forB ((defBody sLaw).getD 1 (.Pass ⟨0, 0, 0, 0⟩))
abbrev askL : Expr := setE (turnB.getD 7 (.Pass ⟨0, 0, 0, 0⟩))
def lamD : Nat → List V
  | 0 => []
  | 1 => [.int 0]
  | _ => [.int 0, .int 0]
def lamP : Nat → List Str
  | 0 => []
  | 1 => ["_law_a"]
  | _ => ["_law_a", "_law_b"]
def Ls (i : Nat) : NvL.Lam := lamOf (elE askL i) (lamD i)
theorem lam_at : ∀ i, i < 3 → NvL.LamK nLaw (defScope sLaw) (Ls i) (lamP i)
  | 0, _ => NvL.lamK_by (by decide +kernel) (fun _ => ⟨rfl, fun _ _ _ _ _ => rfl⟩) (fun h => absurd rfl h)
  | 1, _ => NvL.lamK_by (by decide +kernel) (fun h => by cases h) (fun _ _ _ _ _ _ _ => ⟨_, rfl, fun its h => match its, h with | [_], _ => rfl⟩)
  | 2, _ => NvL.lamK_by (by decide +kernel) (fun h => by cases h) (fun _ _ _ _ _ _ _ => ⟨_, rfl, fun its h => match its, h with | [_, _], _ => rfl⟩)
  | n + 3, h => absurd h (by omega)
/-- what the lambdas ask -/
def tsA (K : PySem.W.Frag) [KFx K] (C B0 : Addr) : Nat → XK → TE
  | 0, E => tCall (spTurned K C 9) [] E (tCons (tVar 9) tNil)
  | 1, E => tCall (spNudged K C 9) [.ref B0] E (tCons (tVar 9) (tCons (tVar 11) tNil))
  | _, E => tCallN 2 1 (spNudged K C 9) (fun vs zs => vs ++ zs) E (tCons (tVar 12) (tCons (tVar 11) tNil)) (tCons (tVar 9) tNil)
def noD : PyData := .tuple [.str "no", .str "BadTerm", .str "form"]
def NoT (K : PySem.W.Frag) (H : Hp) (v : V) : Prop := ∃ t, v = .ref t ∧ SqT K H t [.str "no", .str "BadTerm", .str "form"]
theorem NoT.dp {H : Hp} {v : V} (h : NoT K H v) : Dp K H v noD := by
  obtain ⟨t, rfl, h⟩ := h
  exact .tup h (.cons (.str _) (.cons (.str _) (.cons (.str _) .nil)))
theorem NoT.keep {H H' : Hp} (k : TupKeep H H') {v : V} (h : NoT K H v) : NoT K H' v := by
  obtain ⟨t, e, h⟩ := h
  exact ⟨t, e, k _ _ h⟩
theorem dp_all_same {H : Hp} {d : PyData} : ∀ {os : List V}, (∀ v ∈ os, Dp K H v d) → DpAll K H os (List.replicate os.length d)
  | [], _ => .nil
  | v :: os, h => by
    rw [List.length_cons, List.replicate_succ]
    exact .cons (h v List.mem_cons_self) (dp_all_same fun u hu => h u (List.mem_cons_of_mem _ hu))
theorem ext_tk {H H' : Hp} (e : ExtN H H') : TupKeep H H' := fun a xs h => by
  rcases h with (h | ⟨o, h⟩) | h
  · exact .inl (.inl (e _ _ h fun _ z => nomatch z))
  · exact .inl (.inr ⟨o, e _ _ h fun _ z => nomatch z⟩)
  · exact .inr h
def teA (X : Cx) (K : PySem.W.Frag) [KFx K] (C B0 : Addr) : L2.St → TE := fun σ σb Hb Q => ∃ i f, i < 3 ∧ σb[13]? = some (some (.ref f)) ∧ NvL.LamAt X Hb f (Ls i) ∧ TAsked C (fun E H' Q' => tsA K C B0 i E σ H' Q') Hb Q
/-- the frame: the script and the bag stand -/
def Fr (a b : Addr) (σ : L2.St) : Prop := ∃ y2 y3 y4 y5 y6 y7 y8 y9 y10 y11 y12 y13 : Option V, σ = [some (.ref a), some (.ref b), y2, y3, y4, y5, y6, y7, y8, y9, y10, y11, y12, y13]
/-- a turn's end -/
def tEnd (K : PySem.W.Frag) [KFx K] (Pt : Addr) : TS := fun D σ H => ∃ (l b a : Addr) (T : AT) (L : List Str) (W : WT) (x : Str) (y2 y3 y4 y5 y6 y7 y8 y10 y13 : Option V), σ = [some (.ref a), some (.ref b), y2, y3, y4, y5, y6, y7, y8, some W.v, y10, some (.str x), some T.v, y13] ∧ Ok l b [(Pt, qLam)] H ∧ T.In H ∧ Fair T L ∧ T.flaw = none ∧ W.In H ∧ W.count ≤ 200 ∧ W.Odd ∧
  ∀ (σ' : L2.St) (H' : Hp), Fr a b σ' → Ok l b [(Pt, qLam)] H' → D.nx σ' H'
section
variable {P : Program} {w : World} {mg : Str → Option Value} {base : Heap} {CN C fN fI B0 B1 fU : Addr} {fdU : FuncData}
theorem end_ok {f c Pt fT : Addr} {fdT : FuncData} {A : Around} {outer : List Env} {s : Shared} {H0 : Hp} {E : XK} (G : Calls P w K mg base C) (N : Nud P w K mg base C B0 B1 fU fdU)
    (hr : Room 140 (A.deeper (envOfC "law" (defScope sLaw) s.heap.objs.size f (.ref c)))) (R : Errs K mg CN C fN fI) (FT : Fun K "_law_asked" "_law_asked" sAsked fT fdT) (gT : mg "_law_asked" = some (.ref fT)) (TB : TabB base mg c Pt) :
    PSs (cxOf CX0 P w K mg base nLaw "law" (defScope sLaw) f (.ref c) A outer s H0 E).nox (turnB.drop 7) (tEnd K Pt) := by
  have bT := FT.binds (ps := ["_law_ask"]) fun _ _ _ _ _ _ us hl => match us, hl with | [_], _ => rfl
  obtain ⟨ocT, odT, kVT, docT, pmT, anT, cdT, ctT, oslT, rfl, lkT, hcT⟩ := FT.ex
  have TK : NvL.Taker (cxOf CX0 P w K mg base nLaw "law" (defScope sLaw) f (.ref c) A outer s H0 E).nox "_law_asked" "_law_ask" fT ["_law_ask", "e"] (TAsked C) := ⟨gT, FT.kp, rfl, _, _, _, _, _, _, _, _, _, _, _, _, _, lkT, hcT, bT, scAsked, .inl rfl, asked_gives R⟩
  refine pss_imp (pss_cons (ps_set (i := 8) scLaw.nd rfl (by first | exact .inl rfl | exact .inr rfl) (pe_lst (pa_cons (NvL.pe_lam (T := [(Pt, qLam)]) (L := Ls 0) TB rfl (List.mem_singleton.mpr (by rfl)) (fun p hp _ => by rw [List.mem_singleton.mp hp]; rfl) (lam_at 0 (by decide)).free (NvL.pds0 rfl))
      (pa_cons (NvL.pe_lam (T := [(Pt, qLam)]) (L := Ls 1) TB rfl (List.mem_singleton.mpr (by rfl)) (fun p hp _ => by rw [List.mem_singleton.mp hp]; rfl) (lam_at 1 (by decide)).free (NvL.pds1 pe_int rfl))
      (pa_cons (NvL.pe_lam (T := [(Pt, qLam)]) (L := Ls 2) TB rfl (List.mem_singleton.mpr (by rfl)) (fun p hp _ => by rw [List.mem_singleton.mp hp]; rfl) (lam_at 2 (by decide)).free (NvL.pds2 pe_int pe_int rfl)) pa_nil)))))
    (pss_one (ps_if (pt_cmpR (op_neD hr.units)
      (NvL.pe_lcm (own := [("_law_ask", 13)]) (g := gName 13) (te := teA (cxOf CX0 P w K mg base nLaw "law" (defScope sLaw) f (.ref c) A outer s H0 E).nox K C B0) rfl scLaw.nd (pi_list (pv 8)) (blkOk_by (N := nLaw) (sc := defScope sLaw) (by decide +kernel)) (fun _ _ _ _ _ => pg_name (i := 13) scLaw.nd rfl (by first | exact .inl rfl | exact .inr rfl))
        (fun pins σ s3 H3 C0 cl fp hh => NvL.pe_takeB (k := 12) (n := 3) (Ls := Ls) (pss := lamP) (ts := tsA K C B0) TK (hr.mono (by decide)) hh (by rfl) (j := 13) rfl (by first | exact .inl rfl | exact .inr (.inl rfl) | exact .inr rfl) lam_at
          (fun i hi A2 outer2 s2 H2 E2 f2 c2 hr2 => match i, hi with
            | 0, _ => pe_cxE G.turned hr2 (by decide) (passes_call (takes_of rfl rfl rfl rfl) (fun _ _ _ _ z => z)) (by rfl) (pa_cons (pv 9) pa_nil)
            | 1, _ => pe_cxE N.dfl hr2 (by decide) (passes_call (takes_of rfl rfl rfl rfl) (fun _ _ _ _ z => z)) (by rfl) (pa_cons (pv 9) (pa_cons (pv 11) pa_nil))
            | 2, _ => pe_callN (X := lamCx (cxOf CX0 P w K mg base nLaw "law" (defScope sLaw) f (.ref c) A outer s H0 E).nox A2 outer2 s2 H2 E2 (Ls 2).scope f2 c2) N.fn hr2 (by rfl) N.gN N.kp N.kb (passes_call (takes_of rfl rfl rfl rfl) (fun _ _ _ _ z => z)) (pa_cons (pv 12) (pa_cons (pv 11) pa_nil)) (pk_cons (pv 9) pk_nil)
            | n + 3, hi => absurd hi (by omega))))
      (pe_op op_rep (pe_lst (pa_cons (pe_tup (pa_cons pe_str (pa_cons pe_str (pa_cons pe_str pa_nil)))) pa_nil)) pe_int) (nomark _)) (pss_one (ps_ret pe_bl)) pss_nil))) (fun D σ H h => ?_)
  obtain ⟨l, b, a, T, L, W, x, y2, y3, y4, y5, y6, y7, y8, y10, y13, rfl, O, iT, fT, nT, iW, cW, oW, q⟩ := h
  refine ⟨O.tab, fun f0 Ha n0 e0 t0 L0 => ⟨t0, fun f1 Hb n1 e1 t1 L1 => ⟨t1, fun f2 Hc n2 e2 t2 L2' => ⟨(by show 3 ≤ sizeLine; decide), fun p np => ?_⟩⟩⟩⟩
  have O3 := ((O.ext e0 t0).ext e1 t1).ext e2 t2
  have kx := TupKeep.trans (ext_tk e0) (TupKeep.trans (ext_tk e1) (ext_tk e2))
  have sp := same_new (o := .lst [.ref f0, .ref f1, .ref f2]) np
  have Op := O3.same sp
  have iTp := (iT.keep kx).keep (Same.tk sp)
  have iWp := (iW.keep kx).keep (Same.tk sp)
  have Lat : ∀ i, i < 3 → ∃ g, [V.ref f0, V.ref f1, V.ref f2][i]? = some (.ref g) ∧ NvL.LamAt (cxOf CX0 P w K mg base nLaw "law" (defScope sLaw) f (.ref c) A outer s H0 E).nox (upd Hc p (.lst [.ref f0, .ref f1, .ref f2])) g (Ls i) := fun i hi => by
    have xp : ExtN Hc (upd Hc p (.lst [.ref f0, .ref f1, .ref f2])) := fun y o hy _ => sp y o hy
    match i, hi with
    | 0, _ => exact ⟨f0, rfl, ((L0.ext e1).ext e2).ext xp⟩
    | 1, _ => exact ⟨f1, rfl, (L1.ext e2).ext xp⟩
    | 2, _ => exact ⟨f2, rfl, L2'.ext xp⟩
    | n + 3, h => exact absurd h (by omega)
  have ep : upd Hc p (.lst [.ref f0, .ref f1, .ref f2]) p = some (.lst [.ref f0, .ref f1, .ref f2]) := upd_same
  generalize upd Hc p (.lst [.ref f0, .ref f1, .ref f2]) = Hp0 at *
  refine ⟨_, rfl, p, rfl, ⟨_, SqL.of ep⟩, fun D1 hD1 => ?_⟩
  refine NvL.lcm_it (walk_list (xs := [V.ref f0, V.ref f1, V.ref f2])) (fun i H' => Same Hp0 H' ∧ ∃ os, H' D1 = some (.lst os) ∧ os.length = i ∧ ∀ v ∈ os, NoT K H' v) ⟨same_new hD1, [], upd_same, rfl, fun _ h => by cases h⟩ (fun i H' _ hP => SqL.of (hP.1 _ _ ep)) (fun i v Hd0 Hd hi hP y => ?_) (fun Hd hP => ?_)
  · obtain ⟨sa, os, ea, lo, ho⟩ := hP
    obtain ⟨rfl, ex⟩ := y
    obtain ⟨g, eg, Lg⟩ := Lat i hi
    obtain rfl : v = .ref g := Option.some.inj (ex.symm.trans eg)
    have iTd := iTp.keep (Same.tk sa)
    have iWd := iWp.keep (Same.tk sa)
    have fin : raisesT C Hd (eAsked C (fun y H4 => ∃ acc, H4 D1 = some (.lst acc) ∧ acc.length < sizeLine ∧ Same Hp0 (upd H4 D1 (.lst (acc ++ [y]))) ∧ ∃ os', upd H4 D1 (.lst (acc ++ [y])) D1 = some (.lst os') ∧ os'.length = i + 1 ∧ ∀ v ∈ os', NoT K (upd H4 D1 (.lst (acc ++ [y]))) v)) (Str.ofString "form") := fun d He se nd ed => by
      refine ⟨rfl, d, _, rfl, ed, fun pt hpt => ?_⟩
      have st := same_new (o := .tup [.str "no", .str "BadTerm", .str "form"]) hpt
      have s2 := Same.trans se st
      have e2 := s2 _ _ ea
      have et : upd He pt (.tup [.str "no", .str "BadTerm", .str "form"]) pt = some (.tup [V.str "no", V.str "BadTerm", V.str "form"]) := upd_same
      generalize upd He pt (.tup [V.str "no", V.str "BadTerm", V.str "form"]) = Hf at *
      refine ⟨os, e2, small1000 (by have : i < 3 := hi; omega), fun y o hy => ?_, os ++ [.ref pt], upd_same, by rw [List.length_append, lo]; rfl, fun v hv => ?_⟩
      · rw [upd_ne (ne_of_none hy hD1)]
        exact s2 _ _ (sa _ _ hy)
      · have kd : TupKeep Hf (upd Hf D1 (.lst (os ++ [.ref pt]))) := tk_lst e2
        rcases List.mem_append.mp hv with z | z
        · exact ((ho v z).keep (Same.tk s2)).keep kd
        · rw [List.mem_singleton.mp z]
          exact NoT.keep kd ⟨pt, rfl, SqT.of et⟩
    refine ⟨rfl, i, g, hi, rfl, Lg.ext (fun y o hy _ => sa y o hy), ?_⟩
    match i, hi with
    | 0, _ => exact ⟨_, rfl, .inr ⟨W, rfl, iWd, cW, oW, fin⟩⟩
    | 1, _ => exact ⟨_, rfl, _, rfl, W.v, .ref B0, x, rfl, .inr (.inl ⟨W, rfl, iWd, cW, oW, fin⟩)⟩
    | 2, _ => exact ⟨_, rfl, _, rfl, _, rfl, rfl, rfl, T.v, W.v, x, rfl, .inr (.inr ⟨T, L, W, rfl, iTd, fT, nT, rfl, iWd, cW, oW, fin⟩)⟩
    | n + 3, h => exact absurd h (by show ¬ n + 3 < 3; omega)
  · obtain ⟨sa, os, ea, lo, ho⟩ := hP
    have lo3 : os.length = 3 := lo
    refine ⟨(by show 3 ≤ sizeLine; decide), fun tp ntp => ⟨(by show 1 ≤ sizeLine; decide), fun La nL => ?_⟩⟩
    have st := same_new (o := .tup [.str "no", .str "BadTerm", .str "form"]) ntp
    have sL := same_new (o := .lst [.ref tp]) nL
    refine ⟨La, 3, [.ref tp], rfl, rfl, upd_same, by decide, by decide, (by show 1 * 3 ≤ sizeLine; decide), fun D2 nD2 => ?_⟩
    have sD := same_new (o := .lst (List.replicate ((3 : Int)).toNat [V.ref tp]).flatten) nD2
    have s3 := Same.trans (Same.trans st sL) sD
    have ht : SqT K (upd (upd (upd Hd tp (.tup [.str "no", .str "BadTerm", .str "form"])) La (.lst [.ref tp])) D2 (.lst (List.replicate ((3 : Int)).toNat [V.ref tp]).flatten)) tp [.str "no", .str "BadTerm", .str "form"] := SqT.of ((Same.trans sL sD) _ _ upd_same)
    have no : Dp K (upd (upd (upd Hd tp (.tup [.str "no", .str "BadTerm", .str "form"])) La (.lst [.ref tp])) D2 (.lst (List.replicate ((3 : Int)).toNat [V.ref tp]).flatten)) (.ref tp) noD := .tup ht (.cons (.str _) (.cons (.str _) (.cons (.str _) .nil)))
    refine ⟨.list (List.replicate os.length noD), .list [noD, noD, noD], .lst (SqL.of (s3 _ _ ea)) (dp_all_same fun v hv => ((ho v hv).keep (Same.tk s3)).dp), .lst (SqL.of upd_same) (.cons no (.cons no (.cons no .nil))), ?_, by decide +kernel, _, rfl, ite2 (fun cc => ?_) (fun _ => ?_)⟩
    · rw [lo3]; decide +kernel
    · rw [lo3] at cc
      exact absurd cc (by decide +kernel)
    · exact q _ _ ⟨_, _, _, _, _, _, _, _, _, _, _, _, rfl⟩ ((Op.same sa).same s3)
end
end Nv

set_option maxRecDepth 100000
set_option maxHeartbeats 16000000
namespace Nv
open PySem PySem.Spec PyProof.Rows L2 NvSet LamX
variable {K : PySem.W.Frag} [KFx K]
theorem Twin.mono {H : Hp} {x y : V} : ∀ {n m : Nat}, n ≤ m → Twin K H n x y → Twin K H m x y := by
  intro n m h t
  induction m with
  | zero => rwa [Nat.le_zero.mp h] at t
  | succ m ih =>
    rcases Nat.lt_or_eq_of_le h with h | h
    · exact (ih (by omega)).up
    · rwa [h] at t
/-- reckonings that are built alike are equal -/
theorem twin_er {H : Hp} : ∀ (T U : AT) (n : Nat), T.er = U.er → T.In H → U.In H → T.count ≤ n → Twin K H (n + 1) T.v U.v
  | .sh p q t b, U, n, e, hin, hu, hc => by
    obtain ⟨m, rfl⟩ : ∃ m, n = m + 1 := ⟨n - 1, by have : 1 ≤ n := hc; omega⟩
    cases U with
    | sh p2 q2 t2 b2 =>
      cases e
      refine twin_all (.inr ⟨hin.1, hu.1⟩) (by show 2 ≤ 1000; decide) (.cons (Twin.one (Scal.str _) _) (.cons ?_ .nil))
      exact twin_all (.inr ⟨hin.2, hu.2⟩) (by show 2 ≤ 1000; decide) (.cons (Twin.one (Scal.int _) _) (.cons (Twin.one (Scal.int _) _) .nil))
    | le _ _ => cases e
    | two _ _ _ _ => cases e
    | un _ _ => cases e
  | .le p x, U, n, e, hin, hu, hc => by
    cases U with
    | le p2 x2 =>
      cases e
      exact twin_all (.inr ⟨hin, hu⟩) (by show 2 ≤ 1000; decide) (.cons (Twin.one (Scal.str _) _) (.cons (Twin.one (Scal.str _) _) .nil))
    | sh _ _ _ _ => cases e
    | two _ _ _ _ => cases e
    | un _ _ => cases e
  | .two p o A B, U, n, e, hin, hu, hc => by
    have hc' : 1 + A.count + B.count ≤ n := hc
    obtain ⟨m, rfl⟩ : ∃ m, n = m + 1 := ⟨n - 1, by omega⟩
    cases U with
    | two p2 o2 A2 B2 =>
      have e : ET.two o A.er B.er = ET.two o2 A2.er B2.er := e
      obtain ⟨rfl, e1, e2⟩ := ET.two.inj e
      exact twin_all (.inr ⟨hin.1, hu.1⟩) (by show 3 ≤ 1000; decide) (.cons (Twin.one (Scal.str _) _) (.cons (twin_er A A2 m e1 hin.2.1 hu.2.1 (by omega)) (.cons (twin_er B B2 m e2 hin.2.2 hu.2.2 (by omega)) .nil)))
    | sh _ _ _ _ => cases e
    | le _ _ => cases e
    | un _ _ => cases e
  | .un p A, U, n, e, hin, hu, hc => by
    have hc' : 1 + A.count ≤ n := hc
    obtain ⟨m, rfl⟩ : ∃ m, n = m + 1 := ⟨n - 1, by omega⟩
    cases U with
    | un p2 A2 =>
      have e : ET.un A.er = ET.un A2.er := e
      exact twin_all (.inr ⟨hin.1, hu.1⟩) (by show 2 ≤ 1000; decide) (.cons (Twin.one (Scal.str _) _) (.cons (twin_er A A2 m (ET.un.inj e) hin.2 hu.2 (by omega)) .nil))
    | sh _ _ _ _ => cases e
    | le _ _ => cases e
    | two _ _ _ _ => cases e

/-- what asking for a nudged reckoning tells -/
def FoundAt (K : PySem.W.Frag) [KFx K] (H : Hp) (t : Addr) (e : ET) : Prop := (∃ R : AT, R.In H ∧ R.er = e ∧ e.flaw = none ∧ SqT K H t [.str "told", R.v]) ∨ ∃ y, e.flaw = some y ∧ SqT K H t [.str "no", .str "BadTerm", .str y]
theorem FoundAt.keep {H H' : Hp} (k : TupKeep H H') {t : Addr} {e : ET} (h : FoundAt K H t e) : FoundAt K H' t e := by
  rcases h with ⟨R, i, e1, e2, h⟩ | ⟨y, e1, h⟩
  · exact .inl ⟨R, i.keep k, e1, e2, k _ _ h⟩
  · exact .inr ⟨y, e1, k _ _ h⟩
theorem found_by {C : Addr} {H : Hp} {Q S : VK} {E' : XK} {T U : AT} {x : Str} {L : List Str} (iT : T.In H) (iU : U.In H) (fT : Fair T L) (fU : Fair U L) (nT : T.flaw = none) (nU : U.flaw = none) (cT : T.count ≤ 9) (cU : U.count ≤ 3) (hE : E' = eAsked C Q) (hS : S = fun v H' => [V.str "told", v].length ≤ sizeLine ∧ ∀ p, H' p = none → Q (.ref p) (upd H' p (.tup [.str "told", v])))
    (hQ : ∀ (t : Addr) (H' : Hp), Same H H' → FoundAt K H' t (T.er.nudge x U.er) → Q (.ref t) H') :
    spNudged K C 9 [T.v, .str x, U.v] H S E' := by
  subst hE hS
  refine ⟨T.v, U.v, x, rfl, .inl ⟨T, U, L, rfl, rfl, iT, iU, fT, fU, nT, nU, cT, cU, fun R H' s iR eR fR => ⟨(by show 2 ≤ sizeLine; decide), fun p np => ?_⟩, fun y hy d H' s nd ed => ⟨rfl, d, y, rfl, ed, fun p np => ?_⟩⟩⟩
  · have st := same_new (o := .tup [.str "told", R.v]) np
    exact hQ p _ (Same.trans s st) (.inl ⟨R, iR.keep (Same.tk st), eR, by rw [← eR, ← R.flaw_er]; exact fR, SqT.of upd_same⟩)
  · exact hQ p _ (Same.trans s (same_new np)) (.inr ⟨y, hy, SqT.of upd_same⟩)
def Ent (K : PySem.W.Frag) [KFx K] (Z : AT) (x : Str) (L : List Str) (H : Hp) (e : Addr) : Prop := ∃ (G : AT) (t : Addr), SqT K H e [G.v, .ref t] ∧ G.In H ∧ Fair G L ∧ G.count ≤ 3 ∧ FoundAt K H t (Z.er.nudge x G.er)
theorem Ent.keep {Z : AT} {x : Str} {L : List Str} {H H' : Hp} (k : TupKeep H H') {e : Addr} (h : Ent K Z x L H e) : Ent K Z x L H' e := by
  obtain ⟨G, t, h1, h2, h3, h4, h5⟩ := h
  exact ⟨G, t, k _ _ h1, h2.keep k, h3, h4, h5.keep k⟩
def forI : Stmt → Expr
  | .For _ it _ _ _ => it
  | _ => .Constant .none 0 ⟨0, 0, 0, 0⟩
def elT : Expr → Nat → Expr
  | .Tuple es _ _, i => es.getD i (.Constant .none 0 ⟨0, 0, 0, 0⟩)
  | e, _ => e
def argE : Expr → Expr
  | .Call _ es _ _ => es.getD 0 (.Constant .none 0 ⟨0, 0, 0, 0⟩)
  | e => e
def La : NvL.Lam := lamOf (argE (elT (elE (forI (turnB.getD 4 (.Pass ⟨0, 0, 0, 0⟩))) 0) 1)) []
def Lb : NvL.Lam := lamOf (argE (elT (elE (forI (turnB.getD 4 (.Pass ⟨0, 0, 0, 0⟩))) 1) 1)) [.int 0]
theorem La_at : NvL.LamK nLaw (defScope sLaw) La [] := NvL.lamK_by (by decide +kernel) (fun _ => ⟨rfl, fun _ _ _ _ _ => rfl⟩) (fun h => absurd rfl h)
theorem Lb_at : NvL.LamK nLaw (defScope sLaw) Lb ["_law_a"] := NvL.lamK_by (by decide +kernel) (fun h => by cases h) (fun _ _ _ _ _ _ _ => ⟨_, rfl, fun its h => match its, h with | [_], _ => rfl⟩)
section
variable {P : Program} {w : World} {mg : Str → Option Value} {base : Heap} {CN C fN fI B0 B1 fU : Addr} {fdU : FuncData}
theorem ok_law {f c Pt fT : Addr} {fdT : FuncData} {oc doc pm ct kV : Value} {od an : Option Addr} {osl : Array (Option Value)}
    (lk : K.lookup f = some ⟨oc, od, .func (PySem.W.fnOf "law" "law" (defArgs sLaw) (defBody sLaw) (defScope sLaw) .none kV doc pm an (.ref c) ct), osl⟩) (hcd : PySem.W.codeIn K (.ref c) "law" = true)
    (G : Calls P w K mg base C) (N : Nud P w K mg base C B0 B1 fU fdU) (B : Blt mg) (R : Errs K mg CN C fN fI) (FT : Fun K "_law_asked" "_law_asked" sAsked fT fdT) (gT : mg "_law_asked" = some (.ref fT)) (TB : TabB base mg c Pt) :
    FnOk P w K mg base CX0 141 f (PySem.W.fnOf "law" "law" (defArgs sLaw) (defBody sLaw) (defScope sLaw) .none kV doc pm an (.ref c) ct) ["_law_script"] (spLaw K Pt) := by
  have bT := FT.binds (ps := ["_law_ask"]) fun _ _ _ _ _ _ us hl => match us, hl with | [_], _ => rfl
  have FT0 := FT
  obtain ⟨ocT, odT, kVT, docT, pmT, anT, cdT, ctT, oslT, rfl, lkT, hcT⟩ := FT.ex
  refine fn_of lk hcd scLaw (fun vs H Q E h => ?_) (fun A outer s H vs Q E hr h => ?_)
  · obtain ⟨a, ns, rfl, _⟩ := h
    rfl
  · obtain ⟨a, ns, rfl, hS, hT, q⟩ := h
    suffices hh : ∃ t, PSs (cxOf CX0 P w K mg base nLaw "law" (defScope sLaw) f (.ref c) A outer s H E).nox (defBody sLaw) t ∧ t { nx := fun _ H' => Q .non H', rt := Q } (L2.start nLaw [.ref a]) H by
      obtain ⟨t, h1, h2⟩ := hh
      exact ⟨t, h1.nox, h2⟩
    have EO := end_ok (f := f) (c := c) (Pt := Pt) (outer := outer) (H0 := H) (E := E) G N hr R FT0 gT TB
    have TK : NvL.Taker (cxOf CX0 P w K mg base nLaw "law" (defScope sLaw) f (.ref c) A outer s H E).nox "_law_asked" "_law_ask" fT ["_law_ask", "e"] (TAsked C) := ⟨gT, FT.kp, rfl, _, _, _, _, _, _, _, _, _, _, _, _, _, lkT, hcT, bT, scAsked, .inl rfl, asked_gives R⟩
    refine ⟨_, pss_cons (ps_set (i := 1) scLaw.nd rfl (by first | exact .inl rfl | exact .inr rfl) (C8.pe_c G.bag hr (by decide) (by rfl) (pa_cons (pv 0) pa_nil)))
      (pss_cons (ps_for PassesOwn.never rfl (pi_range1 (by rfl) B.rng (pa_cons pe_int pa_nil)) (pg_name (i := 2) scLaw.nd rfl (by first | exact .inl rfl | exact .inr rfl))
        (pss_cons (ps_set (i := 3) scLaw.nd rfl (by first | exact .inl rfl | exact .inr rfl) (C8.pe_c G.abc hr (by decide) (by rfl) (pa_cons (pv 1) (pa_cons pe_int pa_nil))))
        (pss_cons (ps_set (i := 12) scLaw.nd rfl (by first | exact .inl rfl | exact .inr rfl) (C8.pe_c G.drawn hr (by decide) (by rfl) (pa_cons (pv 1) (pa_cons (pv 3) (pa_cons pe_int (pa_cons pe_int pa_nil))))))
        (pss_cons (ps_set (i := 11) scLaw.nd rfl (by first | exact .inl rfl | exact .inr rfl) (C8.pe_c G.pick hr (by decide) (by rfl) (pa_cons (pv 1) (pa_cons (pe_op op_cat (pv 3) (pe_lst (pa_cons pe_str pa_nil))) pa_nil))))
        (pss_cons (ps_set (i := 10) scLaw.nd rfl (by first | exact .inl rfl | exact .inr rfl) (C8.pe_c G.pick hr (by decide) (by rfl) (pa_cons (pv 1) (pa_cons (pe_lst (pa_cons (pe_tup (pa_cons pe_str (pa_cons (C8.pe_c G.light hr (by decide) (by rfl) (pa_cons (pv 1) pa_nil)) pa_nil)))
            (pa_cons (pe_tup (pa_cons pe_str (pa_cons (pe_ix ix_list (pv 3) pe_int (fun _ _ => rfl)) pa_nil))) (pa_cons (pe_tup (pa_cons pe_str (pa_cons (pe_tup (pa_cons pe_str (pa_cons (pe_ix ix_list (pv 3) pe_int (fun _ _ => rfl)) pa_nil))) (pa_cons (pe_tup (pa_cons pe_str (pa_cons (pe_tup (pa_cons pe_int (pa_cons pe_int pa_nil))) pa_nil))) pa_nil)))) pa_nil)))) pa_nil))))
        (pss_cons (ps_for PassesOwn.never rfl (pi_list (pe_lst (pa_cons (pe_tup (pa_cons (pv 10) (pa_cons (NvL.pe_take (X := (cxOf CX0 P w K mg base nLaw "law" (defScope sLaw) f (.ref c) A outer s H E).nox) (k := 12) (L := La) TK (by rfl) (hr.mono (by decide)) La_at (NvL.pe_lam (X := (cxOf CX0 P w K mg base nLaw "law" (defScope sLaw) f (.ref c) A outer s H E).nox) (L := La) (T := [(Pt, qLam)]) TB rfl (List.mem_singleton.mpr (by rfl)) (fun p hp _ => by rw [List.mem_singleton.mp hp]; rfl) La_at.free (NvL.pds0 rfl))
              (fun A2 outer2 s2 H2 E2 f2 c2 hr2 => pe_callN (X := lamCx (cxOf CX0 P w K mg base nLaw "law" (defScope sLaw) f (.ref c) A outer s H E).nox A2 outer2 s2 H2 E2 La.scope f2 c2) N.fn hr2 (by rfl) N.gN N.kp N.kb (passes_call (takes_of rfl rfl rfl rfl) (fun _ _ _ _ z => z)) (pa_cons (pv 12) (pa_cons (pv 11) pa_nil)) (pk_cons (pv 10) pk_nil))) pa_nil)))
            (pa_cons (pe_tup (pa_cons (pe_tup (pa_cons pe_str (pa_cons (pe_tup (pa_cons pe_int (pa_cons pe_int pa_nil))) pa_nil))) (pa_cons (NvL.pe_take (X := (cxOf CX0 P w K mg base nLaw "law" (defScope sLaw) f (.ref c) A outer s H E).nox) (k := 12) (L := Lb) TK (by rfl) (hr.mono (by decide)) Lb_at (NvL.pe_lam (X := (cxOf CX0 P w K mg base nLaw "law" (defScope sLaw) f (.ref c) A outer s H E).nox) (L := Lb) (T := [(Pt, qLam)]) TB rfl (List.mem_singleton.mpr (by rfl)) (fun p hp _ => by rw [List.mem_singleton.mp hp]; rfl) Lb_at.free (NvL.pds1 pe_int rfl))
              (fun A2 outer2 s2 H2 E2 f2 c2 hr2 => pe_cxE N.dfl hr2 (by decide) (passes_call (takes_of rfl rfl rfl rfl) (fun _ _ _ _ z => z)) (by rfl) (pa_cons (pv 12) (pa_cons (pv 11) pa_nil)))) pa_nil))) pa_nil))))
            (pg_tup rfl (pgs_cons (pg_name (i := 4) scLaw.nd rfl (by first | exact .inl rfl | exact .inr rfl)) (pgs_cons (pg_name (i := 5) scLaw.nd rfl (by first | exact .inl rfl | exact .inr rfl)) pgs_nil)))
          (pss_cons (ps_set (i := 6) scLaw.nd rfl (by first | exact .inl rfl | exact .inr rfl) (C8.pe_c G.moved hr (by decide) (by rfl) (pa_cons (pv 12) (pa_cons (pv 11) (pa_cons (pv 4) pa_nil)))))
          (pss_cons (ps_set (i := 7) scLaw.nd rfl (by first | exact .inl rfl | exact .inr rfl) (C8.pe_c G.fault hr (by decide) (by rfl) (pa_cons (pv 6) pa_nil)))
          (pss_one (ps_if (pt_not (pt_val (C8.pe_c G.same hr (by decide) (by rfl) (pa_cons (pv 5) (pa_cons (pe_ifExp (pt_cmpR op_isN (pv 7) pe_non (nomark _)) (pe_tup (pa_cons pe_str (pa_cons (pv 6) pa_nil))) (pe_tup (pa_cons pe_str (pa_cons pe_str (pa_cons (pv 7) pa_nil))))) pa_nil))))) (pss_one (ps_ret pe_bl)) pss_nil)))))
        (pss_cons (ps_if (pt_not (pt_val (C8.pe_c G.same hr (by decide) (by rfl) (pa_cons (pe_lst (pa_cons (pe_cx G.turned hr (by decide) (by rfl) (pa_cons (pv 12) pa_nil)) (pa_cons (pe_cx G.turned hr (by decide) (by rfl) (pa_cons (pe_cx G.turned hr (by decide) (by rfl) (pa_cons (pv 12) pa_nil)) pa_nil)) pa_nil)))
            (pa_cons (pe_lst (pa_cons (C8.pe_c G.other hr (by decide) (by rfl) (pa_cons (pv 12) pa_nil)) (pa_cons (pv 12) pa_nil))) pa_nil))))) (pss_one (ps_ret pe_bl)) pss_nil)
        (pss_cons (ps_set (i := 9) scLaw.nd rfl (by first | exact .inl rfl | exact .inr rfl) (C8.pe_c G.twist hr (by decide) (by rfl) (pa_cons (pv 1) (pa_cons (pv 12) (pa_cons (C8.pe_c G.odd hr (by decide) (by rfl) (pa_cons (pv 1) pa_nil)) pa_nil)))))
          EO))))))))
      (pss_one (ps_ret pe_bl))), ?_⟩
    refine ⟨_, rfl, a, ns, rfl, hS, fun l b H1 s1 nb nl Bq => ?_⟩
    have O1 : Ok l b [(Pt, qLam)] H1 := ⟨Bq, hT.ext s1⟩
    refine ⟨5, rfl, by decide, by decide, for_range (lo := 0) (n := (5 : Int).toNat) (fun i σ H' => Fr a b σ ∧ Ok l b [(Pt, qLam)] H') ⟨⟨_, _, _, _, _, _, _, _, _, _, _, _, rfl⟩, O1⟩ (fun i_ σ H0 hi hI => ?_) (fun σ H' hI => q H')⟩
    obtain ⟨⟨y2, y3, y4, y5, y6, y7, y8, y9, y10, y11, y12, y13, rfl⟩, O0⟩ := hI
    refine ⟨_, rfl, l, b, 3, rfl, by decide, O0.bag, fun D L0 H2 lL sL nL B2 g2 nD0 eD => ?_⟩
    have O2 := O0.grow g2 B2
    have nDb := O0.bag.ne nD0
    match L0, lL with
    | [c0, c1, c2], _ =>
    refine ⟨_, rfl, _, rfl, l, b, D, [c0, c1, c2], 9, 2, rfl, by decide, by decide, by decide, by decide, nDb, eD, (by show 0 < 3; decide), (by show 3 ≤ 1000; decide), sL, O2.bag, fun Z H3 inZ okZ cZ dZ lZ B3 g3 => ?_⟩
    have O3 := O2.grow g3 B3
    have eD3 := g3 _ _ nDb eD
    refine ⟨_, rfl, _, rfl, (by show 1 ≤ sizeLine; decide), fun o no => ?_⟩
    have s4 := same_new (o := .lst [.str "zz"]) no
    refine ⟨D, o, _, _, rfl, rfl, s4 _ _ eD3, upd_same, (by show 3 + 1 ≤ sizeLine; decide), fun o2 no2 => ?_⟩
    have s5 := same_new (o := .lst ([c0, c1, c2].map V.str ++ [.str "zz"])) no2
    have s45 := Same.trans s4 s5
    have O5 := O3.same s45
    refine ⟨l, b, o2, _, rfl, O3.bag.ne (s4.free no2), upd_same, (by show 0 < 4; decide), (by show 4 ≤ 1000; decide), O5.bag, fun v H6 hv B6 t6 => ?_⟩
    have eD5 := s45 _ _ eD3
    have inZ5 := inZ.keep (Same.tk s45)
    generalize upd (upd H3 o (.lst [.str "zz"])) o2 (.lst ([c0, c1, c2].map V.str ++ [.str "zz"])) = H5 at *
    obtain ⟨x, rfl, hx⟩ : ∃ x : Str, v = .str x ∧ PyData.strOk x = true := by
      rcases List.mem_append.mp hv with z | z
      · obtain ⟨x, hx, e⟩ := List.mem_map.mp z
        exact ⟨x, e.symm, small_ok (sL x hx)⟩
      · rw [List.mem_singleton.mp z]
        exact ⟨_, rfl, by decide +kernel⟩
    have O6 := O5.grow t6.grow B6
    have eD6 := t6.grow _ _ nDb eD5
    have inZ6 := inZ5.keep (O5.bag.tk t6.grow)
    -- by what
    refine ⟨_, rfl, _, rfl, l, b, rfl, O6.bag, fun p tt dd H7 okS B7 g7 np ep => ⟨(by show 2 ≤ sizeLine; decide), fun a1 n1 => ?_⟩⟩
    have O7 := O6.grow g7 B7
    have eD7 := g7 _ _ nDb eD6
    have inZ7 := inZ6.keep (O6.bag.tk g7)
    have r1 := same_new (o := .tup [.str "share", .ref p]) n1
    refine ⟨_, rfl, D, _, ((0 : Nat) : Int), .str c0, rfl, rfl, SqL.of (r1 _ _ eD7), atI_nat rfl, (by show 2 ≤ sizeLine; decide), fun a2 n2 => ?_⟩
    have r2 := same_new (o := .tup [.str "letter", .str c0]) n2
    have r12 := Same.trans r1 r2
    refine ⟨_, rfl, D, _, ((1 : Nat) : Int), .str c1, rfl, rfl, SqL.of (r12 _ _ eD7), atI_nat rfl, (by show 2 ≤ sizeLine; decide), fun d1 m1 => ?_⟩
    have r3 := same_new (o := .tup [.str "letter", .str c1]) m1
    refine ⟨(by show 2 ≤ sizeLine; decide), fun d2 m2 => ?_⟩
    have r4 := same_new (o := .tup [.int 1, .int 2]) m2
    refine ⟨(by show 2 ≤ sizeLine; decide), fun d3 m3 => ?_⟩
    have r5 := same_new (o := .tup [.str "share", .ref d2]) m3
    refine ⟨(by show 3 ≤ sizeLine; decide), fun a3 n3 => ?_⟩
    have r6 := same_new (o := .tup [.str "plus", .ref d1, .ref d3]) n3
    refine ⟨(by show 3 ≤ sizeLine; decide), fun o3 no3 => ?_⟩
    have r7 := same_new (o := .lst [.ref a1, .ref a2, .ref a3]) no3
    have q67 := Same.trans r6 r7
    have q57 := Same.trans r5 q67
    have q47 := Same.trans r4 q57
    have q37 := Same.trans r3 q47
    have q27 := Same.trans r2 q37
    have q17 := Same.trans r1 q27
    have O8 := O7.same q17
    have f1 := q27 _ _ (show upd H7 a1 (.tup [.str "share", .ref p]) a1 = some (.tup [.str "share", .ref p]) from upd_same)
    have f0 := q17 _ _ ep
    have f2 := q37 a2 (.tup [.str "letter", .str c0]) upd_same
    have f3 := q47 d1 (.tup [.str "letter", .str c1]) upd_same
    have f4 := q57 d2 (.tup [.int 1, .int 2]) upd_same
    have f5 := q67 d3 (.tup [.str "share", .ref d2]) upd_same
    have f6 := r7 a3 (.tup [.str "plus", .ref d1, .ref d3]) upd_same
    have inZ8 := inZ7.keep (Same.tk q17)
    refine ⟨l, b, o3, _, rfl, O7.bag.ne ((Same.trans r1 (Same.trans r2 (Same.trans r3 (Same.trans r4 (Same.trans r5 r6))))).free no3), upd_same, (by show 0 < 3; decide), (by show 3 ≤ 1000; decide), O8.bag, fun v H9 hv B9 t9 => ?_⟩
    have hU : ∀ v ∈ [V.ref a1, V.ref a2, V.ref a3], ∃ U : AT, v = U.v ∧ U.In _ ∧ Fair U [c0, c1, c2] ∧ U.flaw = none ∧ U.count ≤ 3 := List.forall_mem_cons.mpr ⟨⟨.sh a1 p tt dd, rfl, ⟨SqT.of f1, SqT.of f0⟩, ⟨okS, (by show 1 ≤ 200; decide), (by show 3 ≤ 4; decide), fun y h => nomatch h⟩, rfl, (by show 1 ≤ 3; decide)⟩,
      List.forall_mem_cons.mpr ⟨⟨.le a2 c0, rfl, SqT.of f2, ⟨sL c0 List.mem_cons_self, (by show 1 ≤ 200; decide), (by show 3 ≤ 4; decide), fun y h => by rw [List.mem_singleton.mp h]; exact List.mem_cons_self⟩, rfl, (by show 1 ≤ 3; decide)⟩,
      List.forall_mem_cons.mpr ⟨⟨.two a3 .plus (.le d1 c1) (.sh d3 d2 1 2), rfl, ⟨SqT.of f6, SqT.of f3, SqT.of f5, SqT.of f4⟩, ⟨⟨sL c1 (List.mem_cons_of_mem _ List.mem_cons_self), ⟨by decide, by decide, by decide, by decide⟩⟩, (by show 3 ≤ 200; decide), (by show 3 ≤ 4; decide), fun y h => by rw [List.mem_singleton.mp h]; exact List.mem_cons_of_mem _ List.mem_cons_self⟩, rfl, (by show 3 ≤ 3; decide)⟩, fun _ h => nomatch h⟩⟩⟩
    obtain ⟨U, rfl, iU, fU, nU, cU⟩ := hU v hv
    have k9 := O8.bag.tk t9.grow
    have O9 := O8.grow t9.grow B9
    have iU9 := iU.keep k9
    have iZ9 := inZ8.keep k9
    have fZ : Fair Z [c0, c1, c2] := ⟨okZ, by omega, (by show 3 ≤ 4; decide), lZ⟩
    have nZ : Z.flaw = none := by
      unfold AT.flaw
      rw [if_neg (by omega), if_neg (by omega)]
    have f1U : (AT.sh B0 B1 1 1).count ≤ 3 := by show 1 ≤ 3; decide
    have fOne : Fair (AT.sh B0 B1 1 1) [c0, c1, c2] := ⟨⟨by decide, by decide, by decide, by decide⟩, (by show 1 ≤ 200; decide), (by show 3 ≤ 4; decide), fun y h => nomatch h⟩
    clear eD7 inZ7 O7 O8 q17 q27 q37 q47 q57 q67 r1 r2 r3 r4 r5 r6 r7 r12 f0 f1 f2 f3 f4 f5 f6 hU iU inZ8 k9
    -- what is found
    refine ⟨_, rfl, O9.tab, fun fa Ha na ea ta la => ⟨fa, rfl, la, ?_⟩⟩
    have Oa := O9.ext ea ta
    have ka := ext_tk ea
    refine ⟨_, rfl, _, rfl, _, rfl, rfl, rfl, ?_⟩
    show spNudged K C 9 [Z.v, .str x, U.v] _ _ _
    refine found_by (iZ9.keep ka) (iU9.keep ka) fZ fU nZ nU cZ cU rfl rfl fun t1 Hb sb F1 => ?_
    refine ⟨(by show 2 ≤ sizeLine; decide), fun e1 me1 => ?_⟩
    have sc := same_new (o := .tup [U.v, .ref t1]) me1
    have kb := Same.tk (Same.trans sb sc)
    have Oc := (Oa.same sb).same sc
    have N1 : Ent K Z x [c0, c1, c2] (upd Hb e1 (.tup [U.v, .ref t1])) e1 := ⟨U, t1, SqT.of upd_same, (iU9.keep ka).keep kb, fU, cU, F1.keep (Same.tk sc)⟩
    have iZc := (iZ9.keep ka).keep kb
    generalize upd Hb e1 (.tup [U.v, .ref t1]) = Hc at *
    refine ⟨(by show 2 ≤ sizeLine; decide), fun p1 mp1 => ?_⟩
    have sd1 := same_new (o := .tup [.int 1, .int 1]) mp1
    refine ⟨(by show 2 ≤ sizeLine; decide), fun p2 mp2 => ?_⟩
    have sd2 := same_new (o := .tup [.str "share", .ref p1]) mp2
    have sd := Same.trans sd1 sd2
    have iG : (AT.sh p2 p1 1 1).In (upd (upd Hc p1 (.tup [.int 1, .int 1])) p2 (.tup [.str "share", .ref p1])) := ⟨SqT.of upd_same, SqT.of (sd2 _ _ upd_same)⟩
    have Od := Oc.same sd
    have N1d := N1.keep (Same.tk sd)
    have iZd := iZc.keep (Same.tk sd)
    generalize upd (upd Hc p1 (.tup [.int 1, .int 1])) p2 (.tup [.str "share", .ref p1]) = Hd at *
    refine ⟨Od.tab, fun fb He ne ee te lb => ⟨fb, rfl, lb, ?_⟩⟩
    have Oe := Od.ext ee te
    have ke := ext_tk ee
    refine ⟨_, rfl, _, rfl, ?_⟩
    unfold tNil
    refine found_by (T := Z) (U := AT.sh B0 B1 1 1) (x := x) (iZd.keep ke) (N.one _) fZ fOne nZ rfl cZ f1U rfl rfl fun t2 Hf sf F2 => ?_
    refine ⟨(by show 2 ≤ sizeLine; decide), fun e2 me2 => ?_⟩
    have sg := same_new (o := .tup [.ref p2, .ref t2]) me2
    have kg := TupKeep.trans ke (Same.tk (Same.trans sf sg))
    have Og := (Oe.same sf).same sg
    have N2 : Ent K Z x [c0, c1, c2] (upd Hf e2 (.tup [.ref p2, .ref t2])) e2 := ⟨.sh p2 p1 1 1, t2, SqT.of upd_same, iG.keep kg, ⟨⟨by decide, by decide, by decide, by decide⟩, (by show 1 ≤ 200; decide), (by show 3 ≤ 4; decide), fun y h => nomatch h⟩, (by show 1 ≤ 3; decide), F2.keep (Same.tk sg)⟩
    have N1g := N1d.keep kg
    have iZg := iZd.keep kg
    generalize upd Hf e2 (.tup [.ref p2, .ref t2]) = Hg at *
    refine ⟨(by show 2 ≤ sizeLine; decide), fun lf nlf => ?_⟩
    have sl := same_new (o := .lst [.ref e1, .ref e2]) nlf
    have kl := Same.tk sl
    have Ol := Og.same sl
    have iZl := iZg.keep kl
    have hE : ∀ v ∈ [V.ref e1, V.ref e2], ∃ e, v = .ref e ∧ Ent K Z x [c0, c1, c2] (upd Hg lf (.lst [.ref e1, .ref e2])) e := List.forall_mem_cons.mpr ⟨⟨e1, rfl, N1g.keep kl⟩, List.forall_mem_cons.mpr ⟨⟨e2, rfl, N2.keep kl⟩, fun _ h => nomatch h⟩⟩
    have el : upd Hg lf (.lst [.ref e1, .ref e2]) lf = some (.lst [V.ref e1, V.ref e2]) := upd_same
    generalize upd Hg lf (.lst [.ref e1, .ref e2]) = Hl at *
    refine ⟨lf, rfl, ⟨_, SqL.of el⟩, ?_⟩
    refine for_it (walk_list (xs := [V.ref e1, V.ref e2])) (fun i σ H' => ∃ z4 z5 z6 z7, σ = [some (.ref a), some (.ref b), some (.int (0 + (i_ : Nat))), some (.ref D), z4, z5, z6, z7, y8, y9, some U.v, some (.str x), some Z.v, y13] ∧ Same Hl H')
      ⟨_, _, _, _, rfl, fun _ _ h => h⟩ (fun i σ H' _ hI => ?_) (fun j v σ Hq0 Hq hj hI y => ?_) (fun σ Hz hI => ?_)
    · obtain ⟨_, _, _, _, _, sq⟩ := hI
      exact SqL.of (sq _ _ el)
    · obtain ⟨z4, z5, z6, z7, rfl, sq⟩ := hI
      obtain ⟨rfl, ex⟩ := y
      obtain ⟨e, rfl, ent⟩ := hE v (List.mem_of_getElem? ex)
      have kq := Same.tk sq
      obtain ⟨Gv, t, h1, iG', fG, cG, F⟩ := ent.keep kq
      have iZq := iZl.keep kq
      refine ⟨e, _, rfl, h1, rfl, _, _, rfl, _, _, rfl, rfl, ?_⟩
      refine ⟨_, rfl, _, rfl, _, rfl, Z, Gv, x, rfl, iZq, iG', cZ, by decide, okZ, hx, fun R Hm sm iR eR => ?_⟩
      have okR : R.Ok := R.er_ok.mp (by rw [eR]; exact ET.nudge_ok (Gv.er_ok.mpr fG.ok) (Z.er_ok.mpr okZ))
      have cR : R.count ≤ 130 := by
        have h := ET.nudge_count (x := x) (U := Gv.er) (by rw [Gv.er_count]; exact cG) Z.er
        rw [← eR, R.er_count, Z.er_count] at h
        have h81 : Z.count * Z.count ≤ 9 * 9 := Nat.mul_le_mul cZ cZ
        omega
      have lR : ∀ y ∈ R.lets, y ∈ [c0, c1, c2] := by
        rw [← R.er_lets, eR]
        exact ET.nudge_lets (by rw [Gv.er_lets]; exact fG.lets) (by rw [Z.er_lets]; exact lZ)
      refine ⟨_, rfl, R, [c0, c1, c2], rfl, iR, ⟨okR, by omega, (by show 3 ≤ 4; decide), lR⟩, cR, fun Hn sn => ?_⟩
      have smn := Same.trans sm sn
      have Fn := F.keep (Same.tk smn)
      have iRn := iR.keep (Same.tk sn)
      rw [← eR] at Fn
      cases hf : R.flaw with
      | none =>
        refine ⟨_, rfl, _, rfl, rfl, _, rfl, iteT ⟨_, rfl, (by show 2 ≤ sizeLine; decide), fun tt nt => ?_⟩⟩
        have st := same_new (o := .tup [.str "told", R.v]) nt
        rcases Fn with ⟨R1, i1, e1, _, ht⟩ | ⟨y, ey, _⟩
        · refine ⟨_, _, rfl, twin_all (.inr ⟨Same.tk st _ _ ht, SqT.of upd_same⟩) (by show 2 ≤ 1000; decide) (.cons (Twin.one (Scal.str _) _) (.cons (twin_er R1 R 130 e1 (i1.keep (Same.tk st)) (iRn.keep (Same.tk st)) (by rw [← R1.er_count, e1, R.er_count]; exact cR)) .nil)), fun Ho so => ⟨true, rfl, iteF ?_⟩⟩
          exact ⟨_, _, _, _, rfl, Same.trans (Same.trans sq smn) (Same.trans st so)⟩
        · rw [← R.flaw_er, hf] at ey
          cases ey
      | some y =>
        refine ⟨_, rfl, _, rfl, rfl, _, rfl, iteF ⟨_, rfl, (by show 3 ≤ sizeLine; decide), fun tt nt => ?_⟩⟩
        have st := same_new (o := .tup [.str "no", .str "BadTerm", .str y]) nt
        rcases Fn with ⟨R1, i1, e1, e2, ht⟩ | ⟨y1, ey, ht⟩
        · rw [← R.flaw_er, hf] at e2
          cases e2
        · rw [← R.flaw_er, hf] at ey
          cases ey
          refine ⟨_, _, rfl, twin_all (.inr ⟨Same.tk st _ _ ht, SqT.of upd_same⟩) (by show 3 ≤ 1000; decide) (.cons (Twin.one (Scal.str _) _) (.cons (Twin.one (Scal.str _) _) (.cons (Twin.one (Scal.str _) _) .nil))), fun Ho so => ⟨true, rfl, iteF ?_⟩⟩
          exact ⟨_, _, _, _, rfl, Same.trans (Same.trans sq smn) (Same.trans st so)⟩
    · obtain ⟨z4, z5, z6, z7, rfl, sq⟩ := hI
      have kq := Same.tk sq
      have Oz := Ol.same sq
      have iZq := iZl.keep kq
      -- turned, and turned back
      refine ⟨_, rfl, .inl ⟨Z, [c0, c1, c2], rfl, iZq, fZ, nZ, cZ, fun R1 K1 u1 i1 e1 => ?_⟩⟩
      refine ⟨_, rfl, .inl ⟨Z, [c0, c1, c2], rfl, iZq.keep (Same.tk u1), fZ, nZ, cZ, fun R2 K2 u2 i2 e2 => ?_⟩⟩
      have ok2 : R2.Ok := R2.er_ok.mp (by rw [e2]; exact ET.turn_ok (Z.er_ok.mpr okZ))
      have c2' : R2.count = Z.count := by rw [← R2.er_count, e2, ET.turn_count, Z.er_count]
      have l2 : ∀ y ∈ R2.lets, y ∈ [c0, c1, c2] := fun y hy => lZ y (by
        rw [← R2.er_lets, e2, ET.turn_lets, Z.er_lets] at hy
        exact hy)
      have n2' : R2.flaw = none := by
        have nZ' := nZ
        rw [Z.flaw_er] at nZ'
        rw [R2.flaw_er, e2]
        unfold ET.flaw at nZ' ⊢
        rw [ET.turn_count, ET.turn_deep]
        exact nZ'
      refine .inl ⟨R2, [c0, c1, c2], rfl, i2, ⟨ok2, by omega, (by show 3 ≤ 4; decide), l2⟩, n2', by omega, fun R3 K3 u3 i3 e3 => ?_⟩
      refine ⟨(by show 2 ≤ sizeLine; decide), fun la1 nla1 => ?_⟩
      have v1 := same_new (o := .lst [R1.v, R3.v]) nla1
      have u13 := Same.trans (Same.trans u1 u2) u3
      have iZr := (iZq.keep (Same.tk u13)).keep (Same.tk v1)
      refine ⟨_, rfl, Z, rfl, iZr, cZ, by decide, fun R4 K4 u4 i4 e4 => ?_⟩
      refine ⟨_, rfl, (by show 2 ≤ sizeLine; decide), fun la2 nla2 => ?_⟩
      have v2 := same_new (o := .lst [R4.v, Z.v]) nla2
      have u4v := Same.trans u4 v2
      have vv := Same.trans v1 u4v
      refine ⟨_, _, rfl, Twin.mono (by decide : 12 ≤ 132) (twin_all (.inl ⟨SqL.of (u4v _ _ upd_same), SqL.of upd_same⟩) (by show 2 ≤ 1000; decide) (.cons (twin_er R1 R4 10 (e1.trans e4.symm) ((i1.keep (Same.tk (Same.trans u2 u3))).keep (Same.tk vv)) (i4.keep (Same.tk v2)) (by rw [← R1.er_count, e1, ET.turn_count, Z.er_count]; omega))
        (.cons (twin_er R3 Z 10 (by rw [e3, e2, ET.turn_turn]) (i3.keep (Same.tk vv)) (iZr.keep (Same.tk u4v)) (by rw [← R3.er_count, e3, e2, ET.turn_turn, Z.er_count]; omega)) .nil))), fun K5 u5 => ⟨true, rfl, iteF ?_⟩⟩
      have w5 := Same.trans (Same.trans u13 vv) u5
      have O5' := Oz.same w5
      have iZ5' := iZq.keep (Same.tk w5)
      -- the odd one
      refine ⟨_, rfl, _, rfl, _, rfl, l, b, rfl, O5'.bag, fun vO K6 hO B6' g6' => ?_⟩
      have O6' := O5'.grow g6' B6'
      have iZ6' := iZ5'.keep (O5'.bag.tk g6')
      refine ⟨l, b, Z, vO, rfl, B6', iZ6', okZ, cZ, by decide, hO, fun W K7 iW oW cW B7' g7' => ?_⟩
      exact ⟨l, b, a, Z, [c0, c1, c2], W, x, _, _, _, _, _, _, _, _, _, rfl, O6'.grow g7' B7', iZ6'.keep (B6'.tk g7'), fZ, nZ, iW, by omega, oW, fun σ' H' fr ok => ⟨fr, ok⟩⟩
end
end Nv

set_option maxRecDepth 100000
set_option maxHeartbeats 4000000
/-! own exception classes over LookupError -/
namespace Nv
open PySem PySem.W PySem.Calls PyProof.Rows PySem.HandSPX Builtin Builtin.ObjectAttr
/-- the mro of LookupError -/
abbrev lkTail : List Value := [.type "LookupError", .type "Exception", .type "BaseException", .type "object"]
def isRf : Value → Bool
  | .ref _ => true
  | _ => false
/-- own classes, then LookupError's -/
def lkMro (l : List Value) : Bool := l.dropWhile isRf == lkTail
theorem lk_ind {l : List Value} (h : lkMro l = true) {Pr : List Value → Prop} (h0 : Pr lkTail) (h1 : ∀ c r, Pr r → Pr (.ref c :: r)) : Pr l := by
  induction l with
  | nil => exact absurd h (by decide)
  | cons a r ih =>
    cases a with
    | ref c => exact h1 c r (ih h)
    | _ =>
      have e := beq_iff_eq.mp h
      rw [show List.dropWhile isRf (_ :: r) = _ :: r from rfl] at e
      rw [e]
      exact h0
theorem lk_pass {l : List Value} (h : lkMro l = true) (me : Value) : refuseLoop me "__setattr__" l = pure () :=
  lk_ind (Pr := fun l => refuseLoop me "__setattr__" l = pure ()) h (F.store_LookupError.passes me) fun c r q => by rw [refuseLoop_ref]; exact q
theorem lk_has {l : List Value} (h : lkMro l = true) (Z : String) : l.contains (.type Z) = lkTail.contains (.type Z) :=
  lk_ind (Pr := fun l => l.contains (.type Z) = lkTail.contains (.type Z)) h rfl fun c r q => by rw [List.contains_cons, q]; rfl
theorem lk_some {l : List Value} (h : lkMro l = true) : l.isEmpty = false := lk_ind (Pr := fun l => l.isEmpty = false) h rfl fun _ _ _ => rfl
section
variable {pr : Program} {w : World} {A : Around} {E : Value → Shared → Prop} {R : Result → Shared → Prop} {hh : Heap} {gs : Array GenState} {dr : PySem.Drawn} {tt : Nat} {oo : OsState}
/-- the way of object.__setattr__ up to the store in the own dict -/
theorem lk_osa {K : W.Frag} {n : Str} {tk : Tok} {v : Value} {x C : Addr} {ox : Obj} {od : Option Obj} {cl : ClassData} (inK : K.In hh) (I : W.InstAt hh x ox C od) (hcl : W.clsIn K C = some cl) (hm : lkMro cl.mro = true) (ha : W.findIn K (.ref C) n = some none)
    (hq : wpAny (model pr w) A.in1 (storeInOwnDict (.ref x) (.ref C) (.str n tk) n v false) (fun f s => match f with
      | .done r => R (.ok r) s
      | .again c => c.quiet = true ∧ codeAny (model pr w) A c R s) (fun e s => R (.error e) s) ⟨hh, gs, dr, tt, oo⟩) :
    codeAny (model pr w) A (.call (.builtin "object.__setattr__") ⟨[.ref x, .str n tk, v], []⟩) R ⟨hh, gs, dr, tt, oo⟩ := by
  have S := F.store_object
  have ob : cl.mro.contains (.type "object") = true := (lk_has hm "object").trans (by decide +kernel)
  have isO : W.Looks (model pr w) hh (isInstance (.ref x) (.type "object")) true := I.type.andThen (W.looks_mroIn inK (by unfold W.mroIn; rw [hcl, Option.bind_some, if_neg (by rw [lk_some hm]; decide), ob]))
  refine codeAny_call_builtin S.slot.plain S.entry (@W.check_slot (model pr w) _ _ ⟨hh, gs, dr, tt, oo⟩ "object.__setattr__" "object" "__setattr__" (.ref x) [.str n tk, v] [] _ S.kind S.split isO (S.args (.ref x) (.str n tk) v) ?_)
  have mr : W.Looks (model pr w) hh (mroOf (.ref C)) cl.mro := (W.looks_clsIn inK hcl).andThen .now
  have no : W.Looks (model pr w) hh (storeTaker? none) none := .now
  rw [W.osa_eq, refuse_eq]
  refine wpAny_bind (wpAny_bind (I.type.at (wpAny_bind (mr.at ?_))))
  rw [lk_pass hm]
  refine wpAny_pure (wpAny_bind (I.type.at (wpAny_bind ((W.looks_findIn inK ha).at (wpAny_bind (no.at ?_))))))
  exact hq
/-- the first field: a dict is laid for it -/
theorem lk_first {K : W.Frag} {n : Str} {tk : Tok} {v : Value} {x C : Addr} {fv : Array Value} {cl : ClassData} (inK : K.In hh) (hx : hh.get? x = some { cls := .ref C, data := .fields fv }) (hcl : W.clsIn K C = some cl) (hm : lkMro cl.mro = true) (hd : cl.hasDict = true) (ha : W.findIn K (.ref C) n = some none)
    (hq : ∀ h2 tk2 dx, (∀ b o, b ≠ x → hh.get? b = some o → h2.get? b = some o) → hh.objs.size ≤ dx → dx ≠ x → h2.get? x = some { cls := .ref C, dict := some dx, data := .fields fv } → h2.Ns1 dx (fun y => if y = n then some v else none) → R (.ok (.ret .none)) ⟨h2, gs, dr, tk2, oo⟩) :
    codeAny (model pr w) A (.call (.builtin "object.__setattr__") ⟨[.ref x, .str n tk, v], []⟩) R ⟨hh, gs, dr, tt, oo⟩ := by
  refine lk_osa inK (ox := { cls := .ref C, data := .fields fv }) (od := none) ⟨hx, rfl, rfl, trivial⟩ hcl hm ha ?_
  have nx : x ≠ hh.objs.size := Nat.ne_of_lt (Heap.lt_size hx)
  have lc : W.Looks (model pr w) hh (classData C) cl := W.looks_clsIn inK hcl
  cases cl with
  | mk c1 c2 c3 c4 c5 c6 c7 c8 c9 c10 c11 =>
  cases (show c6 = true from hd)
  unfold storeInOwnDict ownDictForStores
  repeat (first | with_reducible refine store_in_new ?_ ?_ | with_reducible refine wpAny_loadPart_at hx ?_ | with_reducible refine lc.at ?_ | wp_step)
  · exact ⟨_, #[], _, (Heap.get?_update_ne _ _ _ _ nx.symm).trans (Heap.get?_push_at rfl rfl), rfl, fun _ z => absurd z (by simp), fun _ => rfl⟩
  · intro h2 tk2 hn sb
    have hx2 : (hh.push { cls := .type "dict", data := .dict #[] }).get? x = _ := Heap.get?_push_of_some _ hx
    refine hq h2 tk2 _ (fun b o nb ho => ?_) (Nat.le_refl _) nx.symm ((sb.2 x nx).trans (Heap.get?_update_self _ hx2 rfl)) hn
    rw [sb.2 b (Nat.ne_of_lt (Heap.lt_size ho)), Heap.get?_update_ne _ _ _ _ nb]
    exact Heap.get?_push_of_some _ ho
/-- a further field -/
theorem lk_more {K : W.Frag} {n : Str} {tk : Tok} {v : Value} {x C dx : Addr} {fv : Array Value} {cl : ClassData} {m0 : Str → Option Value} {nl : List Str} (inK : K.In hh) (hx : hh.get? x = some { cls := .ref C, dict := some dx, data := .fields fv }) (hn : hh.Ns1 dx m0) (hw : Within m0 nl) (hz : nl.length ≤ 1000)
    (hcl : W.clsIn K C = some cl) (hm : lkMro cl.mro = true) (hd : cl.hasDict = true) (ha : W.findIn K (.ref C) n = some none)
    (hq : ∀ h2 tk2, (∀ b o, b ≠ dx → hh.get? b = some o → h2.get? b = some o) → h2.Ns1 dx (fun y => if y = n then some v else m0 y) → R (.ok (.ret .none)) ⟨h2, gs, dr, tk2, oo⟩) :
    codeAny (model pr w) A (.call (.builtin "object.__setattr__") ⟨[.ref x, .str n tk, v], []⟩) R ⟨hh, gs, dr, tt, oo⟩ := by
  obtain ⟨oD, _, _, hoD, _, _⟩ := hn.count hw
  refine lk_osa inK (ox := { cls := .ref C, dict := some dx, data := .fields fv }) (od := some oD) ⟨hx, rfl, rfl, hoD⟩ hcl hm ha ?_
  have lc : W.Looks (model pr w) hh (classData C) cl := W.looks_clsIn inK hcl
  cases cl with
  | mk c1 c2 c3 c4 c5 c6 c7 c8 c9 c10 c11 =>
  cases (show c6 = true from hd)
  unfold storeInOwnDict ownDictForStores
  repeat (first | with_reducible refine OEX.store_in_old hn hw hz ?_ | with_reducible refine wpAny_loadPart_at hx ?_ | with_reducible refine lc.at ?_ | wp_step)
  intro h2 tk2 hn2 sb
  exact hq h2 tk2 (fun b o nb ho => (sb.2 b nb).trans ho) hn2
end
theorem lk_typ : typeOf (.type "LookupError") = pure (.type "type") := by kernel_rfl
end Nv

set_option maxRecDepth 100000
set_option maxHeartbeats 4000000
namespace Nv
open PySem PySem.Spec PyProof.Rows L2
/-- what the written part says of an own class over LookupError -/
structure LexC (K : PySem.W.Frag) (C : Addr) : Prop where
  cls : ∃ c1 c2 c3 c4 bm c6 c7 c8 c9 c10 a0 a1 a2 a3 a5, K.lookup C = some (excClassObj c1 c2 C c3 c4 bm true c6 c7 c8 c9 c10 a0 a1 a2 a3 a5 "LookupError.__new__") ∧ lkMro bm = true
  set : PySem.W.findIn K (.ref C) "__setattr__" = some (some (.builtin "object.__setattr__"))
  exc : PySem.W.subIn K (.ref C) (.type "BaseException") = some true
  typ : PySem.W.typeIn K (.ref C) = some (.type "type")
  kp : PySem.W.keepIn K (.ref C) = true
section
variable {X : Cx} {pins : List (Addr × Obj)} {σ : L2.St} {H : Hp} {s : Shared} {a C dx : Addr} {f : Str} {y : V} {u : Value} {fs : List (Str × V)} {Q : Unit → Shared → Prop} {E : Value → Shared → Prop} {A : Around}
theorem LexC.data {K : PySem.W.Frag} (T : LexC K C) : ∃ cd : ClassData, PySem.W.clsIn K C = some cd ∧ lkMro cd.mro = true ∧ cd.hasDict = true := by
  obtain ⟨c1, c2, c3, c4, bm, c6, c7, c8, c9, c10, a0, a1, a2, a3, a5, hC, hb⟩ := T.cls
  refine ⟨{ name := c1, bases := c4, mro := .ref C :: bm, ns := c3, qualname := c2, hasDict := true, slotNames := c6, subclasses := c7, abstract := c8, collection := c9, hasDel := false }, ?_, hb, rfl⟩
  unfold PySem.W.clsIn
  rw [hC]
theorem lset_new (T : LexC X.K C) (I : Inv X pins σ H s) (e : H a = some (exo a C none)) (no : PySem.W.findIn X.K (.ref C) f = some none) (ry : RelV y u)
    (q : ∀ dx s2, H dx = none → dx ≠ a → Inv X pins σ (upd (upd H dx (exd dx [(f, y)])) a (exo a C (some dx))) s2 → Q () s2) : wpAny (model X.prog X.w) A (setAttr (.ref a) f u) Q E s := by
  obtain ⟨cd, hcd, hmr, hhd⟩ := T.data
  obtain ⟨t1, ho⟩ := exo_at I.hok e
  obtain ⟨hh, gs, dr, tt, oo⟩ := s
  refine PySem.W.set_plain I.kIn (ox := { cls := .ref C, dict := none, data := .fields #[.ref t1, .none, .none, .none, .bool false, .none] }) (od := none) ⟨ho, rfl, rfl, trivial⟩ T.set ?_
  refine lk_first I.kIn ho hcd hmr hhd no (fun h2 tk2 dx k big nea hx hn => ?_)
  have free : H dx = none := I.hok.fresh big
  have old : ∀ {b : Addr} {o : Obj}, hh.get? b = some o → b ≠ dx := fun {b o} z => Nat.ne_of_lt (Nat.lt_of_lt_of_le (Heap.lt_size z) big)
  have na : ∀ {b : Addr}, H b = none → b ≠ a := fun {b} n z => by rw [z, e] at n; cases n
  have far : ∀ {b : Addr} {o : HO}, H b = some o → exo a C none ≠ o → upd (upd H dx (exd dx [(f, y)])) a (exo a C (some dx)) b = some o := fun {b o} z ne => by
    rw [upd_ne (at_ne e z ne), upd_ne (ne_of_none z free)]
    exact z
  refine q dx _ free nea (I.un (t' := tk2) ⟨fun b o z n _ _ => k b o (na n) z, fun b o z n _ _ => ⟨o.slots, k b o (na n) z⟩, fun b o z n _ => (upd_ne (na n)).trans ((upd_ne (old z)).trans n), fun b o z _ => ?_, fun b xs z => far z exo_tup, fun b o v z => far z exo_frz, fun b ps z => ⟨#[], by rw [far z exo_tbl]; simp⟩⟩ fun b o z => ?_)
  · by_cases hb : b = a
    · exact ⟨_, hb ▸ hx⟩
    · exact ⟨o, k b o hb z⟩
  · by_cases hb : b = a
    · subst hb
      rw [upd_same] at z
      cases z
      exact exo_ok hx
    · rw [upd_ne hb] at z
      by_cases hd : b = dx
      · subst hd
        rw [upd_same] at z
        cases z
        exact exd_ok hn (relO_put (fs := []) ry fun _ => True.intro)
      · rw [upd_ne hd] at z
        refine (I.hok b o z).stay (fun c v hc y => k c v ?_ y) (fun c hc => far hc exo_own) (fun c xs hc => far hc exo_tup)
        rcases hc with hc | hc
        · exact hc ▸ hb
        · exact at_ne e hc exo_own
theorem lset_old (T : LexC X.K C) (I : Inv X pins σ H s) (e : H a = some (exo a C (some dx))) (ed : H dx = some (exd dx fs)) (hl : fs.length ≤ 900) (no : PySem.W.findIn X.K (.ref C) f = some none) (ry : RelV y u)
    (q : ∀ s2, Inv X pins σ (upd H dx (exd dx ((f, y) :: fs))) s2 → Q () s2) : wpAny (model X.prog X.w) A (setAttr (.ref a) f u) Q E s := by
  obtain ⟨cd, hcd, hmr, hhd⟩ := T.data
  obtain ⟨t1, ho⟩ := exo_at I.hok e
  obtain ⟨mA, hns, rel⟩ := exd_at I.hok ed
  obtain ⟨hh, gs, dr, tt, oo⟩ := s
  obtain ⟨oD, _, _, hoD, _, _⟩ := hns.count (within_of rel)
  refine PySem.W.set_plain I.kIn (ox := { cls := .ref C, dict := some dx, data := .fields #[.ref t1, .none, .none, .none, .bool false, .none] }) (od := some oD) ⟨ho, rfl, rfl, hoD⟩ T.set ?_
  refine lk_more I.kIn ho hns (within_of rel) (by rw [List.length_map]; omega) hcd hmr hhd no (fun h2 tk2 k hn => ?_)
  have there : ∃ o, h2.get? dx = some o := by
    obtain ⟨o, _, _, z, _⟩ := hn
    exact ⟨o, z⟩
  exact q _ (I.write (t' := tk2) (x := dx) (e := dx) (o := exd dx ((f, y) :: fs)) (by rw [ed]; exact True.intro) (.inl rfl) k there (exd_ok hn (relO_put ry rel)))
theorem linit_ok {us : List Value} {Q : Value → Shared → Prop} (T : LexC X.K C) (I : Inv X pins σ H s) (e : H a = some (exo a C none)) (hl : us.length ≤ sizeLine) (q : ∀ s2, Inv X pins σ H s2 → Q .none s2) :
    wpAny (model X.prog X.w) A (call (.builtin "LookupError.__init__") (.ref a :: us)) Q E s := by
  obtain ⟨c1, c2, c3, c4, bm, c6, c7, c8, c9, c10, a0, a1, a2, a3, a5, hC, hb⟩ := T.cls
  obtain ⟨t1, ho⟩ := exo_at I.hok e
  obtain ⟨hh, gs, dr, tt, oo⟩ := s
  refine wpAny_call (PySem.HandSPX.init_base F.excBase_LookupError (lk_has hb) (I.kIn _ _ hC) ho hl fun h2 t2 k hx => ?_)
  have J := I.write (t' := tt) (x := a) (e := a) (o := exo a C none) (by rw [e]; exact True.intro) (.inl rfl) k ⟨_, hx⟩ (exo_ok hx)
  rw [show upd H a (exo a C none) = H from funext fun b => by
    by_cases z : b = a
    · rw [z, upd_same, e]
    · rw [upd_ne z]] at J
  exact q _ J
end
/-- LookupError.__init__(self, ..) -/
def tLkI (K : PySem.W.Frag) (ta : TA) : TE := fun σ H Q => ta σ H fun vs H1 => ∃ (a C : Addr) (ws : List V), vs = .ref a :: ws ∧ ws.length ≤ 1000 ∧ LexC K C ∧ H1 a = some (exo a C none) ∧ Q .non H1
/-- self.f = e -/
def tLst (K : PySem.W.Frag) (f : Str) (to te : TE) : TS := fun D σ H => te σ H fun y H1 => to σ H1 fun x H2 => ∃ a C : Addr, x = .ref a ∧ LexC K C ∧ PySem.W.findIn K (.ref C) f = some none ∧
  ((∃ (dx : Addr) (fs : List (Str × V)), H2 a = some (exo a C (some dx)) ∧ H2 dx = some (exd dx fs) ∧ fs.length ≤ 900 ∧ D.nx σ (upd H2 dx (exd dx ((f, y) :: fs)))) ∨
    (H2 a = some (exo a C none) ∧ ∀ dx, H2 dx = none → dx ≠ a → D.nx σ (upd (upd H2 dx (exd dx [(f, y)])) a (exo a C (some dx)))))
section
variable {X : Cx} {o e : Expr} {es : List Expr} {to te : TE} {ta : TA} {f : Str} {p p' p1 p2 pos : Pos}
theorem pe_leinit {pl : Sem Bool} (hg : Gl X "LookupError") (hm : X.mg "LookupError" = none) (vV : PySem.W.findCls X.K (.type "LookupError") (.type "type") "__init__" = some (.val (.builtin "LookupError.__init__"))) (ha : PA X (e :: es) ta)
    (hc : eval (.Call (.Attribute (.Name "LookupError" p1) "__init__" p2) (e :: es) [] pos) X.env = (do
      let ov ← eval (.Name "LookupError" p1) X.env
      standAt p2.atName
      let (f, first) ← holding [ov] (getMethod ov "__init__" pl)
      callWith pos f first (backTo pos (starEach (e :: es) X.env)) (backToKw pos (keywordEach [] X.env))) := by rfl)
    (he : starEach (e :: es) X.env = (false, eval e X.env) :: starEach es X.env := by rfl) (hpl : (backTo pos (starEach es X.env)).any (·.1) = false := by rfl) :
    PE X (.Call (.Attribute (.Name "LookupError" p1) "__init__" p2) (e :: es) [] pos) (tLkI X.K ta) := by
  refine ⟨fun pins s σ H Q I h => ?_⟩
  refine PySem.W.methodCall_KW (ld_blt I hg hm PyProof.Rows.Boot.«LookupError» ?_ (by decide) (by decide)) hc
  obtain ⟨m, fr⟩ := I.fr
  refine PySem.W.method_type fr I.ok.mod.kin lk_typ (by decide +kernel) vV (by decide +kernel) ?_
  show wpAny _ _ (callWith pos (Value.builtin "LookupError.__init__") [] (backTo pos (starEach (e :: es) X.env)) []) _ _ _
  refine PyProof.Rows.callWith_method1 (thn (ha.run pos pins _ σ H _ (I.tok _) h) fun us s1 z => ?_) he hpl
  obtain ⟨vs, H1, I1, r1, a, C, ws, rfl, hl, T, ea, q⟩ := z
  cases r1 with
  | @cons _ u0 _ ur ra rw' =>
    cases (show u0 = Value.ref a from ra)
    exact linit_ok T I1 ea (by rw [← Paired.length rw', sizeLine_eq]; omega) fun s2 J => ⟨.non, H1, J, rfl, q⟩
theorem ps_lst (ho : PE X o to) (he : PE X e te) (hs : swapsWith e (some (.Attribute o f p')) pos.line X.env = pure false := by rfl) : PS X (.Assign [.Attribute o f p'] e pos) (tLst X.K f to te) := by
  refine ⟨fun pins s σ H D I h => ?_⟩
  refine plainObj_wpAny_Assign_Attribute (thn (he.run pins s σ H _ I h) fun v s1 z1 => ?_) hs
  obtain ⟨y, H1, I1, r1, q1⟩ := z1
  refine thn (ho.run pins s1 σ H1 _ I1 q1) fun u s2 z2 => ?_
  obtain ⟨x, H2, I2, r2, a, C, rfl, T, no, q⟩ := z2
  cases (show u = Value.ref a from r2)
  rcases q with ⟨dx, fs, ea, ed, hl, q⟩ | ⟨ea, q⟩
  · exact lset_old T I2 ea ed hl no r1 fun s3 J => ⟨σ, _, J, q⟩
  · exact lset_new T I2 ea no r1 fun dx s3 n ne J => ⟨σ, _, J, q dx n ne⟩
theorem pmk_lex {CX : CXT} {x : Str} {C fI : Addr} {k : Nat} {fd : FuncData} {ps : List Str} {sp : Sp} {ds : List Value} {dvs : List V} (T : LexC X.K C) (iC : PySem.W.findIn X.K (.ref C) "__init__" = some (some (.ref fI))) (tI : PySem.W.typeIn X.K (.ref fI) = some (.type "function"))
    (G : FnOk X.prog X.w X.K X.mg X.base CX k fI fd ps sp) (hr : Room (k + 1) X.A) (hb : Binds X.K fd ps ds) (hd : Vals dvs ds) (hx : Passes CX X (fun _ _ _ => False)) (hg : Gl X x) (hm : X.mg x = some (.ref C)) (ha : PA X (e :: es) ta)
    (hdb : (x == ("__debug__" : Str)) = false := by decide) (he : starEach (e :: es) X.env = (false, eval e X.env) :: starEach es X.env := by rfl) (hpl : (backTo pos (starEach es X.env)).any (·.1) = false := by rfl) :
    PMk X (.Call (.Name x p) (e :: es) [] pos) (tMkO C sp dvs ta) := by
  intro pins s σ H Q I h
  obtain ⟨c1, c2, c3, c4, bm, c6, c7, c8, c9, c10, a0, a1, a2, a3, a5, hC, hbm⟩ := T.cls
  refine wpAny_Call_Name_kw (ld_glob I hg hm ?_ hdb)
  refine PySem.W.callWith_K (h₀ := X.base) I.ok.mod.kin T.kp (thn (ha.run pos pins s σ H _ I h) fun us s1 z => ?_) he hpl
  obtain ⟨vs, H1, I1, r1, hz, q1⟩ := z
  refine ⟨I1.kIn, ?_⟩
  show wpAny _ _ (call (.ref C) us) _ _ _
  obtain ⟨hh, gs, dr, tt, oo⟩ := s1
  have big : hh.objs.size ≤ hh.objs.size + 1 := Nat.le_succ _
  have hq := q1 (hh.objs.size + 1) (I1.hok.fresh big)
  have keep : ∀ b o, hh.get? b = some o → ((hh.push (PySem.W.kdv_tup us)).push (PySem.HandSPX.excO C hh.objs.size)).get? b = some o := fun b o z => Heap.get?_push_of_some _ (Heap.get?_push_of_some _ z)
  have itself : ((hh.push (PySem.W.kdv_tup us)).push (PySem.HandSPX.excO C hh.objs.size)).get? (hh.objs.size + 1) = some (PySem.HandSPX.excO C hh.objs.size) := by heap_get
  have I2 := I1.laid (t' := tt) (a := hh.objs.size + 1) (o := exo (hh.objs.size + 1) C none) (h' := (hh.push (PySem.W.kdv_tup us)).push (PySem.HandSPX.excO C hh.objs.size)) keep big (exo_ok itself)
  have r2 : Vals (V.ref (hh.objs.size + 1) :: (vs ++ dvs)) (Value.ref (hh.objs.size + 1) :: (us ++ ds)) := .cons rfl (r1.append hd)
  have ln : (Value.ref (hh.objs.size + 1) :: us ++ ds).length = ps.length := r2.length.symm.trans (G.len _ _ _ _ hq)
  have lu : us.length ≤ sizeLine := by rw [← Paired.length r1, sizeLine_eq]; omega
  refine wpAny_call (PySem.HandSPX.call_own F.excBase_LookupError (lk_has hbm) (I1.kIn _ _ hC) (PySem.W.looks_findIn I1.kIn iC) (fun me => PySem.W.bind_fn I1.kIn me tI) lu (codeAny_mono (G.run _ X.stack _ _ ⟨Value.ref (hh.objs.size + 1) :: us, []⟩ (Value.ref (hh.objs.size + 1) :: (us ++ ds)) _ _ (fun _ _ _ => False) (hr.make C us []) (I2.env0.make C us []) (hb _ (Value.ref (hh.objs.size + 1) :: us) I2.kIn ln) r2 hq) fun r s2 z => ?_))
  match r, z with
  | .error er, z => exact hx pins σ _ _ er s2 I2 z
  | .ok (.ret u), z =>
    obtain ⟨v, H2, os2, bare, un, hok, rv, ev, d, fs, ea, ed, hd1, q2⟩ := z
    subst ev
    obtain ⟨h2, g2, d2, t2, os'⟩ := s2
    exact ⟨rv, mk_end (raises_own T.exc T.typ) I1 big keep un hok os2 bare ea ed hd1 q2⟩
  | .ok .next, z => exact False.elim z
  | .ok .brk, z => exact False.elim z
  | .ok .cont, z => exact False.elim z
end
end Nv

set_option maxRecDepth 100000
set_option maxHeartbeats 4000000
namespace Nv
open PySem PySem.Spec PyProof.Rows L2 LamX
/-! the head by a run: which objects are looked at, the Hook, what it tells -/
/-- what is looked at behind an object -/
def kids (g : Addr → Option Obj) (a : Addr) : List Addr := match g a with
  | some ⟨_, _, .func fd, _⟩ => He.refV fd.code ++ He.refV fd.defaults
  | some ⟨_, _, .cls cd, _⟩ => [cd.ns]
  | some ⟨_, _, .dict es _, _⟩ => es.toList.flatMap fun e => He.refV e.val
  | _ => []
def kidsL (g : Addr → Option Obj) (l : List Addr) : List Addr := l.flatMap (kids g)
/-- the module's names, their codes and defaults, the classes' names, their codes and defaults -/
def seen1 (g : Addr → Option Obj) : List Addr := kidsL g [mainGlobals]
def seen2 (g : Addr → Option Obj) : List Addr := kidsL g (seen1 g)
def seen3 (g : Addr → Option Obj) : List Addr := kidsL g (seen2 g)
def seen4 (g : Addr → Option Obj) : List Addr := kidsL g (seen3 g)
def seenAll (g : Addr → Option Obj) : List Addr := mainGlobals :: cStatics :: (seen1 g ++ (seen2 g ++ (seen3 g ++ seen4 g)))
def frY (g : Addr → Option Obj) : PySem.W.Frag := He.frT g (seenAll g)
def obsY (fa : List He.Fa) (fn : List He.DefD) (tf : List He.Defn) (ex : PySem.W.Frag → Bool) (g : Addr → Option Obj) : He.AlX := (He.obsT fa fn [] (frY g), ex (frY g) && He.tabsB g tf (frY g))
theorem saysY_of {fa : List He.Fa} {fn : List He.DefD} {tf : List He.Defn} {ex : PySem.W.Frag → Bool} {w : World} {h : Heap} (e : obsY fa fn tf ex h.get? = He.valX fn [] w) : He.SaysX fa fn [] tf ex w h (frY h.get?) := by
  have e1 : He.obsT fa fn [] (frY h.get?) = He.valT fn [] w := congrArg Prod.fst e
  have e2 : (ex (frY h.get?) && He.tabsB h.get? tf (frY h.get?)) = true := congrArg Prod.snd e
  obtain ⟨h1, h2⟩ := He.ba e2
  have key : ∀ p ∈ tf, PySem.W.codeHdIn (frY h.get?) (He.cT (frY h.get?) p).1 (He.cT (frY h.get?) p).2 = true ∧ ∃ o, h.get? (He.cT (frY h.get?) p).2 = some o ∧ He.emptyTab o = true := by
    intro p hp
    obtain ⟨h3, h4⟩ := He.ba (List.all_eq_true.mp h2 p hp)
    refine ⟨h3, ?_⟩
    cases q : h.get? (He.cT (frY h.get?) p).2 with
    | some o => rw [q] at h4; exact ⟨o, rfl, h4⟩
    | none => rw [q] at h4; cases h4
  refine ⟨e1, h1, fun p hp => (key p hp).1, fun p hp => ?_, fun p hp => ?_⟩
  · obtain ⟨_, o, q, z⟩ := key p hp
    exact He.frT_none q z
  · obtain ⟨_, o, q, z⟩ := key p hp
    rw [q, He.emptyTab_eq z]
def hookY (fa : List He.Fa) (fn : List He.DefD) (tf : List He.Defn) (ex : PySem.W.Frag → Bool) : PySem.W.Hook where
  α := He.AlX
  obs := fun s => obsY fa fn tf ex s.heap.get?
  val := fun w => He.valX fn [] w
  says := fun w h => ∃ K : PySem.W.Frag, K.In h ∧ He.SaysX fa fn [] tf ex w h K
  of := fun w s e => ⟨frY s.heap.get?, He.frT_in, saysY_of e⟩
  keeps := fun w h h2 ⟨K, hK, c⟩ k => ⟨K, PySem.W.Frag.In.keeps hK k, ⟨c.t, c.more, c.hd, c.out, fun p hp => k _ _ (c.empty p hp)⟩⟩
theorem obsY_eq {fa : List He.Fa} {fn : List He.DefD} {tf : List He.Defn} {ex : PySem.W.Frag → Bool} (s : PySem.W.SharedT) : obsY fa fn tf ex (HandSHeadRun.getT s) = (hookY fa fn tf ex).obs s.abs := by
  have e : HandSHeadRun.getT s = s.abs.heap.get? := funext (HandSHeadRun.getT_eq s)
  rw [e]
  rfl
/-! further facts: a list of looks -/
def allB (l : List (PySem.W.Frag → Bool)) (K : PySem.W.Frag) : Bool := l.all fun f => f K
theorem allB_at {l : List (PySem.W.Frag → Bool)} {K : PySem.W.Frag} (h : allB l K = true) (i : Nat) {f : PySem.W.Frag → Bool} (e : l[i]? = some f := by rfl) : f K = true := List.all_eq_true.mp h f (List.mem_of_getElem? e)
/-- an own exception class: mr: what its bases must be, nw: whose __new__ -/
def exB (mr : List Value → Bool) (nw : String) (K : PySem.W.Frag) (C : Addr) : Bool := match K.lookup C with
  | some ⟨.type t, _, .cls cd, sl⟩ => decide (t = "type") && (match cd.mro with
    | .ref D :: bm => (match sl.toList with
      | [_, _, _, _, some (.builtin n), _] => decide (D = C) && (decide (n = nw) && (!cd.hasDel && (cd.hasDict && mr bm)))
      | _ => false)
    | _ => false)
  | _ => false
theorem exB_ok {mr : List Value → Bool} {nw : String} {K : PySem.W.Frag} {C : Addr} (h : exB mr nw K C = true) : ∃ c1 c2 c3 c4 bm c6 c7 c8 c9 c10 a0 a1 a2 a3 a5, K.lookup C = some (excClassObj c1 c2 C c3 c4 bm true c6 c7 c8 c9 c10 a0 a1 a2 a3 a5 nw) ∧ mr bm = true := by
  unfold exB at h
  split at h
  · rename_i t dd cd sl hl
    obtain ⟨h1, h2⟩ := He.ba h
    split at h2
    · rename_i D bm hm
      split at h2
      · rename_i a0 a1 a2 a3 n a5 hs
        obtain ⟨h3, h4⟩ := He.ba h2
        obtain ⟨h5, h6⟩ := He.ba h4
        obtain ⟨h7, h8⟩ := He.ba h6
        obtain ⟨h9, h10⟩ := He.ba h8
        have et := of_decide_eq_true h1
        have eD := of_decide_eq_true h3
        have en := of_decide_eq_true h5
        have hdel : cd.hasDel = false := by
          cases q : cd.hasDel with
          | false => rfl
          | true => rw [q] at h7; cases h7
        subst et eD en
        obtain ⟨b1, b2, b3, b4, b5, b6, b7, b8, b9, b10, b11⟩ := cd
        have e1 : b3 = .ref D :: bm := hm
        have e2 : b6 = true := h9
        have e3 : b11 = false := hdel
        have e4 : sl = #[a0, a1, a2, a3, some (.builtin n), a5] := by
          rw [← Array.toArray_toList (xs := sl), hs]
        subst e1 e2 e3 e4
        exact ⟨b1, b5, b4, b2, bm, b7, b8, b9, b10, dd, a0, a1, a2, a3, a5, hl, h10⟩
      · cases h2
    · cases h2
  · cases h
def excB (mr : List Value → Bool) (nw : String) (x : Str) (K : PySem.W.Frag) : Bool := exB mr nw K (He.ga K x) && (He.eqO (PySem.W.findIn K (.ref (He.ga K x)) "__setattr__") (some (some (.builtin "object.__setattr__"))) && (decide (PySem.W.subIn K (.ref (He.ga K x)) (.type "BaseException") = some true) &&
  (decide (PySem.W.typeIn K (.ref (He.ga K x)) = some (.type "type")) && PySem.W.keepIn K (.ref (He.ga K x)))))
/-- an own class over ValueError -/
def oexB (x : Str) (K : PySem.W.Frag) : Bool := excB PySem.HandSPX.refsVE "ValueError.__new__" x K
/-- an own class over LookupError -/
def lexB (x : Str) (K : PySem.W.Frag) : Bool := excB lkMro "LookupError.__new__" x K
theorem oexB_ok {x : Str} {K : PySem.W.Frag} (h : oexB x K = true) : OexC K (He.ga K x) := by
  obtain ⟨h1, h⟩ := He.ba h
  obtain ⟨h2, h⟩ := He.ba h
  obtain ⟨h3, h⟩ := He.ba h
  obtain ⟨h4, h5⟩ := He.ba h
  exact ⟨exB_ok h1, He.eqO_ok h2, of_decide_eq_true h3, of_decide_eq_true h4, h5⟩
theorem lexB_ok {x : Str} {K : PySem.W.Frag} (h : lexB x K = true) : LexC K (He.ga K x) := by
  obtain ⟨h1, h⟩ := He.ba h
  obtain ⟨h2, h⟩ := He.ba h
  obtain ⟨h3, h⟩ := He.ba h
  obtain ⟨h4, h5⟩ := He.ba h
  exact ⟨exB_ok h1, He.eqO_ok h2, of_decide_eq_true h3, of_decide_eq_true h4, h5⟩
/-- what reading C.__init__ of an own class finds -/
def initB (x : Str) (K : PySem.W.Frag) : Bool := match PySem.W.findCls K (.ref (He.ga K x)) (.type "type") "__init__" with
  | some (.val (.ref a)) => decide (a = He.ma K (He.ga K x) "__init__")
  | _ => false
theorem initB_ok {x : Str} {K : PySem.W.Frag} (h : initB x K = true) : PySem.W.findCls K (.ref (He.ga K x)) (.type "type") "__init__" = some (.val (.ref (He.ma K (He.ga K x) "__init__"))) := by
  unfold initB at h
  split at h
  · rename_i a e
    rw [e, of_decide_eq_true h]
  · cases h
/-- .. of a built-in one -/
def initT (t : String) (b : String) (K : PySem.W.Frag) : Bool := match PySem.W.findCls K (.type t) (.type "type") "__init__" with
  | some (.val (.builtin a)) => decide (a = b)
  | _ => false
theorem initT_ok {t b : String} {K : PySem.W.Frag} (h : initT t b K = true) : PySem.W.findCls K (.type t) (.type "type") "__init__" = some (.val (.builtin b)) := by
  unfold initT at h
  split at h
  · rename_i a e
    rw [e, of_decide_eq_true h]
  · cases h
/-- C.name may be read -/
def readB (x : Str) (K : PySem.W.Frag) : Bool := PySem.W.readsIn K (He.ga K x) (.type "type") && He.eqO (PySem.W.specialIn K (.ref (He.ga K x)) "__getattribute__") (some (some (.builtin "type.__getattribute__")))
theorem readB_ok {x : Str} {K : PySem.W.Frag} (h : readB x K = true) : PySem.W.readsIn K (He.ga K x) (.type "type") = true ∧ PySem.W.specialIn K (.ref (He.ga K x)) "__getattribute__" = some (some (.builtin "type.__getattribute__")) := ⟨(He.ba h).1, He.eqO_ok (He.ba h).2⟩
/-- the method is a function -/
def fnT (x m : Str) (K : PySem.W.Frag) : Bool := decide (PySem.W.typeIn K (.ref (He.ma K (He.ga K x) m)) = some (.type "function"))
theorem fnT_ok {x m : Str} {K : PySem.W.Frag} (h : fnT x m K = true) : PySem.W.typeIn K (.ref (He.ma K (He.ga K x) m)) = some (.type "function") := of_decide_eq_true h
def xfK (x : Str) (K : PySem.W.Frag) : Bool := xfB K (He.ga K x)
theorem xfK_ok {x : Str} {K : PySem.W.Frag} (h : xfK x K = true) : XfC K (He.ga K x) := xfB_ok h
/-- a def without defaults -/
theorem fun_of {K : PySem.W.Frag} {x q : Str} {st : Stmt} {f : Addr} {fd : FuncData} (F : FunD K x q (defArgs st) (defBody st) (defScope st) [] [] f fd) : Fun K x q st f fd := by
  obtain ⟨oc, od, dV, kV, doc, pm, an, cdv, ct, osl, e, lk, hc, hd, _⟩ := F.ex
  rcases hd with ⟨z, _⟩ | ⟨z, _⟩
  · have ez : dV = .none := by first | exact z | assumption
    subst ez
    exact ⟨⟨oc, od, kV, doc, pm, an, cdv, ct, osl, e, lk, hc⟩, F.kp⟩
  · exact absurd rfl z
/-- the law's own def and its table -/
theorem law_at {K : PySem.W.Frag} {h : Heap} {w : World} {fa : List He.Fa} {fn : List He.DefD} {tf : List He.Defn} {ex : PySem.W.Frag → Bool} {x q : Str} {st : Stmt} {fd : FuncData} (c : He.SaysX fa fn [] tf ex w h K) (F : FunD K x q (defArgs st) (defBody st) (defScope st) [] [] (He.fAd K (x, none)) fd) (ht : ((x, none) : He.Defn) ∈ tf) :
    ∃ (oc : Value) (od : Option Addr) (kV doc pm : Value) (an : Option Addr) (cc Pt : Addr) (ct : Value) (osl : Array (Option Value)), K.lookup (He.ga K x) = some ⟨oc, od, .func (PySem.W.fnOf x q (defArgs st) (defBody st) (defScope st) .none kV doc pm an (.ref cc) ct), osl⟩ ∧ PySem.W.codeIn K (.ref cc) q = true ∧ PySem.W.codeHdIn K cc Pt = true ∧
      h.get? Pt = some { cls := .none, data := .fields #[] } ∧ K.lookup Pt = none := by
  obtain ⟨oc, od, dV, kV, doc, pm, an, cdv, ct, osl, e, lk, hc, hd, _⟩ := F.ex
  obtain ⟨cc, ecc⟩ := He.codeIn_ref hc
  subst ecc
  subst e
  have ec : He.codeOf K (x, none) = cc := He.codeOf_eq lk rfl
  have e1 := c.hd _ ht
  have e2 := c.out _ ht
  have e3 := c.empty _ ht
  unfold He.cT at e1 e2 e3
  rw [ec] at e1 e2 e3
  rcases hd with ⟨z, _⟩ | ⟨z, _⟩
  · have ez : dV = .none := by first | exact z | assumption
    subst ez
    exact ⟨oc, od, kV, doc, pm, an, cc, He.tabOf K cc, ct, osl, lk, hc, e1, e3, e2⟩
  · exact absurd rfl z
end Nv

set_option maxRecDepth 100000
set_option maxHeartbeats 4000000
namespace Nv
open PySem PySem.Spec PyProof.Rows L2 LamX
/-! .. with dicts of the top -/
def obsZ (fa : List He.Fa) (fn : List He.DefD) (ts : List He.Tab) (tf : List He.Defn) (ex : PySem.W.Frag → Bool) (g : Addr → Option Obj) : He.AlX := (He.obsT fa fn ts (frY g), ex (frY g) && He.tabsB g tf (frY g))
theorem saysZ_of {fa : List He.Fa} {fn : List He.DefD} {ts : List He.Tab} {tf : List He.Defn} {ex : PySem.W.Frag → Bool} {w : World} {h : Heap} (e : obsZ fa fn ts tf ex h.get? = He.valX fn ts w) : He.SaysX fa fn ts tf ex w h (frY h.get?) := by
  have e1 : He.obsT fa fn ts (frY h.get?) = He.valT fn ts w := congrArg Prod.fst e
  have e2 : (ex (frY h.get?) && He.tabsB h.get? tf (frY h.get?)) = true := congrArg Prod.snd e
  obtain ⟨h1, h2⟩ := He.ba e2
  have key : ∀ p ∈ tf, PySem.W.codeHdIn (frY h.get?) (He.cT (frY h.get?) p).1 (He.cT (frY h.get?) p).2 = true ∧ ∃ o, h.get? (He.cT (frY h.get?) p).2 = some o ∧ He.emptyTab o = true := by
    intro p hp
    obtain ⟨h3, h4⟩ := He.ba (List.all_eq_true.mp h2 p hp)
    refine ⟨h3, ?_⟩
    cases q : h.get? (He.cT (frY h.get?) p).2 with
    | some o => rw [q] at h4; exact ⟨o, rfl, h4⟩
    | none => rw [q] at h4; cases h4
  refine ⟨e1, h1, fun p hp => (key p hp).1, fun p hp => ?_, fun p hp => ?_⟩
  · obtain ⟨_, o, q, z⟩ := key p hp
    exact He.frT_none q z
  · obtain ⟨_, o, q, z⟩ := key p hp
    rw [q, He.emptyTab_eq z]
def hookZ (fa : List He.Fa) (fn : List He.DefD) (ts : List He.Tab) (tf : List He.Defn) (ex : PySem.W.Frag → Bool) : PySem.W.Hook where
  α := He.AlX
  obs := fun s => obsZ fa fn ts tf ex s.heap.get?
  val := fun w => He.valX fn ts w
  says := fun w h => ∃ K : PySem.W.Frag, K.In h ∧ He.SaysX fa fn ts tf ex w h K
  of := fun w s e => ⟨frY s.heap.get?, He.frT_in, saysZ_of e⟩
  keeps := fun w h h2 ⟨K, hK, c⟩ k => ⟨K, PySem.W.Frag.In.keeps hK k, ⟨c.t, c.more, c.hd, c.out, fun p hp => k _ _ (c.empty p hp)⟩⟩
theorem obsZ_eq {fa : List He.Fa} {fn : List He.DefD} {ts : List He.Tab} {tf : List He.Defn} {ex : PySem.W.Frag → Bool} (s : PySem.W.SharedT) : obsZ fa fn ts tf ex (HandSHeadRun.getT s) = (hookZ fa fn ts tf ex).obs s.abs := by
  have e : HandSHeadRun.getT s = s.abs.heap.get? := funext (HandSHeadRun.getT_eq s)
  rw [e]
  rfl
/-- a dict of the top, by name -/
def tabN (x : Str) (ks : List Str) : He.Tab := (fun K => He.ga K x, ks)
/-- .. and its values -/
def dctB (x : Str) (kvs : List (Str × He.Dv)) (K : PySem.W.Frag) : Bool := He.valsB K (He.ga K x) kvs
theorem kdct {K : PySem.W.Frag} {w : World} {x : Str} {kvs : List (Str × He.Dv)} {es : Array DictEntry} {n : Nat} (D : KDict K w (He.ga K x) es n) (h : dctB x kvs K = true) {k : Str} {v : He.Dv} (hq : (k, v) ∈ kvs) : KDct K w (He.ga K x) k (v.v K) := by
  obtain ⟨u, e, r⟩ := He.valsB_ok h hq
  exact ⟨es, n, u, D.at_, D.lit, e, r⟩
/-- a tuple of the top -/
def tupN (x : Str) (vs : List He.Dv) (K : PySem.W.Frag) : Bool := He.tupB K x vs
end Nv

set_option maxRecDepth 100000
set_option maxHeartbeats 4000000
namespace Nv
open PySem PySem.Spec PyProof.Rows L2 LamX
/-- the law's own def and its table of lambdas, with dicts of the top -/
theorem law_atT {K : PySem.W.Frag} {h : Heap} {w : World} {fa : List He.Fa} {fn : List He.DefD} {ts : List He.Tab} {tf : List He.Defn} {ex : PySem.W.Frag → Bool} {x q : Str} {st : Stmt} {fd : FuncData} (c : He.SaysX fa fn ts tf ex w h K) (F : FunD K x q (defArgs st) (defBody st) (defScope st) [] [] (He.fAd K (x, none)) fd) (ht : ((x, none) : He.Defn) ∈ tf) :
    ∃ (oc : Value) (od : Option Addr) (kV doc pm : Value) (an : Option Addr) (cc Pt : Addr) (ct : Value) (osl : Array (Option Value)), K.lookup (He.ga K x) = some ⟨oc, od, .func (PySem.W.fnOf x q (defArgs st) (defBody st) (defScope st) .none kV doc pm an (.ref cc) ct), osl⟩ ∧ PySem.W.codeIn K (.ref cc) q = true ∧ PySem.W.codeHdIn K cc Pt = true ∧
      h.get? Pt = some { cls := .none, data := .fields #[] } ∧ K.lookup Pt = none := by
  obtain ⟨oc, od, dV, kV, doc, pm, an, cdv, ct, osl, e, lk, hc, hd, _⟩ := F.ex
  obtain ⟨cc, ecc⟩ := He.codeIn_ref hc
  subst ecc
  subst e
  have ec : He.codeOf K (x, none) = cc := He.codeOf_eq lk rfl
  have e1 := c.hd _ ht
  have e2 := c.out _ ht
  have e3 := c.empty _ ht
  unfold He.cT at e1 e2 e3
  rw [ec] at e1 e2 e3
  rcases hd with ⟨z, _⟩ | ⟨z, _⟩
  · have ez : dV = .none := by first | exact z | assumption
    subst ez
    exact ⟨oc, od, kV, doc, pm, an, cc, He.tabOf K cc, ct, osl, lk, hc, e1, e3, e2⟩
  · exact absurd rfl z
/-- a dict of the top has no keys but these texts -/
def keysB (x : Str) (ks : List Str) (K : PySem.W.Frag) : Bool := match K.lookup (He.ga K x) with
  | some ⟨_, _, .dict es _, _⟩ => es.toList.all fun e => (!e.refKey) && (match e.key with
    | .str s _ => decide (s ∈ ks)
    | _ => false)
  | _ => false
theorem keysB_no {x : Str} {ks : List Str} {K : PySem.W.Frag} (h : keysB x ks K = true) {z : Str} (hz : z ∉ ks) : PySem.W.nsIn K (He.ga K x) z = some none := by
  unfold keysB at h
  unfold PySem.W.nsIn
  cases e : K.lookup (He.ga K x) with
  | none => rw [e] at h; cases h
  | some o =>
    rw [e] at h
    obtain ⟨c, d, dt, sl⟩ := o
    cases dt with
    | dict es n =>
      replace h : (es.toList.all fun e => (!e.refKey) && (match e.key with
        | .str s _ => decide (s ∈ ks)
        | _ => false)) = true := h
      have h2 := List.all_eq_true.mp h
      have h3 : es.toList.find? (fun e => e.key.isStr z) = none := by
        refine List.find?_eq_none.mpr fun e he hk => ?_
        have h4 := h2 e he
        obtain ⟨_, h5⟩ := He.ba h4
        cases ek : e.key with
        | str s t =>
          rw [ek] at h5 hk
          have h6 : s ∈ ks := of_decide_eq_true h5
          have h7 : s = z := eq_of_beq hk
          exact hz (h7 ▸ h6)
        | _ => rw [ek] at h5; cases h5
      have h8 : es.toList.any (fun e => e.refKey) = false := by
        refine List.any_eq_false.mpr fun e he hk => ?_
        obtain ⟨h5, _⟩ := He.ba (h2 e he)
        rw [hk] at h5
        cases h5
      show (match es.toList.find? (fun e => e.key.isStr z) with
        | some e => some (some e.val)
        | none => if es.toList.any (fun e => e.refKey) then none else some none) = some none
      rw [h3, h8]
      rfl
    | _ => cases h
end Nv

set_option maxRecDepth 100000
/-! Looks by address: a share as a constant of the top, a keyword-only default that is one. -/
namespace Nv
open PySem PySem.Spec PyProof.Rows L2
/-- the items of a tuple of the frag -/
def tupA (K : PySem.W.Frag) (a : Addr) : List Value := match K.lookup a with
  | some ⟨.type c, _, .seq its _, _⟩ => if c == "tuple" && decide (its.size ≤ 900) then its.toList else []
  | _ => []
theorem tupA_sq {K : PySem.W.Frag} {a : Addr} {us : List Value} {vs : List V} (h : tupA K a = us) (ne : us ≠ []) (r : Vals vs us) (H : Hp) : SqT K H a vs := by
  unfold tupA at h
  split at h
  · rename_i c d its n sl e
    by_cases z : (c == "tuple" && decide (its.size ≤ 900)) = true
    · rw [if_pos z] at h
      rw [Bool.and_eq_true, decide_eq_true_iff, beq_iff_eq] at z
      obtain ⟨rfl, l⟩ := z
      exact .inr ⟨_, its, n, e, rfl, rfl, Nat.le_trans l (by decide), by rw [h]; exact r⟩
    · rw [if_neg z] at h
      exact absurd h.symm ne
  · exact absurd h.symm ne
/-- a share that stands at a -/
def shareB (K : PySem.W.Frag) (a : Addr) (t b : Int) : Bool := match tupA K a with
  | [.str s _, .ref q] => s == "share" && (match tupA K q with
    | [.int i _, .int j _] => i == t && j == b
    | _ => false)
  | _ => false
theorem shareB_ok {K : PySem.W.Frag} {a : Addr} {t b : Int} (h : shareB K a t b = true) : ∃ q, ∀ H, SqT K H a [.str "share", .ref q] ∧ SqT K H q [.int t, .int b] := by
  unfold shareB at h
  split at h
  · rename_i s tk q e
    rw [Bool.and_eq_true, beq_iff_eq] at h
    obtain ⟨rfl, h⟩ := h
    split at h
    · rename_i i ti j tj e2
      rw [Bool.and_eq_true, beq_iff_eq, beq_iff_eq] at h
      obtain ⟨rfl, rfl⟩ := h
      exact ⟨q, fun H => ⟨tupA_sq (vs := [.str "share", .ref q]) e (by simp) (.cons ⟨_, rfl⟩ (.cons rfl .nil)) H, tupA_sq (vs := [.int i, .int j]) e2 (by simp) (.cons ⟨_, rfl⟩ (.cons ⟨_, rfl⟩ .nil)) H⟩⟩
    · cases h
  · cases h
def kwV (K : PySem.W.Frag) (kV : Value) (x : Str) : Option Addr := match kV with
  | .ref D => (match PySem.W.nsIn K D x with
    | some (some (.ref B)) => some B
    | _ => none)
  | _ => none
theorem kwV_ok {K : PySem.W.Frag} {kV : Value} {x : Str} {B : Addr} (h : kwV K kV x = some B) : ∃ D, kV = .ref D ∧ PySem.W.nsIn K D x = some (some (.ref B)) := by
  unfold kwV at h
  split at h
  · rename_i D
    split at h
    · rename_i B' e
      cases h
      exact ⟨D, rfl, e⟩
    · cases h
  · cases h
/-- where a keyword-only default stands -/
def kwA (K : PySem.W.Frag) (f : Addr) (x : Str) : Option Addr := match K.lookup f with
  | some ⟨_, _, .func fd, _⟩ => kwV K fd.kwdefaults x
  | _ => none
def kwShareB (f : PySem.W.Frag → Addr) (x : Str) (t b : Int) (K : PySem.W.Frag) : Bool := match kwA K (f K) x with
  | some B => shareB K B t b
  | none => false
theorem kwShareB_ok {K : PySem.W.Frag} {f : PySem.W.Frag → Addr} {x : Str} {t b : Int} (h : kwShareB f x t b K = true) : ∃ B, kwA K (f K) x = some B ∧ shareB K B t b = true := by
  unfold kwShareB at h
  split at h
  · rename_i B e
    exact ⟨B, e, h⟩
  · cases h
/-- such a def, its keyword-only default told -/
theorem FunD.kw {K : PySem.W.Frag} {x qual : Str} {params : Arguments} {body : List Stmt} {scope : Scope} {f B : Addr} {fd : FuncData} {y : Str} (F : FunD K x qual params body scope [] [] f fd) (h : kwA K f y = some B) : FunD K x qual params body scope [] [(y, .ref B)] f fd := by
  obtain ⟨oc, od, dV, kV, doc, pm, an, cdv, ct, osl, rfl, lk, hcd, hD, _⟩ := F.ex
  refine ⟨⟨oc, od, dV, kV, doc, pm, an, cdv, ct, osl, rfl, lk, hcd, hD, ?_⟩, F.kp⟩
  unfold kwA at h
  rw [lk] at h
  obtain ⟨D, rfl, e⟩ := kwV_ok (kV := kV) h
  refine .inr ⟨D, rfl, fun q hq => ?_⟩
  rw [List.mem_singleton.mp hq]
  exact ⟨_, e, rfl⟩
end Nv

set_option maxRecDepth 100000
set_option maxHeartbeats 4000000
/-! The head by a run that also looks at tuples of tuples and at keyword-only defaults. -/
namespace Nv
open PySem PySem.Spec PyProof.Rows L2 LamX
def kidsW (g : Addr → Option Obj) (a : Addr) : List Addr := match g a with
  | some ⟨_, _, .func fd, _⟩ => He.refV fd.code ++ He.refV fd.defaults ++ He.refV fd.kwdefaults
  | some ⟨_, _, .cls cd, _⟩ => [cd.ns]
  | some ⟨_, _, .dict es _, _⟩ => es.toList.flatMap fun e => He.refV e.val
  | some ⟨_, _, .seq its _, _⟩ => its.toList.flatMap He.refV
  | _ => []
def kidsWL (g : Addr → Option Obj) (l : List Addr) : List Addr := l.flatMap (kidsW g)
def seenW1 (g : Addr → Option Obj) : List Addr := kidsWL g [mainGlobals]
def seenW2 (g : Addr → Option Obj) : List Addr := kidsWL g (seenW1 g)
def seenW3 (g : Addr → Option Obj) : List Addr := kidsWL g (seenW2 g)
def seenW4 (g : Addr → Option Obj) : List Addr := kidsWL g (seenW3 g)
def seenW (g : Addr → Option Obj) : List Addr := mainGlobals :: cStatics :: (seenW1 g ++ (seenW2 g ++ (seenW3 g ++ seenW4 g)))
def frW (g : Addr → Option Obj) : PySem.W.Frag := He.frT g (seenW g)

def obsW (fa : List He.Fa) (fn : List He.DefD) (ts : List He.Tab) (tf : List He.Defn) (ex : PySem.W.Frag → Bool) (g : Addr → Option Obj) : He.AlX := (He.obsT fa fn ts (frW g), ex (frW g) && He.tabsB g tf (frW g))
theorem saysW_of {fa : List He.Fa} {fn : List He.DefD} {ts : List He.Tab} {tf : List He.Defn} {ex : PySem.W.Frag → Bool} {w : World} {h : Heap} (e : obsW fa fn ts tf ex h.get? = He.valX fn ts w) : He.SaysX fa fn ts tf ex w h (frW h.get?) := by
  have e1 : He.obsT fa fn ts (frW h.get?) = He.valT fn ts w := congrArg Prod.fst e
  have e2 : (ex (frW h.get?) && He.tabsB h.get? tf (frW h.get?)) = true := congrArg Prod.snd e
  obtain ⟨h1, h2⟩ := He.ba e2
  have key : ∀ p ∈ tf, PySem.W.codeHdIn (frW h.get?) (He.cT (frW h.get?) p).1 (He.cT (frW h.get?) p).2 = true ∧ ∃ o, h.get? (He.cT (frW h.get?) p).2 = some o ∧ He.emptyTab o = true := by
    intro p hp
    obtain ⟨h3, h4⟩ := He.ba (List.all_eq_true.mp h2 p hp)
    refine ⟨h3, ?_⟩
    cases q : h.get? (He.cT (frW h.get?) p).2 with
    | some o => rw [q] at h4; exact ⟨o, rfl, h4⟩
    | none => rw [q] at h4; cases h4
  refine ⟨e1, h1, fun p hp => (key p hp).1, fun p hp => ?_, fun p hp => ?_⟩
  · obtain ⟨_, o, q, z⟩ := key p hp
    exact He.frT_none q z
  · obtain ⟨_, o, q, z⟩ := key p hp
    rw [q, He.emptyTab_eq z]
def hookW (fa : List He.Fa) (fn : List He.DefD) (ts : List He.Tab) (tf : List He.Defn) (ex : PySem.W.Frag → Bool) : PySem.W.Hook where
  α := He.AlX
  obs := fun s => obsW fa fn ts tf ex s.heap.get?
  val := fun w => He.valX fn ts w
  says := fun w h => ∃ K : PySem.W.Frag, K.In h ∧ He.SaysX fa fn ts tf ex w h K
  of := fun w s e => ⟨frW s.heap.get?, He.frT_in, saysW_of e⟩
  keeps := fun w h h2 ⟨K, hK, c⟩ k => ⟨K, PySem.W.Frag.In.keeps hK k, ⟨c.t, c.more, c.hd, c.out, fun p hp => k _ _ (c.empty p hp)⟩⟩
theorem obsW_eq {fa : List He.Fa} {fn : List He.DefD} {ts : List He.Tab} {tf : List He.Defn} {ex : PySem.W.Frag → Bool} (s : PySem.W.SharedT) : obsW fa fn ts tf ex (HandSHeadRun.getT s) = (hookW fa fn ts tf ex).obs s.abs := by
  have e : HandSHeadRun.getT s = s.abs.heap.get? := funext (HandSHeadRun.getT_eq s)
  rw [e]
  rfl
end Nv

set_option maxRecDepth 100000
namespace Nv
open PySem PySem.Spec PyProof.Rows L2 LamX
def d0 : He.DefD := ⟨("law", none), "law", "law", defArgs sLaw, defBody sLaw, defScope sLaw, [], []⟩
def d1 : He.DefD := ⟨("common_divisor", none), "common_divisor", "common_divisor", defArgs sGcd, defBody sGcd, defScope sGcd, [], []⟩
def d2 : He.DefD := ⟨("is_number", none), "is_number", "is_number", defArgs sNum, defBody sNum, defScope sNum, [], []⟩
def d3 : He.DefD := ⟨("is_share", none), "is_share", "is_share", defArgs sIsSh, defBody sIsSh, defScope sIsSh, [], []⟩
def d4 : He.DefD := ⟨("is_letter", none), "is_letter", "is_letter", defArgs sIsLe, defBody sIsLe, defScope sIsLe, [], []⟩
def d5 : He.DefD := ⟨("is_built", none), "is_built", "is_built", defArgs sBuilt, defBody sBuilt, defScope sBuilt, [], []⟩
def d6 : He.DefD := ⟨("things_in", none), "things_in", "things_in", defArgs sThings, defBody sThings, defScope sThings, [], []⟩
def d7 : He.DefD := ⟨("flaw_of", none), "flaw_of", "flaw_of", defArgs sFlaw, defBody sFlaw, defScope sFlaw, [], []⟩
def d8 : He.DefD := ⟨("need_term", none), "need_term", "need_term", defArgs sNeedT, defBody sNeedT, defScope sNeedT, [], []⟩
def d9 : He.DefD := ⟨("told_of", none), "told_of", "told_of", defArgs sTold, defBody sTold, defScope sTold, [], []⟩
def d10 : He.DefD := ⟨("nudge", none), "nudge", "nudge", defArgs sNudge, defBody sNudge, defScope sNudge, [], []⟩
def d11 : He.DefD := ⟨("turn", none), "turn", "turn", defArgs sTurn, defBody sTurn, defScope sTurn, [], []⟩
def d12 : He.DefD := ⟨("turned", none), "turned", "turned", defArgs sTurned, defBody sTurned, defScope sTurned, [], []⟩
def d13 : He.DefD := ⟨("_law_bag", none), "_law_bag", "_law_bag", defArgs sBag, defBody sBag, defScope sBag, [], []⟩
def d14 : He.DefD := ⟨("_law_pull", none), "_law_pull", "_law_pull", defArgs sPull, defBody sPull, defScope sPull, [], []⟩
def d15 : He.DefD := ⟨("_law_of", none), "_law_of", "_law_of", defArgs sOf, defBody sOf, defScope sOf, [], []⟩
def d16 : He.DefD := ⟨("_law_same", none), "_law_same", "_law_same", defArgs sSame, defBody sSame, defScope sSame, [], []⟩
def d17 : He.DefD := ⟨("_law_asked", none), "_law_asked", "_law_asked", defArgs sAsked, defBody sAsked, defScope sAsked, [], []⟩
def d18 : He.DefD := ⟨("_law_gcd", none), "_law_gcd", "_law_gcd", defArgs sLGcd, defBody sLGcd, defScope sLGcd, [], []⟩
def d19 : He.DefD := ⟨("_law_fr", none), "_law_fr", "_law_fr", defArgs sLFr, defBody sLFr, defScope sLFr, [], []⟩
def d20 : He.DefD := ⟨("_law_light", none), "_law_light", "_law_light", defArgs sLight, defBody sLight, defScope sLight, [], []⟩
def d21 : He.DefD := ⟨("_law_abc", none), "_law_abc", "_law_abc", defArgs sAbc, defBody sAbc, defScope sAbc, [], []⟩
def d22 : He.DefD := ⟨("_law_leaf", none), "_law_leaf", "_law_leaf", defArgs sLeaf, defBody sLeaf, defScope sLeaf, [], []⟩
def d23 : He.DefD := ⟨("_law_drawn", none), "_law_drawn", "_law_drawn", defArgs sDrawn, defBody sDrawn, defScope sDrawn, [], []⟩
def d24 : He.DefD := ⟨("_law_inner", none), "_law_inner", "_law_inner", defArgs sInner, defBody sInner, defScope sInner, [], []⟩
def d25 : He.DefD := ⟨("_law_count", none), "_law_count", "_law_count", defArgs sLCount, defBody sLCount, defScope sLCount, [], []⟩
def d26 : He.DefD := ⟨("_law_depth", none), "_law_depth", "_law_depth", defArgs sLDepth, defBody sLDepth, defScope sLDepth, [], []⟩
def d27 : He.DefD := ⟨("_law_all_parts", none), "_law_all_parts", "_law_all_parts", defArgs sAllP, defBody sAllP, defScope sAllP, [], []⟩
def d28 : He.DefD := ⟨("_law_letters", none), "_law_letters", "_law_letters", defArgs sLLets, defBody sLLets, defScope sLLets, [], []⟩
def d29 : He.DefD := ⟨("_law_fault", none), "_law_fault", "_law_fault", defArgs sFault, defBody sFault, defScope sFault, [], []⟩
def d30 : He.DefD := ⟨("_law_twist", none), "_law_twist", "_law_twist", defArgs sTwist, defBody sTwist, defScope sTwist, [], []⟩
def d31 : He.DefD := ⟨("_law_odd", none), "_law_odd", "_law_odd", defArgs sOdd, defBody sOdd, defScope sOdd, [], []⟩
def d32 : He.DefD := ⟨("_law_moved", none), "_law_moved", "_law_moved", defArgs sMoved, defBody sMoved, defScope sMoved, [], []⟩
def d33 : He.DefD := ⟨("_law_other_way", none), "_law_other_way", "_law_other_way", defArgs sOther, defBody sOther, defScope sOther, [], []⟩
def d34 : He.DefD := ⟨("BadTerm", some "__init__"), "__init__", "BadTerm.__init__", defArgs sBTm, defBody sBTm, defScope sBTm, [], []⟩
def d35 : He.DefD := ⟨("NeverError", some "__init__"), "__init__", "NeverError.__init__", defArgs sNE, defBody sNE, defScope sNE, [.str "NeverError", .str "refused"], []⟩
def d36 : He.DefD := ⟨("nudged", none), "nudged", "nudged", defArgs sNudged, defBody sNudged, defScope sNudged, [], []⟩
def hFn0 : List He.DefD := [d0, d1, d2, d3, d4, d5, d6, d7, d8, d9, d10, d11, d12, d13, d14, d15, d16, d17, d18, d19, d20, d21, d22, d23, d24, d25, d26, d27, d28, d29]
def hFn1 : List He.DefD := [d30, d31, d32, d33, d34, d35, d36]
def hFn : List He.DefD := hFn0 ++ hFn1
def hFa0 : List He.Fa := [.glo "law", .glo "common_divisor", .glo "is_number", .glo "is_share", .glo "is_letter", .glo "is_built", .glo "things_in", .glo "flaw_of", .glo "need_term", .glo "told_of", .glo "nudge", .glo "turn", .glo "turned", .glo "_law_bag", .glo "_law_pull", .glo "_law_of", .glo "_law_same", .glo "_law_asked", .glo "_law_gcd", .glo "_law_fr", .glo "_law_light", .glo "_law_abc", .glo "_law_leaf", .glo "_law_drawn", .glo "_law_inner", .glo "_law_count", .glo "_law_depth", .glo "_law_all_parts", .glo "_law_letters", .glo "_law_fault"]
def hFa1 : List He.Fa := [.glo "_law_twist", .glo "_law_odd", .glo "_law_moved", .glo "_law_other_way", .meth "BadTerm" "__init__", .glo "nudged", .glo "NeverError", .glo "BadTerm", .free "isinstance", .free "list", .free "tuple", .free "len", .free "all", .free "range", .free "bool", .free "int", .free "str", .free "abs", .int "MOST_PARTS" 24, .int "MOST_LETTERS" 4, .int "MOST_DEEP" 4, .int "MOST_SIGNS" 6, .str "SMALL_LETTERS" "abcdefghijklmnopqrstuvwxyz", .int "TOO_GREAT" (10 ^ 12), .glo "OF_TWO", .noat "BadTerm" "word", .noat "BadTerm" "flaw", .exm "BadTerm" "BadTerm" true, .glo "NOTHING", .int "LONG" 6000]
def hFa2 : List He.Fa := [.free "max", .free "ValueError", .free "sum", .free "sorted", .free "set"]
def hFa : List He.Fa := hFa0 ++ hFa1 ++ hFa2
def hEx0 : List (PySem.W.Frag → Bool) := [kwShareB (fun K => He.ga K "nudged") "by" 1 1, (fun K => shareB K (He.ga K "NOTHING") 0 1), tupN "OF_TWO" [.str "plus",.str "less",.str "times"], oexB "BadTerm", xfK "BadTerm", fnT "BadTerm" "__init__", readB "NeverError", initB "NeverError", initT "ValueError" "ValueError.__init__"]
def hEx : List (PySem.W.Frag → Bool) := hEx0
def hNm0 : List Str := ["NeverError", "BadTable", "BadTerm", "BadTables", "BadText", "BadWeb", "Unsound", "Unsteady", "BadNumber", "BadName", "BadWord", "Taken", "Full", "Ring", "InUse", "Breaks", "Stopped", "BadPage", "Missing", "NoLetter", "NoName", "LONG", "SHORT", "nearer", "common_divisor", "MOST_PARTS", "MOST_LETTERS", "MOST_DEEP", "MOST_SIGNS", "SMALL_LETTERS"]
def hNm1 : List Str := ["TOO_GREAT", "OF_TWO", "is_number", "is_share", "is_letter", "is_built", "things_in", "flaw_of", "need_term", "NOTHING", "told_of", "nudge", "nudged", "turn", "turned", "_law_bag", "_law_pull", "_law_of", "_law_same", "_law_asked", "_law_gcd", "_law_fr", "_law_light", "_law_abc", "_law_leaf", "_law_drawn", "_law_inner", "_law_count", "_law_depth", "_law_all_parts"]
def hNm2 : List Str := ["_law_letters", "_law_fault", "_law_twist", "_law_odd", "_law_moved", "_law_other_way"]
def hNm : List Str := hNm0 ++ hNm1 ++ hNm2
def hTf : List He.Defn := [("law", none)]
def hTb : List He.Tab := []
end Nv

set_option maxRecDepth 100000
namespace Nv
open PySem PySem.Spec PyProof.Rows L2 LamX
abbrev hR : PySem.W.OpenRow := PySem.W.OpenLaw.row PySem.Challenge.rw_nevernought_k40_reckonings_nudged_and_tu
abbrev hk : PySem.W.Hook := hookW hFa hFn hTb hTf (allB hEx)
def hOb (s : PySem.W.SharedT) : He.AlX := obsW hFa hFn hTb hTf (allB hEx) (HandSHeadRun.getT s)
theorem hOb_eq (s : PySem.W.SharedT) : hOb s = hk.obs s.abs := obsW_eq s
set_option maxHeartbeats 0 in
theorem hRunF (w : World) : HandSHeadRun.RunEq hR (PySem.W.view hR.prog [71]) hk hOb 9500 hNm (w.withFollow "special-get-raises" false) := by
  intro os
  kernel_rfl
set_option maxHeartbeats 0 in
theorem hRunT (w : World) : HandSHeadRun.RunEq hR (PySem.W.view hR.prog [71]) hk hOb 9500 hNm (w.withFollow "special-get-raises" true) := by
  intro os
  kernel_rfl
theorem hRun (w : World) : HandSHeadRun.RunEq hR (PySem.W.view hR.prog [71]) hk hOb 9500 hNm w := PySem.W.byRow2 "special-get-raises" (P := fun w => HandSHeadRun.RunEq hR (PySem.W.view hR.prog [71]) hk hOb 9500 hNm w) hRunF hRunT w
end Nv

set_option maxRecDepth 100000
set_option maxHeartbeats 4000000
namespace Nv
open PySem PySem.Spec PyProof.Rows L2 LamX NvSet
theorem papp {α β : Type} {R : α → β → Prop} : ∀ {xs : List α} {ys : List β} {xs' : List α} {ys' : List β}, Paired R xs ys → Paired R xs' ys' → Paired R (xs ++ xs') (ys ++ ys')
  | _, _, _, _, .nil, h => h
  | _, _, _, _, .cons a r, h => .cons a (papp r h)
theorem kbn_nudged {K : PySem.W.Frag} {f : Addr} {fd : FuncData} (F : FunD K "nudged" "nudged" (defArgs sNudged) (defBody sNudged) (defScope sNudged) [] [] f fd) : KBn K fd ["term", "letter", "by"] 2 ["by"] (fun us ws => us ++ ws) (fun vs zs => vs ++ zs) := by
  obtain ⟨oc, od, dV, kV, doc, pm, an, cdv, ct, osl, rfl, lk, hcd, hD, hK⟩ := F.ex
  rcases hD with ⟨_, rfl⟩ | ⟨e, _⟩
  · refine ⟨fun s us ws _ l1 l2 => ?_, fun r1 r2 => papp r1 r2⟩
    match us, l1, ws, l2 with
    | [_, _], _, [_], _ => exact .of_eq rfl
  · exact absurd rfl e
section
variable {P : Program} {w : World} {K : PySem.W.Frag} {mg : Str → Option Value} {base : Heap}
theorem cal {k : Nat} {x : Str} {f : Addr} {fd : FuncData} {ps : List Str} {sp : Sp} (G : FnOk P w K mg base CX0 k f fd ps sp) (hm : mg x = some (.ref f)) (kp : PySem.W.keepIn K (.ref f) = true) (b : Binds K fd ps []) : C8.Cal P w K mg base k x sp [] := ⟨f, fd, ps, [], G, hm, kp, b, .nil⟩
/-- a law with one table of lambdas -/
theorem lawAtL {l : PySem.W.OpenLaw} {h : Heap} {f cc Pt : Addr} {oc doc pm ct kV : Value} {od an : Option Addr} {osl : Array (Option Value)}
    (lL : K.lookup f = some ⟨oc, od, .func (PySem.W.fnOf "law" "law" (defArgs sLaw) (defBody sLaw) (defScope sLaw) .none kV doc pm an (.ref cc) ct), osl⟩) (cL : PySem.W.codeIn K (.ref cc) "law" = true) (hC : PySem.W.codeHdIn K cc Pt = true) (tL : h.get? Pt = some { cls := .none, data := .fields #[] }) (nL : K.lookup Pt = none) (X : K.In h)
    (G : ∀ base : Heap, TabB base mg cc Pt → FnOk l.prog w K mg base CX0 141 f (PySem.W.fnOf "law" "law" (defArgs sLaw) (defBody sLaw) (defScope sLaw) .none kV doc pm an (.ref cc) ct) ["_law_script"] (spLaw K Pt)) : LawAtS l w K CX0 141 63 "_law_script" mg f h := by
  refine ⟨PySem.W.fnOf "law" "law" (defArgs sLaw) (defBody sLaw) (defScope sLaw) .none kV doc pm an (.ref cc) ct, [(cc, Pt)], spLaw K Pt, fun p hp => ?_, fun p hp => ?_, fun p hp => ?_, fun s v => .of_eq rfl, fun H a ns hl hb hT hS => ⟨a, ns, rfl, hS, fun p hp => ?_, fun _ => rfl⟩, fun base _ _ hTB => ?_⟩
  · rw [List.mem_singleton.mp hp]
    exact tL
  · rw [List.mem_singleton.mp hp]
    exact nL
  · rw [List.mem_singleton.mp hp]
    exact PySem.W.codeHd_of_K X hC
  · rw [List.mem_singleton.mp hp]
    exact TabS.nil (hT (cc, Pt) (List.mem_singleton.mpr rfl))
  · exact G base (hTB (cc, Pt) (List.mem_singleton.mpr rfl))
theorem all_mk {l : PySem.W.OpenLaw} {h : Heap} {fa : Addr} (X : K.In h) (G : h.Ns mainGlobals mg) (hfa : mg "law" = some (.ref fa)) (c : He.SaysX hFa hFn hTb hTf (allB hEx) w h K) : LawAtS l w K CX0 141 63 "_law_script" mg fa h := by
  haveI : KFx K := ⟨trivial⟩
  obtain ⟨fdL0, FL0⟩ := c.t.d.def_ 0 (d := d0) rfl
  obtain ⟨ocL, odL, kVL, docL, pmL, anL, cc, Pt, ctL, oslL, lL, cL, hC, tL, nL⟩ := law_atT (x := "law") (q := "law") (st := sLaw) c FL0 (List.mem_singleton.mpr rfl)
  have e := hfa.symm.trans (He.glo_ok X G (c.t.d.fact 0 (f := .glo "law") rfl))
  cases e
  obtain ⟨fd0, F0⟩ := c.t.d.def_ 1 (d := d1) rfl
  replace F0 : Fun K "common_divisor" "common_divisor" sGcd (He.ga K "common_divisor") fd0 := fun_of F0
  have g0 := (He.glo_ok X G (c.t.d.fact 1 (f := .glo "common_divisor") rfl))
  have b0 := F0.binds (ps := ["one", "other"]) fun _ _ _ _ _ _ us hl => match us, hl with | [_, _], _ => rfl
  obtain ⟨fd1, F1⟩ := c.t.d.def_ 2 (d := d2) rfl
  replace F1 : Fun K "is_number" "is_number" sNum (He.ga K "is_number") fd1 := fun_of F1
  have g1 := (He.glo_ok X G (c.t.d.fact 2 (f := .glo "is_number") rfl))
  have b1 := F1.binds (ps := ["thing"]) fun _ _ _ _ _ _ us hl => match us, hl with | [_], _ => rfl
  obtain ⟨fd2, F2⟩ := c.t.d.def_ 3 (d := d3) rfl
  replace F2 : Fun K "is_share" "is_share" sIsSh (He.ga K "is_share") fd2 := fun_of F2
  have g2 := (He.glo_ok X G (c.t.d.fact 3 (f := .glo "is_share") rfl))
  have b2 := F2.binds (ps := ["thing"]) fun _ _ _ _ _ _ us hl => match us, hl with | [_], _ => rfl
  obtain ⟨fd3, F3⟩ := c.t.d.def_ 4 (d := d4) rfl
  replace F3 : Fun K "is_letter" "is_letter" sIsLe (He.ga K "is_letter") fd3 := fun_of F3
  have g3 := (He.glo_ok X G (c.t.d.fact 4 (f := .glo "is_letter") rfl))
  have b3 := F3.binds (ps := ["thing"]) fun _ _ _ _ _ _ us hl => match us, hl with | [_], _ => rfl
  obtain ⟨fd4, F4⟩ := c.t.d.def_ 5 (d := d5) rfl
  replace F4 : Fun K "is_built" "is_built" sBuilt (He.ga K "is_built") fd4 := fun_of F4
  have g4 := (He.glo_ok X G (c.t.d.fact 5 (f := .glo "is_built") rfl))
  have b4 := F4.binds (ps := ["thing"]) fun _ _ _ _ _ _ us hl => match us, hl with | [_], _ => rfl
  obtain ⟨fd5, F5⟩ := c.t.d.def_ 6 (d := d6) rfl
  replace F5 : Fun K "things_in" "things_in" sThings (He.ga K "things_in") fd5 := fun_of F5
  have g5 := (He.glo_ok X G (c.t.d.fact 6 (f := .glo "things_in") rfl))
  have b5 := F5.binds (ps := ["term"]) fun _ _ _ _ _ _ us hl => match us, hl with | [_], _ => rfl
  obtain ⟨fd6, F6⟩ := c.t.d.def_ 7 (d := d7) rfl
  replace F6 : Fun K "flaw_of" "flaw_of" sFlaw (He.ga K "flaw_of") fd6 := fun_of F6
  have g6 := (He.glo_ok X G (c.t.d.fact 7 (f := .glo "flaw_of") rfl))
  have b6 := F6.binds (ps := ["term"]) fun _ _ _ _ _ _ us hl => match us, hl with | [_], _ => rfl
  obtain ⟨fd7, F7⟩ := c.t.d.def_ 8 (d := d8) rfl
  replace F7 : Fun K "need_term" "need_term" sNeedT (He.ga K "need_term") fd7 := fun_of F7
  have g7 := (He.glo_ok X G (c.t.d.fact 8 (f := .glo "need_term") rfl))
  have b7 := F7.binds (ps := ["term"]) fun _ _ _ _ _ _ us hl => match us, hl with | [_], _ => rfl
  obtain ⟨fd8, F8⟩ := c.t.d.def_ 9 (d := d9) rfl
  replace F8 : Fun K "told_of" "told_of" sTold (He.ga K "told_of") fd8 := fun_of F8
  have g8 := (He.glo_ok X G (c.t.d.fact 9 (f := .glo "told_of") rfl))
  have b8 := F8.binds (ps := ["term"]) fun _ _ _ _ _ _ us hl => match us, hl with | [_], _ => rfl
  obtain ⟨fd9, F9⟩ := c.t.d.def_ 10 (d := d10) rfl
  replace F9 : Fun K "nudge" "nudge" sNudge (He.ga K "nudge") fd9 := fun_of F9
  have g9 := (He.glo_ok X G (c.t.d.fact 10 (f := .glo "nudge") rfl))
  have b9 := F9.binds (ps := ["term", "letter", "by"]) fun _ _ _ _ _ _ us hl => match us, hl with | [_, _, _], _ => rfl
  obtain ⟨fd10, F10⟩ := c.t.d.def_ 11 (d := d11) rfl
  replace F10 : Fun K "turn" "turn" sTurn (He.ga K "turn") fd10 := fun_of F10
  have g10 := (He.glo_ok X G (c.t.d.fact 11 (f := .glo "turn") rfl))
  have b10 := F10.binds (ps := ["term"]) fun _ _ _ _ _ _ us hl => match us, hl with | [_], _ => rfl
  obtain ⟨fd11, F11⟩ := c.t.d.def_ 12 (d := d12) rfl
  replace F11 : Fun K "turned" "turned" sTurned (He.ga K "turned") fd11 := fun_of F11
  have g11 := (He.glo_ok X G (c.t.d.fact 12 (f := .glo "turned") rfl))
  have b11 := F11.binds (ps := ["term"]) fun _ _ _ _ _ _ us hl => match us, hl with | [_], _ => rfl
  obtain ⟨fd12, F12⟩ := c.t.d.def_ 13 (d := d13) rfl
  replace F12 : Fun K "_law_bag" "_law_bag" sBag (He.ga K "_law_bag") fd12 := fun_of F12
  have g12 := (He.glo_ok X G (c.t.d.fact 13 (f := .glo "_law_bag") rfl))
  have b12 := F12.binds (ps := ["_law_script"]) fun _ _ _ _ _ _ us hl => match us, hl with | [_], _ => rfl
  obtain ⟨fd13, F13⟩ := c.t.d.def_ 14 (d := d14) rfl
  replace F13 : Fun K "_law_pull" "_law_pull" sPull (He.ga K "_law_pull") fd13 := fun_of F13
  have g13 := (He.glo_ok X G (c.t.d.fact 14 (f := .glo "_law_pull") rfl))
  have b13 := F13.binds (ps := ["_law_bag_here", "_law_sides"]) fun _ _ _ _ _ _ us hl => match us, hl with | [_, _], _ => rfl
  obtain ⟨fd14, F14⟩ := c.t.d.def_ 15 (d := d15) rfl
  replace F14 : Fun K "_law_of" "_law_of" sOf (He.ga K "_law_of") fd14 := fun_of F14
  have g14 := (He.glo_ok X G (c.t.d.fact 15 (f := .glo "_law_of") rfl))
  have b14 := F14.binds (ps := ["_law_bag_here", "_law_some"]) fun _ _ _ _ _ _ us hl => match us, hl with | [_, _], _ => rfl
  obtain ⟨fd15, F15⟩ := c.t.d.def_ 16 (d := d16) rfl
  replace F15 : Fun K "_law_same" "_law_same" sSame (He.ga K "_law_same") fd15 := fun_of F15
  have g15 := (He.glo_ok X G (c.t.d.fact 16 (f := .glo "_law_same") rfl))
  have b15 := F15.binds (ps := ["_law_found", "_law_due"]) fun _ _ _ _ _ _ us hl => match us, hl with | [_, _], _ => rfl
  obtain ⟨fd16, F16⟩ := c.t.d.def_ 17 (d := d17) rfl
  replace F16 : Fun K "_law_asked" "_law_asked" sAsked (He.ga K "_law_asked") fd16 := fun_of F16
  have g16 := (He.glo_ok X G (c.t.d.fact 17 (f := .glo "_law_asked") rfl))
  have b16 := F16.binds (ps := ["_law_ask"]) fun _ _ _ _ _ _ us hl => match us, hl with | [_], _ => rfl
  obtain ⟨fd17, F17⟩ := c.t.d.def_ 18 (d := d18) rfl
  replace F17 : Fun K "_law_gcd" "_law_gcd" sLGcd (He.ga K "_law_gcd") fd17 := fun_of F17
  have g17 := (He.glo_ok X G (c.t.d.fact 18 (f := .glo "_law_gcd") rfl))
  have b17 := F17.binds (ps := ["_law_one", "_law_other"]) fun _ _ _ _ _ _ us hl => match us, hl with | [_, _], _ => rfl
  obtain ⟨fd18, F18⟩ := c.t.d.def_ 19 (d := d19) rfl
  replace F18 : Fun K "_law_fr" "_law_fr" sLFr (He.ga K "_law_fr") fd18 := fun_of F18
  have g18 := (He.glo_ok X G (c.t.d.fact 19 (f := .glo "_law_fr") rfl))
  have b18 := F18.binds (ps := ["_law_top", "_law_bottom"]) fun _ _ _ _ _ _ us hl => match us, hl with | [_, _], _ => rfl
  obtain ⟨fd19, F19⟩ := c.t.d.def_ 20 (d := d20) rfl
  replace F19 : Fun K "_law_light" "_law_light" sLight (He.ga K "_law_light") fd19 := fun_of F19
  have g19 := (He.glo_ok X G (c.t.d.fact 20 (f := .glo "_law_light") rfl))
  have b19 := F19.binds (ps := ["_law_bag_here"]) fun _ _ _ _ _ _ us hl => match us, hl with | [_], _ => rfl
  obtain ⟨fd20, F20⟩ := c.t.d.def_ 21 (d := d21) rfl
  replace F20 : Fun K "_law_abc" "_law_abc" sAbc (He.ga K "_law_abc") fd20 := fun_of F20
  have g20 := (He.glo_ok X G (c.t.d.fact 21 (f := .glo "_law_abc") rfl))
  have b20 := F20.binds (ps := ["_law_bag_here", "_law_many"]) fun _ _ _ _ _ _ us hl => match us, hl with | [_, _], _ => rfl
  obtain ⟨fd21, F21⟩ := c.t.d.def_ 22 (d := d22) rfl
  replace F21 : Fun K "_law_leaf" "_law_leaf" sLeaf (He.ga K "_law_leaf") fd21 := fun_of F21
  have g21 := (He.glo_ok X G (c.t.d.fact 22 (f := .glo "_law_leaf") rfl))
  have b21 := F21.binds (ps := ["_law_bag_here", "_law_signs"]) fun _ _ _ _ _ _ us hl => match us, hl with | [_, _], _ => rfl
  obtain ⟨fd22, F22⟩ := c.t.d.def_ 23 (d := d23) rfl
  replace F22 : Fun K "_law_drawn" "_law_drawn" sDrawn (He.ga K "_law_drawn") fd22 := fun_of F22
  have g22 := (He.glo_ok X G (c.t.d.fact 23 (f := .glo "_law_drawn") rfl))
  have b22 := F22.binds (ps := ["_law_bag_here", "_law_signs", "_law_room", "_law_deep"]) fun _ _ _ _ _ _ us hl => match us, hl with | [_, _, _, _], _ => rfl
  obtain ⟨fd23, F23⟩ := c.t.d.def_ 24 (d := d24) rfl
  replace F23 : Fun K "_law_inner" "_law_inner" sInner (He.ga K "_law_inner") fd23 := fun_of F23
  have g23 := (He.glo_ok X G (c.t.d.fact 24 (f := .glo "_law_inner") rfl))
  have b23 := F23.binds (ps := ["_law_term"]) fun _ _ _ _ _ _ us hl => match us, hl with | [_], _ => rfl
  obtain ⟨fd24, F24⟩ := c.t.d.def_ 25 (d := d25) rfl
  replace F24 : Fun K "_law_count" "_law_count" sLCount (He.ga K "_law_count") fd24 := fun_of F24
  have g24 := (He.glo_ok X G (c.t.d.fact 25 (f := .glo "_law_count") rfl))
  have b24 := F24.binds (ps := ["_law_term"]) fun _ _ _ _ _ _ us hl => match us, hl with | [_], _ => rfl
  obtain ⟨fd25, F25⟩ := c.t.d.def_ 26 (d := d26) rfl
  replace F25 : Fun K "_law_depth" "_law_depth" sLDepth (He.ga K "_law_depth") fd25 := fun_of F25
  have g25 := (He.glo_ok X G (c.t.d.fact 26 (f := .glo "_law_depth") rfl))
  have b25 := F25.binds (ps := ["_law_term"]) fun _ _ _ _ _ _ us hl => match us, hl with | [_], _ => rfl
  obtain ⟨fd26, F26⟩ := c.t.d.def_ 27 (d := d27) rfl
  replace F26 : Fun K "_law_all_parts" "_law_all_parts" sAllP (He.ga K "_law_all_parts") fd26 := fun_of F26
  have g26 := (He.glo_ok X G (c.t.d.fact 27 (f := .glo "_law_all_parts") rfl))
  have b26 := F26.binds (ps := ["_law_term"]) fun _ _ _ _ _ _ us hl => match us, hl with | [_], _ => rfl
  obtain ⟨fd27, F27⟩ := c.t.d.def_ 28 (d := d28) rfl
  replace F27 : Fun K "_law_letters" "_law_letters" sLLets (He.ga K "_law_letters") fd27 := fun_of F27
  have g27 := (He.glo_ok X G (c.t.d.fact 28 (f := .glo "_law_letters") rfl))
  have b27 := F27.binds (ps := ["_law_term"]) fun _ _ _ _ _ _ us hl => match us, hl with | [_], _ => rfl
  obtain ⟨fd28, F28⟩ := c.t.d.def_ 29 (d := d29) rfl
  replace F28 : Fun K "_law_fault" "_law_fault" sFault (He.ga K "_law_fault") fd28 := fun_of F28
  have g28 := (He.glo_ok X G (c.t.d.fact 29 (f := .glo "_law_fault") rfl))
  have b28 := F28.binds (ps := ["_law_term"]) fun _ _ _ _ _ _ us hl => match us, hl with | [_], _ => rfl
  obtain ⟨fd29, F29⟩ := c.t.d.def_ 30 (d := d30) rfl
  replace F29 : Fun K "_law_twist" "_law_twist" sTwist (He.ga K "_law_twist") fd29 := fun_of F29
  have g29 := (He.glo_ok X G (c.t.d.fact 30 (f := .glo "_law_twist") rfl))
  have b29 := F29.binds (ps := ["_law_bag_here", "_law_term", "_law_odd_here"]) fun _ _ _ _ _ _ us hl => match us, hl with | [_, _, _], _ => rfl
  obtain ⟨fd30, F30⟩ := c.t.d.def_ 31 (d := d31) rfl
  replace F30 : Fun K "_law_odd" "_law_odd" sOdd (He.ga K "_law_odd") fd30 := fun_of F30
  have g30 := (He.glo_ok X G (c.t.d.fact 31 (f := .glo "_law_odd") rfl))
  have b30 := F30.binds (ps := ["_law_bag_here"]) fun _ _ _ _ _ _ us hl => match us, hl with | [_], _ => rfl
  obtain ⟨fd31, F31⟩ := c.t.d.def_ 32 (d := d32) rfl
  replace F31 : Fun K "_law_moved" "_law_moved" sMoved (He.ga K "_law_moved") fd31 := fun_of F31
  have g31 := (He.glo_ok X G (c.t.d.fact 32 (f := .glo "_law_moved") rfl))
  have b31 := F31.binds (ps := ["_law_term", "_law_sign", "_law_per"]) fun _ _ _ _ _ _ us hl => match us, hl with | [_, _, _], _ => rfl
  obtain ⟨fd32, F32⟩ := c.t.d.def_ 33 (d := d33) rfl
  replace F32 : Fun K "_law_other_way" "_law_other_way" sOther (He.ga K "_law_other_way") fd32 := fun_of F32
  have g32 := (He.glo_ok X G (c.t.d.fact 33 (f := .glo "_law_other_way") rfl))
  have b32 := F32.binds (ps := ["_law_term"]) fun _ _ _ _ _ _ us hl => match us, hl with | [_], _ => rfl
  obtain ⟨fdmV, FmV⟩ := c.t.d.def_ 34 (d := d34) rfl
  replace FmV : Fun K "__init__" "BadTerm.__init__" sBTm (He.ma K (He.ga K "BadTerm") "__init__") fdmV := fun_of FmV
  have mV := (He.meth_ok (c.t.d.fact 34 (f := .meth "BadTerm" "__init__") rfl))
  have bmV := FmV.binds (ps := ["self", "flaw"]) fun _ _ _ _ _ _ us hl => match us, hl with | [_, _], _ => rfl
  obtain ⟨fdN, FN⟩ := c.t.d.def_ 35 (d := d35) rfl
  replace FN : FunD K "__init__" "NeverError.__init__" (defArgs sNE) (defBody sNE) (defScope sNE) [.str "NeverError", .str "refused"] [] (He.ma K (He.ga K "NeverError") "__init__") fdN := FN
  obtain ⟨dsN, vN, bN⟩ := FN.binds1 (ps := ["self", "word", "message"]) 3 2 (by simp) rfl fun T kV doc pm an cdv ct us its hu hi => match us, hu, its, hi with
    | [_, _, _], _, [_, _], _ => ⟨_, rfl, rfl⟩
  cases vN
  obtain ⟨fdU, FU⟩ := c.t.d.def_ 36 (d := d36) rfl
  replace FU : FunD K "nudged" "nudged" (defArgs sNudged) (defBody sNudged) (defScope sNudged) [] [] (He.ga K "nudged") fdU := FU
  have gU := (He.glo_ok X G (c.t.d.fact 35 (f := .glo "nudged") rfl))
  have NCN := (He.glo_ok X G (c.t.d.fact 36 (f := .glo "NeverError") rfl))
  have NCV := (He.glo_ok X G (c.t.d.fact 37 (f := .glo "BadTerm") rfl))
  have T : Blt mg := ⟨(He.free_ok X G (c.t.d.fact 38 (f := .free "isinstance") rfl)), (He.free_ok X G (c.t.d.fact 39 (f := .free "list") rfl)), (He.free_ok X G (c.t.d.fact 40 (f := .free "tuple") rfl)), (He.free_ok X G (c.t.d.fact 41 (f := .free "len") rfl)), (He.free_ok X G (c.t.d.fact 42 (f := .free "all") rfl)), (He.free_ok X G (c.t.d.fact 43 (f := .free "range") rfl)), (He.free_ok X G (c.t.d.fact 44 (f := .free "bool") rfl)), (He.free_ok X G (c.t.d.fact 45 (f := .free "int") rfl)), (He.free_ok X G (c.t.d.fact 46 (f := .free "str") rfl)), (He.free_ok X G (c.t.d.fact 47 (f := .free "abs") rfl))⟩
  have Co : Consts K mg (He.ga K "OF_TWO") := ⟨(He.int_ok X G (c.t.d.fact 48 (f := .int "MOST_PARTS" 24) rfl)), (He.int_ok X G (c.t.d.fact 49 (f := .int "MOST_LETTERS" 4) rfl)), (He.int_ok X G (c.t.d.fact 50 (f := .int "MOST_DEEP" 4) rfl)), (He.int_ok X G (c.t.d.fact 51 (f := .int "MOST_SIGNS" 6) rfl)), (He.str_ok X G (c.t.d.fact 52 (f := .str "SMALL_LETTERS" "abcdefghijklmnopqrstuvwxyz") rfl)), (He.int_ok X G (c.t.d.fact 53 (f := .int "TOO_GREAT" (10 ^ 12)) rfl)), (He.glo_ok X G (c.t.d.fact 54 (f := .glo "OF_TWO") rfl)), (He.tupB_ok (allB_at c.more 2 (f := tupN "OF_TWO" [.str "plus",.str "less",.str "times"]) rfl))⟩
  have RM : Errs K mg (He.ga K "NeverError") (He.ga K "BadTerm") (He.ma K (He.ga K "NeverError") "__init__") (He.ma K (He.ga K "BadTerm") "__init__") := { oex := (oexB_ok (allB_at c.more 3 (f := oexB "BadTerm") rfl)), xf := (xfK_ok (allB_at c.more 4 (f := xfK "BadTerm") rfl)), word := (He.noat_ok (c.t.d.fact 55 (f := .noat "BadTerm" "word") rfl)), flaw := (He.noat_ok (c.t.d.fact 56 (f := .noat "BadTerm" "flaw") rfl)), gC := NCV, gN := NCN, iC := mV.at_, tI := (fnT_ok (allB_at c.more 5 (f := fnT "BadTerm" "__init__") rfl)), rd := ⟨(readB_ok (allB_at c.more 6 (f := readB "NeverError") rfl)).1, (readB_ok (allB_at c.more 6 (f := readB "NeverError") rfl)).2⟩, cv := ⟨(initB_ok (allB_at c.more 7 (f := initB "NeverError") rfl)), rfl⟩, kp := FN.kp, hit := (He.exm_ok (c.t.d.fact 57 (f := .exm "BadTerm" "BadTerm" true) rfl)) }
  obtain ⟨B0, hB0, hB1⟩ := kwShareB_ok (allB_at c.more 0 (f := kwShareB (fun K => He.ga K "nudged") "by" 1 1) rfl)
  obtain ⟨B1, oneB⟩ := shareB_ok hB1
  obtain ⟨N1, notB⟩ := shareB_ok (allB_at c.more 1 (f := (fun K => shareB K (He.ga K "NOTHING") 0 1)) rfl)
  have FU2 := FunD.kw FU hB0
  obtain ⟨dsU, vU, bU⟩ := FU2.binds0 (ps := ["term", "letter", "by"]) 2 (by simp) rfl fun D doc pm an cdv ct us ks hu hk => match us, hu, ks, hk with
    | [_, _], _, [_], _ => ⟨_, _, _, _, _, _, rfl, rfl, rfl⟩
  have gNo := (He.glo_ok X G (c.t.d.fact 58 (f := .glo "NOTHING") rfl))
  have M0 := (He.int_ok X G (c.t.d.fact 59 (f := .int "LONG" 6000) rfl))
  have mx := (He.free_ok X G (c.t.d.fact 60 (f := .free "max") rfl))
  refine lawAtL lL cL hC tL nL X (fun base hTB => ?_)
  have GN := ok_NE (P := l.prog) (w := w) (mg := mg) (base := base) (k := 0) FN (He.free_ok X G (c.t.d.fact 61 (f := .free "ValueError") rfl)) (initT_ok (allB_at c.more 8 (f := initT "ValueError" "ValueError.__init__") rfl))
  have GM := ok_BTm FmV RM GN bN
  have cG := cal (ok_gcd (P := l.prog) (w := w) (base := base) (k := 0) F0 T.abs M0) g0 F0.kp b0
  have cNu := cal (ok_num (P := l.prog) (w := w) (base := base) (k := 0) F1 T) g1 F1.kp b1
  have cNF := cal (ok_numF (P := l.prog) (w := w) (base := base) (k := 0) F1 T) g1 F1.kp b1
  have cIS := cal (ok_isSh F2 T Co cNu cG) g2 F2.kp b2
  have cSF := cal (ok_shF F2 T Co cNF cG) g2 F2.kp b2
  have cIL := cal (ok_isLe (P := l.prog) (w := w) (base := base) (k := 0) F3 T Co) g3 F3.kp b3
  have cLF := cal (ok_leF (P := l.prog) (w := w) (base := base) (k := 0) F3 T Co) g3 F3.kp b3
  have cB2 := cal (ok_built2 F4 T Co cIS cIL) g4 F4.kp b4
  have cBW := cal (FnOk.imp (FnOk.or (ok_built F4 T Co cIS cIL) (FnOk.or (ok_buN F4 T Co) (ok_buF F4 T Co cSF cLF))) buW_of) g4 F4.kp b4
  have cTh := cal (ok_things (P := l.prog) (w := w) (base := base) (k := 0) F5) g5 F5.kp b5
  have cTW := cal (FnOk.imp (FnOk.or (ok_things (P := l.prog) (w := w) (base := base) (k := 0) F5) (ok_thN F5)) thW_of) g5 F5.kp b5
  have cFl := cal (ok_flaw F6 T mx Co cB2 cTh) g6 F6.kp b6
  have cFW := cal (ok_flawW F6 T mx Co cBW cTW) g6 F6.kp b6
  have cNX : CalX l.prog w K mg base 5 "need_term" (spNeedX (He.ga K "BadTerm")) [] := ⟨_, _, _, _, ok_needX F7 RM GM bmV cFl, g7, F7.kp, b7, .nil⟩
  have cNd : CalX l.prog w K mg base 5 "need_term" (spNd K (He.ga K "BadTerm")) [] := ⟨_, _, _, _, FnOk.or (ok_needX F7 RM GM bmV cFl) (ok_needW F7 RM GM bmV cFW), g7, F7.kp, b7, .nil⟩
  have cTo : CalX l.prog w K mg base 6 "told_of" (spTold (He.ga K "BadTerm")) [] := ⟨_, _, _, _, ok_told F8 cNX, g8, F8.kp, b8, .nil⟩
  have cTu := cal (ok_turn F10 g10 b10 cTh 9) g10 F10.kp b10
  have cNg := cal (ok_nudge (P := l.prog) (w := w) (base := base) F9 g9 b9 gNo (fun H => notB H) 9) g9 F9.kp b9
  have fU := ok_nudged (by decide) (by decide) FU cNd cTo cNg
  have NU : Nud l.prog w K mg base (He.ga K "BadTerm") B0 B1 (He.ga K "nudged") fdU := {
    dfl := ⟨_, _, _, _, fU, gU, FU.kp, bU, vU⟩
    fn := fU
    gN := gU
    kp := FU.kp
    kb := kbn_nudged FU
    one := fun H => oneB H }
  have cP := cal (ok_pull (P := l.prog) (w := w) (base := base) (k := 0) F13 T.len) g13 F13.kp b13
  have cO := cal (ok_of F14 cP T.len) g14 F14.kp b14
  have cLG := cal (ok_law_gcd (P := l.prog) (w := w) (base := base) (k := 0) F17 T.abs) g17 F17.kp b17
  have cF := cal (ok_law_fr F18 cLG) g18 F18.kp b18
  have cLi := cal (ok_light8 F19 cF cP) g19 F19.kp b19
  have cLe := cal (ok_leaf F21 cLi cP cO) g21 F21.kp b21
  have cIn := cal (ok_inner (P := l.prog) (w := w) (base := base) (k := 0) F23) g23 F23.kp b23
  have cLC := cal (ok_lcount F24 g24 b24 (He.free_ok X G (c.t.d.fact 62 (f := .free "sum") rfl)) cIn 130) g24 F24.kp b24
  have cAP := cal (ok_allP F26 g26 b26 cIn 24) g26 F26.kp b26
  have cLL := cal (ok_llets (n := 24) F27 (He.free_ok X G (c.t.d.fact 63 (f := .free "sorted") rfl)) (He.free_ok X G (c.t.d.fact 64 (f := .free "set") rfl)) cAP) g27 F27.kp b27
  have cLD := cal (ok_ldepth F25 g25 b25 mx T.int cIn 130) g25 F25.kp b25
  have GC : Calls l.prog w K mg base (He.ga K "BadTerm") := {
    bag := cal (ok_bag (k := 0) F12 T.lst) g12 F12.kp b12
    pull := cP
    pick := cO
    light := cLi
    abc := cal (ok_abc F20 T.len T.rng cP cO) g20 F20.kp b20
    drawn := cal (ok_drawn F22 g22 b22 cLe cP 9) g22 F22.kp b22
    moved := cal (ok_moved (P := l.prog) (w := w) (base := base) F31 g31 b31 9) g31 F31.kp b31
    fault := cal (ok_fault (n := 130) (by decide) F28 T.len cLC (by decide) cLL cLD) g28 F28.kp b28
    same := cal (ok_same F15 g15 b15 T 132) g15 F15.kp b15
    other := cal (ok_other F32 g32 b32 T.tup 9) g32 F32.kp b32
    twist := cal (ok_twist F29 g29 b29 T.len cIn cP 9) g29 F29.kp b29
    odd := cal (ok_odd F30 cO) g30 F30.kp b30
    turned := ⟨_, _, _, _, ok_turned (by decide) (by decide) F11 cNd cTo cTu, g11, F11.kp, b11, .nil⟩ }
  exact ok_law lL cL GC NU T RM F16 g16 hTB
end
end Nv

open PySem PySem.W PySem.Calls PyProof.Rows
set_option maxRecDepth 100000 in
set_option maxHeartbeats 0 in
theorem PySem.Challenge.cw_nevernought_k40_reckonings_nudged_and_tu_holds : PySem.Challenge.rw_nevernought_k40_reckonings_nudged_and_tu.Holds := by
  w_on; o_law
  refine HandSHeadRun.head_any (r := (OpenLaw.row PySem.Challenge.rw_nevernought_k40_reckonings_nudged_and_tu)) (q := view (OpenLaw.row PySem.Challenge.rw_nevernought_k40_reckonings_nudged_and_tu).prog [71]) (H := Nv.hk) (ob := Nv.hOb) (M := 9500) (loose := Nv.hNm) (d := HandSHeadRun.topDef (OpenLaw.row PySem.Challenge.rw_nevernought_k40_reckonings_nudged_and_tu).prog 71) (kwd := []) Nv.hOb_eq
    (by kernel_rfl) (fun s => by kernel_rfl) Nv.hRun (by kernel_rfl) (by kernel_rfl) (by kernel_rfl) (by rfl) (by first | assumption | decide +kernel) (by decide +kernel) ⟨rfl, rfl, rfl, rfl, rfl, by decide +kernel⟩ ?hw ?hc
  case hw => w_witness2
  case hc =>
    refine LamX.walk_ofTsE (l := PySem.Challenge.rw_nevernought_k40_reckonings_nudged_and_tu) (n := 63) (k := 141) (x := "_law_script") (CX := fun _ => L2.CX0) rfl (by decide) (by kernel_rfl) ⟨rfl, by decide, by decide⟩ ?F (fun _ _ _ _ _ z => z)
    intro w mg fa h Y G hmg0
    obtain ⟨K, KX, c⟩ := Y
    have hmg : mg ("law" : PySem.Str) = some (.ref fa) := by
      have e : (HandSHeadRun.topDef (OpenLaw.row PySem.Challenge.rw_nevernought_k40_reckonings_nudged_and_tu).prog 71).name = ("law" : PySem.Str) := by kernel_rfl
      rw [← e]
      exact hmg0
    exact ⟨K, KX, Nv.all_mk KX G hmg c⟩

