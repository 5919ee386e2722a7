import PyProof.Rows.All
import Wide.All
import OpenK.AllK
import Wide.FinOn
import HandS.ForMost
import HandS.ForExc
import HandS.ExcInit
import HandS.ExcField
import HandS.TryMany
import HandS.ClsMeth
import HandS.Lambda
import HandS.IsInst
import HandS.Wide
import HandS.Flow
import HandS.Defaults
import HandS.Set
import HandS.Comp
import HandS.SetBool
import HandS.TupSets
import HandS.Codes
import HandS.EndTab
import HandS.NoneIn
import HandS.WideBits
import HandS.FStr
import HandS.Iter
import HandS.Walk
import HandS.Dict
import HandS.Star
import HandS.More
import HandS.DictComp
import HandS.ExcInitHot
import HandS.MapJoin
import HandS.Rev
import PyProof.StrOps2
import HandS.StrMore
import HandS.SuiteRaise
import HandS.List
import PyProof.Rows.StrMeet
import HandS.Style
import PyProof.ListStr
import HandS.Deep
import KE.KExcInit
import PyProof.ExcBaseAll.LookupError
import HandS.Words
import HandS.Head0
import HandS.Head1
import HandS.Head2
import HandS.HeadEnd
import HandS.HeadHook1
import HandS.HeadHook2
import HandS.HeadHook3
import HandS.HeadHook4
import HandS.HeadWalk
import PySem.Challenge.RW_nevernought_k11_whole_texts_refused_at_t
set_option Elab.async false
set_option linter.all false
/-! Whole numbers: the greatest common divisor and fractions in lowest terms. -/
namespace Nv
theorem gcd_step (a b : Int) : Int.gcd b (a.fmod b) = Int.gcd a b := by
  rw [Int.fmod_def, Int.mul_comm, Int.gcd_sub_mul_right_right, Int.gcd_comm]
theorem fmod_small (a : Int) {b : Int} (hb : b ≠ 0) : (a.fmod b).natAbs < b.natAbs := by
  have h1 := Int.emod_nonneg a hb
  have h2 := Int.emod_lt a hb
  rw [Int.fmod_eq_emod]
  split
  · omega
  · rename_i h
    have hn : ¬ b ∣ a := fun d => h (.inr d)
    have hz : a % b ≠ 0 := fun z => hn (Int.dvd_of_emod_eq_zero z)
    omega
theorem gcd_zero (a : Int) : (if a < 0 then -a else a) = ((Int.gcd a 0 : Nat) : Int) := by
  rw [Int.gcd_zero_right]
  split <;> omega
/-- what both numbers are divided by -/
def per (t b : Int) : Int := if b < 0 then -((Int.gcd t b : Nat) : Int) else ((Int.gcd t b : Nat) : Int)
def frT (t b : Int) : Int := t.fdiv (per t b)
def frB (t b : Int) : Int := b.fdiv (per t b)
theorem gcd_pos (t : Int) {b : Int} (hb : b ≠ 0) : 0 < Int.gcd t b := Int.gcd_pos_of_ne_zero_right t hb
theorem per_ne (t : Int) {b : Int} (hb : b ≠ 0) : per t b ≠ 0 := by
  have := gcd_pos t hb
  unfold per
  split <;> omega
theorem per_le (t : Int) {b : Int} (hb : b ≠ 0) : (per t b).natAbs ≤ b.natAbs := by
  have := Int.gcd_le_natAbs_right t hb
  unfold per
  split <;> omega
theorem per_dvd_l (t b : Int) : per t b ∣ t := by
  unfold per
  split
  · exact Int.neg_dvd.mpr (Int.gcd_dvd_left t b)
  · exact Int.gcd_dvd_left t b
theorem per_dvd_r (t b : Int) : per t b ∣ b := by
  unfold per
  split
  · exact Int.neg_dvd.mpr (Int.gcd_dvd_right t b)
  · exact Int.gcd_dvd_right t b
theorem fdiv_mul {x d : Int} (h : d ∣ x) : x.fdiv d * d = x := by
  rw [Int.fdiv_eq_ediv_of_dvd h]
  exact Int.ediv_mul_cancel h
theorem abs_le_of_mul {q d x : Int} (hd : d ≠ 0) (e : q * d = x) : q.natAbs ≤ x.natAbs := by
  rw [← e, Int.natAbs_mul]
  exact Nat.le_mul_of_pos_right _ (by omega)
theorem frT_le (t : Int) {b : Int} (hb : b ≠ 0) : (frT t b).natAbs ≤ t.natAbs := abs_le_of_mul (per_ne t hb) (fdiv_mul (per_dvd_l t b))
theorem frB_le (t : Int) {b : Int} (hb : b ≠ 0) : (frB t b).natAbs ≤ b.natAbs := abs_le_of_mul (per_ne t hb) (fdiv_mul (per_dvd_r t b))
theorem frB_pos (t : Int) {b : Int} (hb : b ≠ 0) : 0 < frB t b := by
  have e : frB t b * per t b = b := fdiv_mul (per_dvd_r t b)
  have hp := per_ne t hb
  have hg := gcd_pos t hb
  rcases Int.lt_or_lt_of_ne hb with h | h
  · have hn : per t b < 0 := by unfold per; rw [if_pos h]; omega
    rcases Int.lt_trichotomy (frB t b) 0 with q | q | q
    · have := Int.mul_pos_of_neg_of_neg q hn
      omega
    · rw [q, Int.zero_mul] at e
      omega
    · exact q
  · have hn : 0 < per t b := by unfold per; rw [if_neg (by omega)]; omega
    rcases Int.lt_trichotomy (frB t b) 0 with q | q | q
    · have := Int.mul_neg_of_neg_of_pos q hn
      omega
    · rw [q, Int.zero_mul] at e
      omega
    · exact q
theorem per_one (t : Int) : per t 1 = 1 := by
  unfold per
  rw [if_neg (by omega), Int.gcd_one_right]
  rfl
theorem frT_one (t : Int) : frT t 1 = t := by
  unfold frT
  rw [per_one, Int.fdiv_one]
theorem frB_one (t : Int) : frB t 1 = 1 := by
  unfold frB
  rw [per_one, Int.fdiv_one]
end Nv

set_option maxRecDepth 100000
set_option maxHeartbeats 4000000
/-! Rules that the layer lacks: great divisors of either sign, an own exception made without arguments, a def read off an own class and called, several except clauses with names. -/
namespace Nv
open PySem PySem.Spec PyProof.Rows L2
section
variable {X : Cx}
def DivOk (_ j : Int) : Prop := j ≠ 0 ∧ j.natAbs < 2 ^ 8000
theorem op_div : OpR X (binaryOp .FloorDiv) (rI DivOk fun i j => .int (i.fdiv j)) :=
  opI fun _ _ _ _ _ _ _ hc q => floordiv_int hc.1 q (.inl (PyProof.noPylong_of_log2 (Nat.lt_trans (PySem.Flt.log2_lt_of (by decide) hc.2) (by decide))))
/-- C.m(a, ..): the class at C holds the def g under m -/
theorem pe_clsdef {CX : CXT} {k : Nat} {C g : Addr} {mc : Value} {fd : FuncData} {ps : List Str} {sp : Sp} {ds : List Value} {dvs : List V} {E : XK} {o e : Expr} {es : List Expr} {m : Str} {pos apos : Pos} {ta : TE} {t : TA} {pl : Sem Bool}
    (ho : PE X o ta) (rd : ClX.CRead X.K C mc) (cv : ClX.CVal X.K C mc m (.ref g) (.ref g)) (kp : PySem.W.keepIn X.K (.ref g) = true)
    (G : FnOk X.prog X.w X.K X.mg X.base CX k g fd ps sp) (hr : Room k X.A) (hb : Binds X.K fd ps ds) (hd : Vals dvs ds) (hx : Passes CX X E) (ha : PA X (e :: es) t)
    (hst : starEach (e :: es) X.env = (false, eval e X.env) :: starEach es X.env := by rfl) (hpl : (backTo pos (starEach es X.env)).any (·.1) = false := by rfl)
    (ht : eval (.Call (.Attribute o m apos) (e :: es) [] pos) X.env = (do
      let cv ← eval o X.env
      standAt apos.atName
      let (fn, before) ← holding [cv] (getMethod cv m pl)
      callWith pos fn before (backTo pos (starEach (e :: es) X.env)) (backToKw pos (keywordEach [] X.env))) := by rfl) :
    PE X (.Call (.Attribute o m apos) (e :: es) [] pos) (fun σ H Q => ta σ H fun x H1 => x = .ref C ∧ t σ H1 fun vs H2 => sp (vs ++ dvs) H2 Q E) := by
  refine ⟨fun pins s σ H Q I h => ?_⟩
  refine PySem.W.methodCall_KW (pl := pl) (thn (ho.run pins s σ H _ I h) fun u s1 hh => ?_) ht
  obtain ⟨x, H1, I1, rx, ex, q⟩ := hh
  subst ex
  obtain rfl : u = Value.ref C := rx
  refine PySem.W.method_cls I1.kIn rd.ga (ClX.getcval_ok I1 rd cv fun s2 I2 => ?_)
  refine PySem.W.callWith_K (first := []) (h₀ := X.base) I.ok.mod.kin kp (thn (ha.run pos pins s2 σ H1 _ I2 q) fun us s3 hh => ?_) hst hpl
  obtain ⟨vs, H2, I3, rv, q2⟩ := hh
  exact ⟨I3.kIn, run_fn G hr hb hd hx I3 rv q2⟩
/-- C(), an own exception whose __init__ is a def -/
theorem pmk_bare {CX : CXT} {x : Str} {C g : Addr} {k : Nat} {fd : FuncData} {ps : List Str} {sp : Sp} {p pos : Pos} (T : OexC X.K C) (hi : PySem.W.findIn X.K (.ref C) "__init__" = some (some (.ref g)))
    (hti : PySem.W.typeIn X.K (.ref g) = some (.type "function")) (G : FnOk X.prog X.w X.K X.mg X.base CX k g fd ps sp) (hr : Room (k + 1) X.A) (hb : Binds X.K fd ps []) (hx : Passes CX X (fun _ _ _ => False))
    (hg : Gl X x) (hm : X.mg x = some (.ref C)) (hdb : (x == ("__debug__" : Str)) = false := by decide) : PMk X (.Call (.Name x p) [] [] pos) (tMkO C sp [] tNil) := by
  intro pins s σ H Q I h
  obtain ⟨nm, qn, N, bs, bm, sn, sub, ab, col, dd, a0, a1, a2, a3, a5, hC, hbm⟩ := T.cls
  refine wpAny_Call_Name_kw (ld_glob I hg hm ?_ hdb)
  refine PySem.W.callWith_K0 I.kIn T.kC ?_
  obtain ⟨hp, gs, dr, tk, os⟩ := s
  have up : hp.objs.size ≤ hp.objs.size + 1 := Nat.le_succ _
  have fresh : H (hp.objs.size + 1) = none := I.hok.fresh up
  have said := h.2 (hp.objs.size + 1) fresh
  have keep : ∀ b o, hp.get? b = some o → ((hp.push (PySem.W.kdv_tup [])).push (PySem.HandSPX.excO C hp.objs.size)).get? b = some o :=
    fun b o z => Heap.get?_push_of_some _ (Heap.get?_push_of_some _ z)
  have here : ((hp.push (PySem.W.kdv_tup [])).push (PySem.HandSPX.excO C hp.objs.size)).get? (hp.objs.size + 1) = some (PySem.HandSPX.excO C hp.objs.size) := by heap_get
  have I2 := I.laid (t' := tk) (a := hp.objs.size + 1) (o := exo (hp.objs.size + 1) C none) (h' := (hp.push (PySem.W.kdv_tup [])).push (PySem.HandSPX.excO C hp.objs.size)) keep up (exo_ok here)
  have one : Vals [V.ref (hp.objs.size + 1)] [Value.ref (hp.objs.size + 1)] := .cons rfl .nil
  have many : [Value.ref (hp.objs.size + 1)].length = ps.length := by
    have z := G.len _ _ _ _ said
    exact z
  have run := G.run (X.A.under (.builtin "type.__call__" ⟨[.ref C], []⟩)) X.stack _ _ ⟨[Value.ref (hp.objs.size + 1)], []⟩ [Value.ref (hp.objs.size + 1)] _ _ (fun _ _ _ => False) (hr.make C [] []) (I2.env0.make C [] [])
    (by have z := hb _ [Value.ref (hp.objs.size + 1)] I2.kIn many; exact z) one said
  refine wpAny_call (PySem.HandSPX.call_own F.excBase_ValueError (fun Y => PySem.HandSPX.refsVE_contains Y bm hbm) (I.kIn _ _ hC) (PySem.W.looks_findIn I.kIn hi) (fun self => PySem.W.bind_fn I.kIn self hti) (Nat.zero_le _)
    (codeAny_mono run fun r s' hq => ?_))
  cases r with
  | error er => exact hx pins σ _ _ er s' I2 hq
  | ok fl =>
    cases fl with
    | ret u =>
      obtain ⟨v, H2, os2, bare2, un2, hok2, rv, ev, d, fs, ea, ed, hd1, q2⟩ := hq
      subst ev
      obtain ⟨h2, g2, d2, t2, os'⟩ := s'
      exact ⟨rv, mk_end (raises_own T.exC T.tyC) I up keep un2 hok2 os2 bare2 ea ed hd1 q2⟩
    | next => exact False.elim hq
    | brk => exact False.elim hq
    | cont => exact False.elim hq
end
end Nv

set_option maxRecDepth 100000
set_option maxHeartbeats 4000000
namespace Nv
open PySem PySem.Spec PyProof.Rows L2
/-! Several except clauses, each with a name for what is caught (slot i), for one class or for two in a tuple; nothing leaves the last one that is told of. -/
abbrev Clause := List Value × Nat × (Addr → Value → Option Addr → TS)
def gone (i : Nat) (D : Ends) : Ends := { nx := fun σ H => D.nx (σ.set i none) H, rt := D.rt, bk := fun σ H => D.bk (σ.set i none) H, ct := fun σ H => D.ct (σ.set i none) H }
/-- whether one of the classes is told to match -/
def Hits (K : PySem.W.Frag) (cls : Value) : List Value → Bool → Prop
  | [c], b => PySem.W.exmOne K cls c = some b
  | cs, b => PySem.W.exmAny K cls cs = some b
def wNamed (K : PySem.W.Frag) (D : Ends) : List Clause → WX
  | [] => fun _ _ _ _ => False
  | (cs, i, ts) :: r => fun cls d σ H => ∃ b, Hits K cls cs b ∧ (b = true → ∀ a, H a = none → ts a cls d (gone i D) (σ.set i (some (.ref a))) H) ∧ (b = false → wNamed K D r cls d σ H)
def Suite (X : Cx) (ts : Addr → Value → Option Addr → TS) (sts : List Stmt) : Prop :=
  ∀ (a : Addr) (oe : Obj) (cls : Value) (d : Option Addr) (pn : List (Addr × Obj)), Zc cls d oe → (∃ vs, oe.data = .fields vs) → PSs (X.suite a ((a, oe) :: pn)) sts (ts a cls d)
inductive Named (X : Cx) : List ExceptHandler → List Clause → Prop
  | stop {hds : List ExceptHandler} : Named X hds []
  | one {x n : Str} {c : Value} {i : Nat} {ts : Addr → Value → Option Addr → TS} {st : Stmt} {sts : List Stmt} {q1 q2 : Pos} {hds : List ExceptHandler} {cl : List Clause} (hi : X.N[i]? = some n) (hl : X.env.kindOf n = some .local) (hc : Names X x c)
      (su : Suite X ts (st :: sts)) (r : Named X hds cl) : Named X (.ExceptHandler (some (.Name x q1)) (some n) (st :: sts) q2 :: hds) (([c], i, ts) :: cl)
  | two {x y n : Str} {c e : Addr} {i kt : Nat} {ts : Addr → Value → Option Addr → TS} {st : Stmt} {sts : List Stmt} {q1 q2 q3 qt : Pos} {hds : List ExceptHandler} {cl : List Clause} (hi : X.N[i]? = some n) (hl : X.env.kindOf n = some .local)
      (gx : Gl X x) (dx : (x == ("__debug__" : Str)) = false) (hx : X.mg x = some (.ref c)) (gy : Gl X y) (dy : (y == ("__debug__" : Str)) = false) (hy : X.mg y = some (.ref e))
      (su : Suite X ts (st :: sts)) (r : Named X hds cl) : Named X (.ExceptHandler (some (.Tuple [.Name x q1, .Name y q3] kt qt)) (some n) (st :: sts) q2 :: hds) (([.ref c, .ref e], i, ts) :: cl)
  | three {x y z n : Str} {c e g : Addr} {i kt : Nat} {ts : Addr → Value → Option Addr → TS} {st : Stmt} {sts : List Stmt} {q1 q2 q3 q4 qt : Pos} {hds : List ExceptHandler} {cl : List Clause} (hi : X.N[i]? = some n) (hl : X.env.kindOf n = some .local)
      (gx : Gl X x) (dx : (x == ("__debug__" : Str)) = false) (hx : X.mg x = some (.ref c)) (gy : Gl X y) (dy : (y == ("__debug__" : Str)) = false) (hy : X.mg y = some (.ref e)) (gz : Gl X z) (dz : (z == ("__debug__" : Str)) = false) (hz : X.mg z = some (.ref g))
      (su : Suite X ts (st :: sts)) (r : Named X hds cl) : Named X (.ExceptHandler (some (.Tuple [.Name x q1, .Name y q3, .Name z q4] kt qt)) (some n) (st :: sts) q2 :: hds) (([.ref c, .ref e, .ref g], i, ts) :: cl)
section
variable {X : Cx} {body : List Stmt} {hd : ExceptHandler} {hds : List ExceptHandler} {cl : List Clause} {pos : Pos} {tb : WX → TS}
theorem fly_keep {B h h' : Heap} {l : List Env} {a : Addr} {Z : Obj → Prop} (k : ∀ b o, h.get? b = some o → h'.get? b = some o) (fl : HandSPX.FlyingZ B l a Z h) : HandSPX.FlyingZ B l a Z h' := by
  obtain ⟨f1, f2, f3, oe, vs, T, oT, ts, g1, g2, g3, g4, g5, g6, g7, g8, g9⟩ := fl
  exact ⟨fun b o e => k b o (f1 b o e), f2, Heap.FunFrames.of_keeps (fun b o e _ => ⟨o, k b o e, rfl⟩) f3, oe, vs, T, oT, ts, k _ _ g1, g2, g3, g4, g5, g6, k _ _ g7, g8, g9⟩
/-- what stands when an exception has come down to the clauses -/
structure Down (X : Cx) (pins : List (Addr × Obj)) (σ : L2.St) (H : Hp) (a : Addr) (cls : Value) (d : Option Addr) (s : Shared) : Prop where
  free : H a = none
  loc : a ≠ X.env.locals
  frm : a ∉ X.fs
  fly : ∃ (B : Heap) (sI : Shared), Inv X pins σ H sI ∧ (∀ b o, sI.heap.get? b = some o → b ∉ frs X.stack → B.get? b = some o) ∧ sI.heap.UpToSlots s.heap ∧ HandSPX.FlyingZ B (X.env :: X.outer) a (Zc cls d) s.heap ∧ s.os = sI.os ∧ AllBare s.gens
theorem Down.keep {pins : List (Addr × Obj)} {σ : L2.St} {H : Hp} {a : Addr} {cls : Value} {d : Option Addr} {s : Shared} {h' : Heap} (Z : Down X pins σ H a cls d s) (k : ∀ b o, s.heap.get? b = some o → h'.get? b = some o) : Down X pins σ H a cls d { s with heap := h' } := by
  obtain ⟨B, sI, J, nb, up, fl, os, ag⟩ := Z.fly
  exact ⟨Z.free, Z.loc, Z.frm, B, sI, J, nb, up.trans (.of_keeps k), fly_keep k fl, os, ag⟩
theorem handle (hf : X.env.frame = some X.env.locals) (nd : X.N.Nodup) {pins : List (Addr × Obj)} {σ : L2.St} {H : Hp} {a : Addr} {cls : Value} {d : Option Addr} {D : Ends} (ok : X.Ok) :
    ∀ {hds : List ExceptHandler} {cl : List Clause}, Named X hds cl → ∀ {s : Shared}, Down X pins σ H a cls d s → wNamed X.K D cl cls d σ H → wpAny (model X.prog X.w) X.A (handleBy (.ref a) X.env hds) (SP X pins D) X.xe s := by
  intro hds cl hk
  induction hk with
  | stop => intro s Z w; exact w.elim
  | @one x n c i ts st sts q1 q2 hds2 cl2 hi hl hc su r ih =>
    intro s Z w
    obtain ⟨b, hb1, yes, no⟩ := w
    obtain ⟨B, sI, J, nb, up, fl, os, ag⟩ := Z.fly
    obtain ⟨oe, vs, he, hz, hdt⟩ := fl.there
    have I3 : Inv X pins σ H s := J.landed nb fl.1 up os ag
    have S3 := I3.suite he hdt Z.free Z.loc Z.frm
    refine wpAny_handleBy_cons (codeAny_handlers_test ?_) (by intro q; cases q)
    have kind : PySem.W.Looks (model X.prog X.w) s.heap (typeOf (.ref a)) cls := fun A Q E s k q => wpAny_typeOf_ref (k _ _ he) (by rw [hz.1]; exact q)
    have hit := PySem.W.exm_one (M := model X.prog X.w) I3.kIn kind hb1
    have named : ∀ {Q : Value → Shared → Prop} {E : Value → Shared → Prop}, Q c s → wpAny (model X.prog X.w) (X.A.mark (some (.ref a))) (eval (.Name x q1) X.env) Q E s := fun {Q E} q => by
      obtain ⟨hg, hdbg, hm | ⟨hm, hv, hnn⟩⟩ := hc
      · exact ld_glob (X := X.suite a ((a, oe) :: (X.pn ++ pins))) S3 hg hm q hdbg
      · exact ld_blt (X := X.suite a ((a, oe) :: (X.pn ++ pins))) S3 hg hm hv q hnn hdbg
    refine named (hit.here ?_)
    cases b with
    | false => exact ih Z (no rfl)
    | true =>
      refine codeAny_handlers_suite_as ?_
      refine HandSPX.lands_againZ fl fun h4 fl4 up4 => ?_
      have J4 : Inv X pins σ H { s with heap := h4 } := J.landed nb fl4.1 (up.trans up4) os ag
      obtain ⟨oe4, vs4, he4, hz4, hd4⟩ := fl4.there
      have S4 := J4.suite he4 hd4 Z.free Z.loc Z.frm
      refine store_ok (X := X.suite a ((a, oe4) :: (X.pn ++ pins))) (v := .ref a) S4 nd hi (.inl hl) rfl (fun s5 S5 => ?_) (.inr hl)
      refine wpAny_mono ((su a oe4 cls d (X.pn ++ pins) hz4 ⟨_, hd4⟩).run [] s5 _ H _ S5 (yes rfl a Z.free)) (fun f s6 hsp => ?_) (fun _ _ z => False.elim z)
      have unname : ∀ {σ6 : L2.St} {H6 : Hp} {Q : Shared → Prop}, Inv (X.suite a ((a, oe4) :: (X.pn ++ pins))) [] σ6 H6 s6 → (∀ s7, Inv X pins (σ6.set i none) H6 s7 → Q s7) →
          wpAny (model X.prog X.w) X.A (do bindName X.env n .none; unbindBehindTheSuite X.env n q2) (fun _ s7 => Q s7) X.xe s6 := fun S6 hq => gone_ok (S6.unsuite ok) nd hi hl hq
      cases f with
      | ret u =>
        obtain ⟨v6, σ6, H6, S6, r6, q6⟩ := hsp
        exact unname S6 fun s7 J7 => ⟨_, _, _, J7, r6, q6⟩
      | next =>
        obtain ⟨σ6, H6, S6, q6⟩ := hsp
        exact unname S6 fun s7 J7 => ⟨_, _, J7, q6⟩
      | brk =>
        obtain ⟨σ6, H6, S6, q6⟩ := hsp
        exact unname S6 fun s7 J7 => ⟨_, _, J7, q6⟩
      | cont =>
        obtain ⟨σ6, H6, S6, q6⟩ := hsp
        exact unname S6 fun s7 J7 => ⟨_, _, J7, q6⟩
  | @two x y n c e i kt ts st sts q1 q2 q3 qt hds2 cl2 hi hl gx dx hx gy dy hy su r ih =>
    intro s Z0 w
    obtain ⟨b, hb1, yes, no⟩ := w
    have S0 : ∃ oe, Inv (X.suite a ((a, oe) :: (X.pn ++ pins))) [] σ H s := by
      obtain ⟨B, sI, J, nb, up, fl, os, ag⟩ := Z0.fly
      obtain ⟨oe, vs, he, hz, hdt⟩ := fl.there
      exact ⟨oe, (J.landed nb fl.1 up os ag).suite he hdt Z0.free Z0.loc Z0.frm⟩
    obtain ⟨oe0, S0⟩ := S0
    refine wpAny_handleBy_cons (codeAny_handlers_test ?_) (by intro q; cases q)
    refine wpAny_Tuple_spliced (spliced_more (ld_glob (X := X.suite a ((a, oe0) :: (X.pn ++ pins))) S0 gx hx (spliced_more (ld_glob (X := X.suite a ((a, oe0) :: (X.pn ++ pins))) S0 gy hy (spliced_none ⟨(by show 2 ≤ sizeLine; decide), ?_⟩) dy)) dx))
    have Z := Z0.keep (h' := s.heap.push { cls := .type "tuple", data := .seq [Value.ref c, Value.ref e].toArray }) (fun b o z => Heap.get?_push_of_some _ z)
    have there : (s.heap.push { cls := .type "tuple", data := .seq [Value.ref c, Value.ref e].toArray }).get? s.heap.objs.size = some { cls := .type "tuple", data := .seq [Value.ref c, Value.ref e].toArray } := Heap.get?_push_size _ rfl
    obtain ⟨B, sI, J, nb, up, fl, os, ag⟩ := Z.fly
    obtain ⟨oe, vs, he, hz, hdt⟩ := fl.there
    have I3 : Inv X pins σ H _ := J.landed nb fl.1 up os ag
    have kind : PySem.W.Looks (model X.prog X.w) (s.heap.push { cls := .type "tuple", data := .seq [Value.ref c, Value.ref e].toArray }) (typeOf (.ref a)) cls := fun A Q E s k q => wpAny_typeOf_ref (k _ _ he) (by rw [hz.1]; exact q)
    have hit := PySem.W.exm_tup2 (M := model X.prog X.w) I3.kIn kind there hb1
    refine hit.here ?_
    cases b with
    | false => exact ih Z (no rfl)
    | true =>
      refine codeAny_handlers_suite_as ?_
      refine HandSPX.lands_againZ fl fun h4 fl4 up4 => ?_
      have J4 : Inv X pins σ H { s with heap := h4 } := J.landed nb fl4.1 (up.trans up4) os ag
      obtain ⟨oe4, vs4, he4, hz4, hd4⟩ := fl4.there
      have S4 := J4.suite he4 hd4 Z.free Z.loc Z.frm
      refine store_ok (X := X.suite a ((a, oe4) :: (X.pn ++ pins))) (v := .ref a) S4 nd hi (.inl hl) rfl (fun s5 S5 => ?_) (.inr hl)
      refine wpAny_mono ((su a oe4 cls d (X.pn ++ pins) hz4 ⟨_, hd4⟩).run [] s5 _ H _ S5 (yes rfl a Z.free)) (fun f s6 hsp => ?_) (fun _ _ z => False.elim z)
      have unname : ∀ {σ6 : L2.St} {H6 : Hp} {Q : Shared → Prop}, Inv (X.suite a ((a, oe4) :: (X.pn ++ pins))) [] σ6 H6 s6 → (∀ s7, Inv X pins (σ6.set i none) H6 s7 → Q s7) →
          wpAny (model X.prog X.w) X.A (do bindName X.env n .none; unbindBehindTheSuite X.env n q2) (fun _ s7 => Q s7) X.xe s6 := fun S6 hq => gone_ok (S6.unsuite ok) nd hi hl hq
      cases f with
      | ret u =>
        obtain ⟨v6, σ6, H6, S6, r6, q6⟩ := hsp
        exact unname S6 fun s7 J7 => ⟨_, _, _, J7, r6, q6⟩
      | next =>
        obtain ⟨σ6, H6, S6, q6⟩ := hsp
        exact unname S6 fun s7 J7 => ⟨_, _, J7, q6⟩
      | brk =>
        obtain ⟨σ6, H6, S6, q6⟩ := hsp
        exact unname S6 fun s7 J7 => ⟨_, _, J7, q6⟩
      | cont =>
        obtain ⟨σ6, H6, S6, q6⟩ := hsp
        exact unname S6 fun s7 J7 => ⟨_, _, J7, q6⟩
  | @three x y z n c e g i kt ts st sts q1 q2 q3 q4 qt hds2 cl2 hi hl gx dx hx gy dy hy gz dz hzz su r ih =>
    intro s Z0 w
    obtain ⟨b, hb1, yes, no⟩ := w
    have S0 : ∃ oe, Inv (X.suite a ((a, oe) :: (X.pn ++ pins))) [] σ H s := by
      obtain ⟨B, sI, J, nb, up, fl, os, ag⟩ := Z0.fly
      obtain ⟨oe, vs, he, hz, hdt⟩ := fl.there
      exact ⟨oe, (J.landed nb fl.1 up os ag).suite he hdt Z0.free Z0.loc Z0.frm⟩
    obtain ⟨oe0, S0⟩ := S0
    refine wpAny_handleBy_cons (codeAny_handlers_test ?_) (by intro q; cases q)
    refine wpAny_Tuple_spliced (spliced_more (ld_glob (X := X.suite a ((a, oe0) :: (X.pn ++ pins))) S0 gx hx (spliced_more (ld_glob (X := X.suite a ((a, oe0) :: (X.pn ++ pins))) S0 gy hy (spliced_more (ld_glob (X := X.suite a ((a, oe0) :: (X.pn ++ pins))) S0 gz hzz (spliced_none ⟨(by show 3 ≤ sizeLine; decide), ?_⟩) dz)) dy)) dx))
    have Z := Z0.keep (h' := s.heap.push { cls := .type "tuple", data := .seq [Value.ref c, Value.ref e, Value.ref g].toArray }) (fun b o z => Heap.get?_push_of_some _ z)
    have there : (s.heap.push { cls := .type "tuple", data := .seq [Value.ref c, Value.ref e, Value.ref g].toArray }).get? s.heap.objs.size = some { cls := .type "tuple", data := .seq [Value.ref c, Value.ref e, Value.ref g].toArray } := Heap.get?_push_size _ rfl
    obtain ⟨B, sI, J, nb, up, fl, os, ag⟩ := Z.fly
    obtain ⟨oe, vs, he, hz, hdt⟩ := fl.there
    have I3 : Inv X pins σ H _ := J.landed nb fl.1 up os ag
    have kind : PySem.W.Looks (model X.prog X.w) (s.heap.push { cls := .type "tuple", data := .seq [Value.ref c, Value.ref e, Value.ref g].toArray }) (typeOf (.ref a)) cls := fun A Q E s k q => wpAny_typeOf_ref (k _ _ he) (by rw [hz.1]; exact q)
    have hit := PySem.W.exm_tup3 (M := model X.prog X.w) I3.kIn kind there hb1
    refine hit.here ?_
    cases b with
    | false => exact ih Z (no rfl)
    | true =>
      refine codeAny_handlers_suite_as ?_
      refine HandSPX.lands_againZ fl fun h4 fl4 up4 => ?_
      have J4 : Inv X pins σ H { s with heap := h4 } := J.landed nb fl4.1 (up.trans up4) os ag
      obtain ⟨oe4, vs4, he4, hz4, hd4⟩ := fl4.there
      have S4 := J4.suite he4 hd4 Z.free Z.loc Z.frm
      refine store_ok (X := X.suite a ((a, oe4) :: (X.pn ++ pins))) (v := .ref a) S4 nd hi (.inl hl) rfl (fun s5 S5 => ?_) (.inr hl)
      refine wpAny_mono ((su a oe4 cls d (X.pn ++ pins) hz4 ⟨_, hd4⟩).run [] s5 _ H _ S5 (yes rfl a Z.free)) (fun f s6 hsp => ?_) (fun _ _ z => False.elim z)
      have unname : ∀ {σ6 : L2.St} {H6 : Hp} {Q : Shared → Prop}, Inv (X.suite a ((a, oe4) :: (X.pn ++ pins))) [] σ6 H6 s6 → (∀ s7, Inv X pins (σ6.set i none) H6 s7 → Q s7) →
          wpAny (model X.prog X.w) X.A (do bindName X.env n .none; unbindBehindTheSuite X.env n q2) (fun _ s7 => Q s7) X.xe s6 := fun S6 hq => gone_ok (S6.unsuite ok) nd hi hl hq
      cases f with
      | ret u =>
        obtain ⟨v6, σ6, H6, S6, r6, q6⟩ := hsp
        exact unname S6 fun s7 J7 => ⟨_, _, _, J7, r6, q6⟩
      | next =>
        obtain ⟨σ6, H6, S6, q6⟩ := hsp
        exact unname S6 fun s7 J7 => ⟨_, _, J7, q6⟩
      | brk =>
        obtain ⟨σ6, H6, S6, q6⟩ := hsp
        exact unname S6 fun s7 J7 => ⟨_, _, J7, q6⟩
      | cont =>
        obtain ⟨σ6, H6, S6, q6⟩ := hsp
        exact unname S6 fun s7 J7 => ⟨_, _, J7, q6⟩
theorem ps_try_named (hs : X.stack = X.env :: X.outer) (hf : X.env.frame = some X.env.locals) (nd : X.N.Nodup)
    (hb : ∀ (W : WX) (pn : List (Addr × Obj)) (xe : Value → Shared → Prop), Takes (X.tr pn xe) W → PassesOwn (model X.prog X.w) X.A X.env xe → PSs (X.tr pn xe) body (tb W)) (hh : Named X (hd :: hds) cl) :
    PS X (.Try body (hd :: hds) [] [] pos) (fun D σ H => tb (wNamed X.K D cl) D σ H) := by
  refine ⟨fun pins s σ H D I h => ?_⟩
  have ok := I.ok
  have hfr : X.A.frames = some (X.env :: X.outer) := by rw [ok.frames, hs]
  refine wpAny_Try_except ?_
  have inner := hb (wNamed X.K D cl) (X.pn ++ pins) (fun e s₁ => wpAny (model X.prog X.w) X.A (noteFrame e X.env) (fun _ s₂ => wpAny (model X.prog X.w) X.A (setFlight e none) (fun _ s₃ =>
    wpAny (model X.prog X.w) X.A (handleBy e X.env (hd :: hds)) (SP X pins D) X.xe s₃) X.xe s₂) X.xe s₁) (fun u s' xx => by
      obtain ⟨a, B, sI, pins', σ', H', cls, d, rfl, J', nb, up, sky, na, os, ag, w⟩ := xx
      have J : Inv X pins σ' H' sI := J'.ofTry ok
      rw [hs] at sky
      refine Sky.land Zc.steady hfr hf sky fun h3 fl3 up3 => ?_
      obtain ⟨oe3, vs3, he3, hz3, hd3⟩ := fl3.there
      have nfr : a ∉ frs (X.env :: X.outer) := fun hm => by
        obtain ⟨_, o', e', hnf⟩ := fl3.2.2.1.mem hm
        rw [he3] at e'
        cases e'
        exact hnf _ hd3
      refine handle hf nd (D := D) ok hh ⟨na, fun z => nfr (List.mem_filterMap.mpr ⟨X.env, List.mem_cons_self, by rw [hf, z]⟩), fun hm => ?_, B, sI, J, nb, up.trans up3, fl3, os, ag⟩ w
      obtain ⟨e, hin, q⟩ := List.mem_filterMap.mp hm
      exact nfr (List.mem_filterMap.mpr ⟨e, List.mem_cons_of_mem _ hin, q⟩)) PassesOwn.looking
  refine wpAny_mono (inner.run [] s σ H D (I.toTry _) h) (fun f s1 hsp => ?_) (fun e s1 he => he)
  cases f with
  | ret u =>
    obtain ⟨v, σ', H', J', r, q⟩ := hsp
    exact ⟨v, σ', H', J'.ofTry ok, r, q⟩
  | next =>
    obtain ⟨σ', H', J', q⟩ := hsp
    exact wpAny_execs_nil ⟨σ', H', J'.ofTry ok, q⟩
  | brk =>
    obtain ⟨σ', H', J', q⟩ := hsp
    exact ⟨σ', H', J'.ofTry ok, q⟩
  | cont =>
    obtain ⟨σ', H', J', q⟩ := hsp
    exact ⟨σ', H', J'.ofTry ok, q⟩
end
end Nv

set_option maxRecDepth 100000
set_option maxHeartbeats 4000000
/-! Sets of texts: made, added to, comprehended, sorted. -/
namespace NvSet
open PySem PySem.Spec PyProof.Rows L2
/-- the text of a member -/
def txOf (e : Int × Value) : Str := match e.2 with
  | .str x _ => x
  | _ => ""
/-- a member of a set of texts: the text and its hash in this world -/
structure Mem (w : World) (e : Int × Value) : Prop where
  is : ∃ x t, e = (hashStr w x, Value.str x t)
/-- a set that can be walked is so laid -/
structure Walk' (w : World) (tb : SetTable) (n : Nat) : Prop where
  fit : tb.fits n = true
  ris : Ris tb.place.toList
  led : w.params.followText "set-order" = true ∨ tb.led = true
/-- the set of texts at a, its members xs in some order -/
structure Txs (w : World) (h : Heap) (a : Addr) (xs : List Str) : Prop where
  ex : ∃ ob es ep tb, h.get? a = some ob ∧ ob.ExactSet ∧ ob.data = .set es ep tb ∧ (∀ e ∈ es.toList, Mem w e) ∧ (es.toList.map txOf).Perm xs ∧ xs.Nodup ∧ es.size < scanBound ∧ Walk' w tb es.size
/-- a text more -/
def more (x : Str) (xs : List Str) : List Str := if x ∈ xs then xs else x :: xs
section
variable {P : Program} {w : World} {h h' : Heap} {a : Addr} {xs : List Str}
theorem Mem.tx {e : Int × Value} (m : Mem w e) : ∃ t, e.2 = Value.str (txOf e) t ∧ e.1 = hashStr w (txOf e) := by
  obtain ⟨x, t, rfl⟩ := m.is
  exact ⟨t, rfl, rfl⟩
theorem str_is (x : Str) (t : Tok) : (strKind P w).is x (.str x t) = true := by show Value.isStrOf x (.str x t) = true; simp [Value.isStrOf]
theorem mem_elems {l : List (Int × Value)} (g : ∀ e ∈ l, Mem w e) : ElemsOf (strKind P w) l := fun e he => by
  obtain ⟨x, t, rfl⟩ := (g e he).is
  exact ⟨⟨x, str_is x t, rfl⟩, rfl⟩
theorem mem_is {e : Int × Value} (m : Mem w e) (x : Str) : (strKind P w).is x e.2 = true ↔ txOf e = x := by
  obtain ⟨y, t, rfl⟩ := m.is
  constructor
  · intro q
    exact (strKind P w).inj _ _ _ (str_is y t) q
  · rintro rfl
    exact str_is _ t
theorem Txs.keeps (R : Txs w h a xs) (k : ∀ o, h.get? a = some o → h'.get? a = some o) : Txs w h' a xs := by
  obtain ⟨ob, es, ep, tb, h1, r⟩ := R.ex
  exact ⟨ob, es, ep, tb, k ob h1, r⟩
theorem Txs.there (R : Txs w h a xs) : ∃ o, h.get? a = some o := by
  obtain ⟨ob, es, ep, tb, h1, r⟩ := R.ex
  exact ⟨ob, h1⟩
theorem Txs.type {s : Shared} (R : Txs w s.heap a xs) : s.TypeIs (.ref a) "set" := by
  obtain ⟨ob, es, ep, tb, h1, h2, _⟩ := R.ex
  exact ⟨ob, h1, h2.1⟩
theorem Txs.nodict (R : Txs w h a xs) : ∀ b, Value.ref a = .ref b → ∃ ob, h.get? b = some ob ∧ ob.dict = none := fun b e => by
  obtain ⟨ob, es, ep, tb, h1, h2, _⟩ := R.ex
  cases e
  exact ⟨ob, h1, h2.2.1⟩
theorem more_nodup {x : Str} (n : xs.Nodup) : (more x xs).Nodup := by
  unfold more
  split
  · exact n
  · exact List.nodup_cons.mpr ⟨‹_›, n⟩
theorem mem_more {x y : Str} : y ∈ more x xs ↔ y = x ∨ y ∈ xs := by
  unfold more
  split
  · exact ⟨.inr, fun z => z.elim (fun e => e ▸ ‹_›) id⟩
  · exact List.mem_cons
end
section
variable {P : Program} {w : World} {A : Around} {E : Value → Shared → Prop} {s : Shared} {a : Addr} {xs : List Str}
/-- what stands behind a member's laying -/
theorem lay_end {give : Bool → Sem Unit} (hgive : ∀ (b : Bool) (z : Shared) (R : Unit → Shared → Prop), R () z → wpAny (model P w) A (give b) R E z) {ob : Obj} {es fs : Array (Int × Value)} {ep : Nat} {tb tc : SetTable} {ys : List Str} (h1 : s.heap.get? a = some ob) (h2 : ob.ExactSet) (h3 : ob.data = .set es ep tb)
    (m : ∀ e ∈ fs.toList, Mem w e) (pm : (fs.toList.map txOf).Perm ys) (nd : ys.Nodup) (sm : fs.size < scanBound) (wk : Walk' w tc fs.size) {dm : Bool} {G : Option Bool → Shared → Prop}
    (k : ∀ hp, Heap.SameBut a s.heap hp → Txs w hp a ys → G (some true) { s with heap := hp }) :
    wpAny (model P w) A (do
        storeSet a fs tc
        if (!dm && tc.tooFull) = true then do
            give (relayAll tc fs (SetTable.grown fs.size)).2.2
            storeSet a (relayAll tc fs (SetTable.grown fs.size)).1 (relayAll tc fs (SetTable.grown fs.size)).2.1
            pure (some true)
          else pure (some true)) G E s := by
  refine wpAny_bind (wpAny_storeSet_of h1 h3 ?_ (fits_of_scanBound sm))
  have g1 := store_at (es' := fs) (t' := tc) h1 h3
  have u1 := Heap.SameBut.update s.heap a (Obj.putSet fs tc)
  split
  · have r1 := relayAll_perm tc fs (SetTable.grown fs.size)
    have r2 : Walk' w (relayAll tc fs (SetTable.grown fs.size)).2.1 (relayAll tc fs (SetTable.grown fs.size)).1.size := ⟨relayAll_fits tc fs (SetTable.grown fs.size), relayAll_ris tc fs (SetTable.grown fs.size), wk.led.imp id fun z => (relayAll_led tc fs (SetTable.grown fs.size)).trans z⟩
    generalize relayAll tc fs (SetTable.grown fs.size) = Y at r1 r2 ⊢
    obtain ⟨gs, td, gv⟩ := Y
    have z1 : gs.size = fs.size := by simpa using r1.length_eq
    have z2 : gs.size < scanBound := z1 ▸ sm
    refine wpAny_bind (hgive _ _ _ (wpAny_bind (wpAny_storeSet_of g1 rfl ?_ (fits_of_scanBound z2))))
    have g2 := store_at (es' := gs) (t' := td) g1 rfl
    exact wpAny_pure (k _ (u1.trans (Heap.SameBut.update _ a _)) ⟨_, gs, _, td, g2, h2, rfl, fun e he => m e (r1.mem_iff.mp he), (r1.map txOf).trans pm, nd, z2, r2⟩)
  · exact wpAny_pure (k _ u1 ⟨_, fs, _, tc, g1, h2, rfl, m, pm, nd, sm, wk⟩)
theorem add_laid {x : Str} {t : Tok} {Q : Bool → Shared → Prop} (R : Txs w s.heap a xs) (room : xs.length + 1 < scanBound) (k : ∀ hp b, Heap.SameBut a s.heap hp → Txs w hp a (more x xs) → Q b { s with heap := hp }) :
    wpAny (model P w) A (setAddHashed a (.str x t) ((strKind P w).hash x)) Q E s := by
  obtain ⟨ob, es, ep, tb, h1, h2, h3, m, pm, nd, sm, wk⟩ := R.ex
  have kx : (strKind P w).is x (.str x t) = true := str_is x t
  have sc : (Value.str x t).scannable = true := rfl
  have el : ElemsOf (strKind P w) es.toList := mem_elems m
  unfold setAddHashed setAddHashedIn
  refine wpAny_holding (wpAny_bind (wpAny_setState_of h1 h3 wk.fit ?_))
  dsimp only
  rw [byScan_of sc sm el]
  simp only [↓reduceIte]
  unfold setAddByScan
  refine wpAny_bind (wpAny_bind (wpAny_rule (wpAny_bind (wpAny_setScan_of kx h1 h3 wk.fit el ?_))))
  have inn : x ∈ xs ↔ ∃ e ∈ es.toList, (strKind P w).is x e.2 = true := by
    rw [← pm.mem_iff, List.mem_map]
    exact ⟨fun ⟨e, he, q⟩ => ⟨e, he, (mem_is (m e he) x).2 q⟩, fun ⟨e, he, q⟩ => ⟨e, he, (mem_is (m e he) x).1 q⟩⟩
  cases hf : List.findIdx? (fun e => (strKind P w).is x e.2) es.toList with
  | some j =>
    obtain ⟨hj, pj, _⟩ := List.findIdx?_eq_some_iff_getElem.mp hf
    have hx : x ∈ xs := inn.2 ⟨es.toList[j], List.getElem_mem hj, pj⟩
    refine wpAny_pure (wpAny_pure (k s.heap _ (Heap.SameBut.refl a s.heap) ?_))
    unfold more
    rw [if_pos hx]
    exact R
  | none =>
    have hx : x ∉ xs := fun z => by
      obtain ⟨e, he, q⟩ := inn.1 z
      have c := List.findIdx?_eq_none_iff.mp hf e he
      rw [q] at c
      cases c
    have gw : ∀ (b : Bool) {z : Shared} {G : Unit → Shared → Prop}, G () z → wpAny (model P w) A (match b with | true => rule "set.scan.the-table-gave-way" | false => pure ()) G E z :=
      fun b z G q => by cases b <;> first | exact wpAny_pure q | exact wpAny_rule q
    have l1 := layNew_perm tb es ((strKind P w).hash x) (.str x t)
    have l2 := layNew_fits tb es ((strKind P w).hash x) (.str x t)
    have l3 := layNew_ris tb es ((strKind P w).hash x) (.str x t) wk.ris
    have l4 := layNew_led tb es ((strKind P w).hash x) (.str x t)
    generalize layNew tb es ((strKind P w).hash x) (.str x t) = Y at l1 l2 l3 l4 ⊢
    obtain ⟨fs, tc, dm, gv⟩ := Y
    dsimp only at l1 l2 l3 l4 ⊢
    rw [Array.toList_push] at l1
    have pc := l1.trans (List.perm_append_singleton _ _)
    have m2 : ∀ e ∈ fs.toList, Mem w e := fun e he => by
      rcases List.mem_cons.mp (pc.mem_iff.mp he) with z | z
      · exact ⟨x, t, z⟩
      · exact m e z
    have p2 : (fs.toList.map txOf).Perm (more x xs) := by
      unfold more
      rw [if_neg hx]
      exact (pc.map txOf).trans (List.Perm.cons x pm)
    have z1 : fs.size = xs.length + 1 := by
      have := p2.length_eq
      unfold more at this
      rw [if_neg hx] at this
      simpa using this
    have z2 : fs.size < scanBound := z1 ▸ room
    have ld : w.params.followText "set-order" = true ∨ tc.led = true := wk.led.imp id fun z => l4.trans z
    refine wpAny_bind (gw _ ?_)
    split
    · refine wpAny_bind ?_
      rw [hashByValue_scannable 8 sc]
      refine wpAny_pure ?_
      refine lay_end ?_ h1 h2 h3 m2 p2 (more_nodup nd) z2 ?_ ?_
      · intro b z G q; cases b <;> first | exact wpAny_pure q | exact wpAny_rule q
      · split
        · exact ⟨by first | exact SetTable.fits_plain_off l2 | exact l2, l3, ld⟩
        · exact ⟨by first | exact l2 | exact SetTable.fits_plain_off l2, l3, ld⟩
      · intro hp sb r; exact wpAny_pure (k hp _ sb r)
    · refine wpAny_bind (wpAny_pure ?_)
      simp only [↓reduceIte]
      refine lay_end ?_ h1 h2 h3 m2 p2 (more_nodup nd) z2 ⟨l2, l3, ld⟩ ?_
      · intro b z G q; cases b <;> first | exact wpAny_pure q | exact wpAny_rule q
      · intro hp sb r; exact wpAny_pure (k hp _ sb r)
end
end NvSet

set_option maxRecDepth 100000
set_option maxHeartbeats 4000000
namespace NvSet
open PySem PySem.Spec PyProof.Rows L2
/-- the tracked set of texts -/
def TxO (w : World) (a : Addr) (xs : List Str) : HO := .ext fun h => Txs w h a xs
/-- a set's object when it is new -/
def newS (w : World) : Obj := { cls := .type "set", dict := none, data := .set #[] 0 (.fresh 0 0 (!w.params.followText "set-order")) }
theorem txs_new {w : World} {h : Heap} {a : Addr} (e : h.get? a = some (newS w)) : Txs w h a [] :=
  ⟨_, #[], 0, _, e, ⟨rfl, rfl, rfl⟩, rfl, (fun x hx => by simp at hx), List.Perm.nil, List.nodup_nil, by decide, ⟨rfl, List.Pairwise.nil, by
    show _ ∨ (!w.params.followText "set-order") = true
    cases w.params.followText "set-order"
    · exact .inr rfl
    · exact .inl rfl⟩⟩
theorem txo_ok {P : Program} {w : World} {H : Hp} {h : Heap} {a : Addr} {xs : List Str} (R : Txs w h a xs) : ObjOk P w H h a (TxO w a xs) := ⟨R, R.there, fun _ _ p k => p.keeps k⟩
/-- so many texts, from the first on -/
def gather : List Str → List Str
  | [] => []
  | x :: r => more x (gather r)
theorem mem_gather {y : Str} : ∀ {xs : List Str}, y ∈ gather xs ↔ y ∈ xs
  | [] => Iff.rfl
  | x :: r => by
    show y ∈ more x (gather r) ↔ _
    rw [mem_more, mem_gather, List.mem_cons]
theorem gather_len : ∀ xs : List Str, (gather xs).length ≤ xs.length
  | [] => Nat.le_refl _
  | x :: r => by
    have := gather_len r
    show (more x (gather r)).length ≤ r.length + 1
    unfold more
    split
    · omega
    · rw [List.length_cons]
      omega
section
variable {P : Program} {w : World} {A : Around} {E : Value → Shared → Prop} {s : Shared} {a : Addr} {xs : List Str}
/-- found.add(x) -/
theorem add_call {x : Str} {t : Tok} {Q : Value → Shared → Prop} (R : Txs w s.heap a xs) (room : xs.length + 1 < scanBound)
    (k : ∀ hp, Heap.SameBut a s.heap hp → Txs w hp a (more x xs) → Q .none { s with heap := hp, toks := s.toks + 1 }) :
    wpAny (model P w) A (call (.builtin "set.add") [.ref a, .str x t]) Q E s := by
  refine wpAny_call_entry F.slot_set_add R.type F.entry_set_add ?_ (F.args_set_add_2 _ _)
  unfold Builtin.«set.add» Builtin.Frozenset.oneOther
  simp only [List.isEmpty_nil, bind_assoc]
  unfold Builtin.Frozenset.addrOf setAdd
  refine wpAny_bind (wpAny_pure ?_)
  try dsimp only
  refine wpAny_bind (wpAny_pure ?_)
  try dsimp only
  refine wpAny_bind (wpAny_holding (wpAny_bind ((strKind P w).pyHash (str_is x t) ?_)))
  exact add_laid (s := { s with toks := s.toks + 1 }) R room fun hp b sb r => (show wpAny _ _ (ret Value.none) _ _ _ from wpAny_pure ⟨_, rfl, k hp sb r⟩)
/-- the loop behind set(xs): n texts, of which i are in -/
theorem update_loop {I : Addr} {fp wr : List Addr} {G : Array GenState → Array GenState → Prop} {n : Nat} {Pv : Nat → Value → Prop} {St : Nat → Shared → Prop} {R : Result → Shared → Prop} (W : WalksS P w A.in1 I fp wr G n Pv St) (S : Addr) (hSf : S ∉ fp) (ks : List Str) (hn : n = ks.length)
    (few : ks.length < 1000) (hval : ∀ i v, Pv i v → ∃ x t, ks[i]? = some x ∧ v = .str x t) (h0 : Heap) (free : ∀ b ∈ S :: wr, h0.get? b = none) :
    ∀ (j i : Nat) (s : Shared) (ys : List Str), i + j = n → St i s → (∀ b o, h0.get? b = some o → s.heap.get? b = some o) → Txs w s.heap S ys → ys.length ≤ i → (∀ y, y ∈ ys ↔ y ∈ ks.take i) →
      (∀ z ys, Moved (S :: wr) G s z → Txs w z.heap S ys → (∀ y, y ∈ ys ↔ y ∈ ks) → (∀ b o, h0.get? b = some o → z.heap.get? b = some o) → R (.ok (.ret .none)) z) →
      codeAny (model P w) A (.builtin "set.update.loop" ⟨[.ref S, .ref I], []⟩) R s := by
  have sw : S ∉ wr := fun z => hSf (W.sub _ z)
  have up : ∀ b ∈ wr, b ∈ S :: wr := fun b hb => List.mem_cons_of_mem _ hb
  have stay : ∀ {u v : Shared}, Moved wr G u v → (∀ b o, h0.get? b = some o → u.heap.get? b = some o) → ∀ b o, h0.get? b = some o → v.heap.get? b = some o := fun mv kp b o e =>
    mv.heap b o (fun z => by rw [free b (up b z)] at e; cases e) (kp b o e)
  intro j
  induction j with
  | zero =>
    intro i s ys hij st kp T _ hy hR
    obtain rfl : i = n := by omega
    refine codeAny_builtin F.entry_set_update_loop ?_
    rw [Around.under_plainId F.plain_set_update_loop _]
    show wpAny _ A.in1 (pyNext (.ref I) >>= _) _ _ s
    refine wpAny_bind (W.done s _ _ st fun z mv => ?_)
    show wpAny _ A.in1 (ret Value.none) _ _ z
    refine wpAny_pure (hR z ys (mv.mono up) (T.keeps fun o e => mv.heap S o sw e) (fun y => ?_) (stay mv kp))
    rw [hy y, hn, List.take_length]
  | succ j ih =>
    intro i s ys hij st kp T hl hy hR
    refine codeAny_builtin F.entry_set_update_loop ?_
    rw [Around.under_plainId F.plain_set_update_loop _]
    show wpAny _ A.in1 (pyNext (.ref I) >>= _) _ _ s
    refine wpAny_bind (W.item i s _ _ (by omega) st fun v z hv st2 mv => ?_)
    obtain ⟨x, t, hx, rfl⟩ := hval i v hv
    show wpAny _ A.in1 (holding [Value.str x t] (setAdd S (.str x t)) >>= _) _ _ z
    refine wpAny_bind (wpAny_holding ?_)
    unfold setAdd
    refine wpAny_holding (wpAny_bind ((strKind P w).pyHash (str_is x t) ?_))
    have T2 : Txs w z.heap S ys := T.keeps fun o e => mv.heap S o sw e
    refine add_laid (s := { z with toks := z.toks + 1 }) T2 (by unfold scanBound; omega) fun hp b sb T3 => ?_
    refine wpAny_pure ⟨plainId_quiet F.plain_set_update_loop _, ih (i + 1) _ (more x ys) (by omega) (W.frame _ z _ _ st2 (Nat.le_add_right _ _) fun b hb o e => ?_) (fun b o e => ?_) T3 ?_ (fun y => ?_) fun z2 ys2 mv2 T4 hy2 kp2 => ?_⟩
    · exact (sb.2 b (fun q : b = S => hSf (q ▸ hb))).trans e
    · exact (sb.2 b (fun q : b = S => by rw [q, free S List.mem_cons_self] at e; cases e)).trans (stay mv kp b o e)
    · unfold more
      split
      · omega
      · rw [List.length_cons]
        omega
    · rw [mem_more, hy y, List.take_add_one, hx]
      show _ ↔ y ∈ List.take i ks ++ [x]
      rw [List.mem_append, List.mem_singleton]
      exact Or.comm
    · refine hR z2 ys2 (Moved.trans W.gtrans ((mv.mono up).then_heap (Nat.le_add_right _ _) fun b o hb e => ?_) mv2) T4 hy2 kp2
      exact (sb.2 b (fun q : b = S => hb (q ▸ List.mem_cons_self))).trans e
/-- sorted(set) -/
theorem sorted_txs {Q : Value → Shared → Prop} (R : Txs w s.heap a xs) (hh : A.handled = none) (few : xs.length < 64)
    (k : ∀ z p (out : Array Value) (c : Nat) (ys : List Str), (∀ b o, s.heap.get? b = some o → z.heap.get? b = some o) → z.gens = s.gens → z.os = s.os → s.heap.objs.size ≤ p → z.heap.get? p = some (seqObj "list" out c) →
      StrsAre out.toList ys → ys.Perm xs → sortedS ys = true → Q (.ref p) z) : wpAny (model P w) A (call (.builtin "sorted") [.ref a]) Q E s := by
  obtain ⟨ob, es, ep, tb, h1, h2, h3, m, pm, nd, sm, wk⟩ := R.ex
  refine Calls.call_function_entry kind_sorted plain_sorted entry_sorted (args_sorted1 _) ?_
  unfold Builtin.«sorted»
  refine wpAny_bind (m := checkCount "sorted" 1 1 _) (wpAny_pure (wpAny_bind (collect_set (A := A.in1) hh ⟨ob, h1, h2.1, h3⟩ wk.fit sm wk.ris wk.led fun z vs k1 hz g1 o1 pv => ?_)))
  have allS : ∀ l : List Value, (∀ v ∈ l, ∃ e, Mem w e ∧ v = e.2) → ∃ ys, StrsAre l ys ∧ ∀ f : Value → Str, (∀ e, Mem w e → f e.2 = txOf e) → ys = l.map f := by
    intro l
    induction l with
    | nil => intro _; exact ⟨[], .nil, fun _ _ => rfl⟩
    | cons v l ih =>
      intro hv
      obtain ⟨ys, h1, h2⟩ := ih fun u hu => hv u (List.mem_cons_of_mem _ hu)
      obtain ⟨e, me, rfl⟩ := hv v List.mem_cons_self
      obtain ⟨t, e1, _⟩ := me.tx
      refine ⟨txOf e :: ys, ?_, fun f hf => ?_⟩
      · rw [e1]
        exact .cons _ _ h1
      · rw [List.map_cons, hf e me, ← h2 f hf]
  obtain ⟨ys, sy, fy⟩ := allS vs fun v hv => by
    obtain ⟨e, he, q⟩ := List.mem_map.mp (pv.mem_iff.mp hv)
    exact ⟨e, m e he, q.symm⟩
  have ey := fy (fun v => match v with | .str x _ => x | _ => "") (fun e me => rfl)
  have py : ys.Perm xs := by
    rw [ey]
    refine (pv.map _).trans ?_
    rw [List.map_map]
    exact pm
  have lv : vs.length = xs.length := by rw [← py.length_eq, ey, List.length_map]
  refine wpAny_bind (wpAny_newList ?_ (by rw [lv, sizeLine_eq]; omega))
  have hoL : (z.heap.push (seqObj "list" vs.toArray 0)).get? z.heap.objs.size = some (seqObj "list" vs.toArray 0) := Heap.get?_push_size _ rfl
  refine wpAny_bind (wpAny_holding (wpAny_call_entry slot_list_sort ⟨_, hoL, rfl⟩ entry_list_sort (list_sort_treeK strKind_oneLt hoL sy.keysOf (fun v₁ v₂ rest e => keyKind_strs (by rw [← e]; exact sy)) (by rw [lv]; exact few) fun st a1 a2 => ⟨_, rfl, ?_⟩) (args_list_sort _)))
  obtain ⟨ys', b1, b2, b3⟩ := sorted_out_str sy a1 a2
  obtain ⟨c, hc⟩ := sortedHeap_at (vs := vs) (out := (arrOf st).map (·.2)) hoL
  refine wpAny_pure ⟨_, rfl, k _ z.heap.objs.size _ c ys' (fun b u e => ?_) g1 o1 hz hc b1 (b2.trans py) b3⟩
  have q := k1 b u e
  have hlt := Heap.lt_size q
  show (sortedHeap (z.heap.push (seqObj "list" vs.toArray 0)) z.heap.objs.size vs _).get? b = some u
  exact (sortedHeap_old (Nat.ne_of_lt hlt) (by rw [size_push']; exact Nat.lt_succ_of_lt hlt)).trans (Heap.get?_push_of_some _ q)
end
end NvSet

set_option maxRecDepth 100000
set_option maxHeartbeats 8000000
namespace NvSet
open PySem PySem.Spec PyProof.Rows L2
section
variable {P : Program} {w : World} {A : Around} {E : Value → Shared → Prop} {s : Shared}
/-- set(xs) of a list of texts -/
theorem set_call {l : Addr} {items : Array Value} (ks : List Str) {Q : Value → Shared → Prop} (hh : A.handled = none) (hl : s.heap.IsList l items) (hlen : items.size = ks.length) (hval : ∀ (i : Nat) (v : Value), items[i]? = some v → ∃ x t, ks[i]? = some x ∧ v = Value.str x t) (few : ks.length < 1000)
    (k : ∀ (hp : Heap) (tk : Nat) ys, Txs w hp s.heap.objs.size ys → (∀ y, y ∈ ys ↔ y ∈ ks) → (∀ b o, s.heap.get? b = some o → hp.get? b = some o) → Q (.ref s.heap.objs.size) { s with heap := hp, toks := tk }) :
    wpAny (model P w) A (call (.type "set") [.ref l]) Q E s := by
  obtain ⟨c, tl, hmro⟩ := F.called_set.mro
  have hmade := F.called_set.made
  have hsub := F.called_set.sub
  refine wpAny_call (codeAny_of_tree ?_)
  show wpAny _ _ (callAny (.type "set") _) _ _ _
  refine wpAny_pure ⟨Code.quiet_builtin _ (by decide +kernel), codeAny_builtin F.entry_type_call ?_⟩
  rw [Around.under_plain (weight_type_call_type "set" [.ref l] []) rfl]
  have h1 := F.called_set.notType
  have h2 := F.called_set.canCreate
  have hct := F.typeCall_set_1 (.ref l)
  repeat (any_goals (first | assumption | wp_step))
  refine codeAny_mono (code_set_led1 (.ref l) (E := E) (Q₁ := fun obj z => obj = .ref s.heap.objs.size ∧ z = { s with heap := s.heap.push (newS w) }) ⟨rfl, rfl⟩) fun r z hr => ?_
  cases r with
  | error e => exact hr
  | ok fl =>
    cases fl with
    | ret obj =>
      obtain ⟨rfl, rfl⟩ := hr
      have at0 : (s.heap.push (newS w)).get? s.heap.objs.size = some (newS w) := Heap.get?_push_size _ rfl
      have ty0 : Shared.TypeIs { s with heap := s.heap.push (newS w) } (.ref s.heap.objs.size) "set" := ⟨_, at0, rfl⟩
      have hli := F.called_set.init.lookup
      have hbi := F.called_set.init.bind (.ref s.heap.objs.size)
      repeat (any_goals (first | assumption | wp_step))
      refine codeAny_mono (codeAny_call_builtin (R := wants (fun r z => r = .none ∧ ∃ hp tk ys, z = { s with heap := hp, toks := tk } ∧ Txs w hp s.heap.objs.size ys ∧ (∀ y, y ∈ ys ↔ y ∈ ks) ∧ ∀ b o, s.heap.get? b = some o → hp.get? b = some o) E)
        F.called_set.init.plain F.entry_set_init (check_set_init_1 ty0 ?_)) fun r z hr => ?_
      · obtain ⟨ol, hol, hcl, nl, hdl⟩ := hl
        obtain ⟨ocls, odict, odata, oslots⟩ := ol
        simp only at hcl hdl
        subst hcl; subst hdl
        have hol' : (s.heap.push (newS w)).get? l = some { cls := .type "list", dict := odict, data := .seq items nl, slots := oslots } := Heap.get?_push_of_some _ hol
        have hsls := F.sub_list_set
        have hslf := F.sub_list_frozenset
        have hne : (Value.type "list" == Value.type "dict") = false := by decide
        have hl1 : (s.heap.push (newS w)).IsList l items := ⟨_, hol', rfl, nl, rfl⟩
        unfold Builtin.«set.__init__» noKeywords Builtin.Frozenset.updateFrom
        generalize hPI : pyIter = PI
        wp_walk
        subst hPI
        refine wpAny_pyIter_list hl1 (wpAny_bind (wpAny_runValue ?_))
        have lS : l < s.heap.objs.size := Heap.lt_size hol
        have sz : (s.heap.push (newS w)).objs.size = s.heap.objs.size + 1 := Heap.size_push ..
        have nI : l ≠ (s.heap.push (newS w)).objs.size := by rw [sz]; exact Nat.ne_of_lt (Nat.lt_succ_of_lt lS)
        have nS : s.heap.objs.size ∉ [(s.heap.push (newS w)).objs.size, l] := by
          rw [sz]
          intro z
          rcases List.mem_cons.mp z with z | z
          · exact absurd z (Nat.ne_of_lt (Nat.lt_succ_self _))
          · exact absurd (List.mem_singleton.mp z) (Nat.ne_of_gt lS)
        have none_of : ∀ b, s.heap.objs.size ≤ b → s.heap.get? b = none := fun b hb => by
          cases q : s.heap.get? b with
          | none => rfl
          | some o => exact absurd (Nat.lt_of_lt_of_le (Heap.lt_size q) hb) (Nat.lt_irrefl _)
        have hh3 : A.in1.in1.in1.handled = none := by simp [hh]
        refine update_loop ((Walks.list hh3 _ l nI items).toS) s.heap.objs.size nS ks hlen few hval s.heap (fun b hb => ?_) items.size 0 _ [] (by omega) ⟨⟨_, Heap.get?_push_size _ rfl, rfl, rfl⟩, (hl1.push _)⟩ (fun b o e => Heap.get?_push_of_some _ (Heap.get?_push_of_some _ e))
          (txs_new (Heap.get?_push_of_some _ at0)) (Nat.zero_le _) (fun y => by simp) ?_
        · rcases List.mem_cons.mp hb with z | z
          · rw [z]
            exact none_of _ (Nat.le_refl _)
          · rw [List.mem_singleton.mp z, sz]
            exact none_of _ (Nat.le_succ _)
        · intro z ys mv T hy kp
          obtain ⟨h', g2, d', tk', os'⟩ := z
          have eg : g2 = s.gens := mv.gens
          have ed : d' = s.drawn := mv.drawn
          have eo : os' = s.os := mv.os
          subst eg; subst ed; subst eo
          show wpAny _ _ _ _ _ _
          refine wpAny_pure ?_
          show wpAny _ _ (ret Value.none) _ _ _
          exact wpAny_pure ⟨rfl, h', tk', ys, rfl, T, hy, kp⟩
      · cases r with
        | error e => exact hr
        | ok f2 =>
          cases f2 with
          | ret r =>
            obtain ⟨rfl, hp, tk, ys, rfl, T, hy, kp⟩ := hr
            repeat (any_goals (first | assumption | wp_step))
            exact k _ _ _ T hy kp
          | _ => exact hr.elim
    | _ => exact hr.elim
end
section
variable {X : Cx}
/-- set(xs), a list of texts -/
def rSetTx (K : PySem.W.Frag) (w : World) : List V → Hp → VK → Prop := fun vs H Q => ∃ (l : Addr) (ks : List Str), vs = [V.ref l] ∧ SqL K H l (ks.map V.str) ∧ ks.length < 1000 ∧ ∀ a ys, H a = none → ys.Nodup → (∀ y, y ∈ ys ↔ y ∈ ks) → Q (.ref a) (upd H a (TxO w a ys))
theorem str_at : ∀ {ks : List Str} {its : List Value}, Vals (ks.map V.str) its → ∀ (i : Nat) (v : Value), its[i]? = some v → ∃ x t, ks[i]? = some x ∧ v = .str x t
  | [], _, .nil, i, v, h => by cases h
  | x :: ks, _, .cons r rr, 0, v, h => by
    obtain ⟨t, e⟩ := (show RelV (V.str x) _ from r)
    have := Option.some.inj h
    exact ⟨x, t, rfl, this ▸ e⟩
  | x :: ks, _, .cons r rr, i + 1, v, h => str_at rr i v h
theorem cr_setTx (hc : X.calm = true) : CallR X (.type "set") (rSetTx X.K X.w) := by
  intro pins s σ H xs us Q I r h
  obtain ⟨l, ks, rfl, hl, few, q⟩ := h
  rw [Vals.ref1 r]
  obtain ⟨its, rv, pl, hz⟩ := I.list hl
  have nw : H s.heap.objs.size = none := I.hok.fresh (Nat.le_refl _)
  have hlen : its.toArray.size = ks.length := by
    have := rv.length
    rw [List.length_map] at this
    simpa using this.symm
  refine set_call (P := X.prog) (w := X.w) ks (I.ok.hd hc) pl.isList hlen (fun i v hv => str_at rv i v (by simpa using hv)) few fun hp tk ys T hy kp => ?_
  obtain ⟨_, _, _, _, _, _, _, _, _, nd, _⟩ := T.ex
  exact ⟨.ref s.heap.objs.size, upd H s.heap.objs.size (TxO X.w s.heap.objs.size ys), I.laid (t' := tk) kp (Nat.le_refl _) (txo_ok T), rfl, q _ ys nw nd hy⟩
/-- sorted(set) of texts -/
def rSortedTx (w : World) : List V → Hp → VK → Prop := fun vs H Q => ∃ (a : Addr) (xs : List Str), vs = [V.ref a] ∧ H a = some (TxO w a xs) ∧ xs.length < 64 ∧
  ∀ (ys : List Str) (p : Addr), ys.Perm xs → xs.Nodup → sortedS ys = true → H p = none → Q (.ref p) (upd H p (.lst (ys.map V.str)))
theorem cr_sortedTx (hc : X.calm = true) : CallR X (.builtin "sorted") (rSortedTx X.w) := by
  intro pins s σ H vs us Q I r h
  obtain ⟨a, xs, rfl, ha, few, q⟩ := h
  have R : Txs X.w s.heap a xs := (I.hok a _ ha).1
  rw [Vals.ref1 r]
  refine sorted_txs R (I.ok.hd hc) few fun z p out c ys kp g o hp hg so pm srt => ?_
  have hlen : (ys.map V.str).length ≤ sizeLine := by rw [List.length_map, pm.length_eq, sizeLine_eq]; omega
  have hn : H p = none := I.hok.fresh hp
  have J : Inv X pins σ (upd H p (.lst (ys.map V.str))) { s with heap := z.heap, gens := z.gens, drawn := z.drawn, toks := z.toks } :=
    I.call (ch := []) (Un.laid kp hp hn) (I.hok.laid kp hp ⟨hlen, out.toList, c, vals_of_strs so, hg⟩) (by rw [g]; exact I.bare) (fun _ z => nomatch z)
  have e : z = { s with heap := z.heap, gens := z.gens, drawn := z.drawn, toks := z.toks } := by
    cases z
    cases s
    cases o
    rfl
  obtain ⟨_, _, _, _, _, _, _, _, _, nd, _⟩ := R.ex
  rw [e]
  exact ⟨.ref p, _, J, rfl, q ys p pm nd srt hn⟩
/-- an added text -/
theorem add_ok {pins : List (Addr × Obj)} {σ : L2.St} {H : Hp} {s : Shared} {E : Value → Shared → Prop} {D : Addr} {xs : List Str} {y : Str} {u : Value} {Q : Value → Shared → Prop} (I : Inv X pins σ H s) (ry : RelV (.str y) u) (hD : H D = some (TxO X.w D xs)) (room : xs.length + 1 < scanBound)
    (k : ∀ z, Inv X pins σ (upd H D (TxO X.w D (more y xs))) z → Q .none z) : wpAny (model X.prog X.w) X.A (call (.builtin "set.add") [.ref D, u]) Q E s := by
  obtain ⟨t, rfl⟩ := ry
  exact add_call (I.hok D _ hD).1 room fun hp sb T => k _ (I.write (e := D) (t' := s.toks + 1) (by rw [hD]; trivial) (.inl rfl) (fun b v hb hv => (sb.2 b hb).trans hv) T.there (txo_ok T))
end
end NvSet

set_option maxRecDepth 100000
set_option maxHeartbeats 8000000
namespace NvSet
open PySem PySem.Spec PyProof.Rows L2 PpSet
section
variable {X : Cx}
/-- {elt for tg in iter if ..}, texts: D the set that is made -/
def tScT (w : World) (wi : TI) (g : TG) (tt : TT) (te : TE) (vs : List Nat) : TE := fun σ H Q => wi σ H fun J H1 => ∀ D, H1 D = none → ∃ W : Nat → Nat → Hp → Prop, (∃ m, W 0 m (upd H1 D (TxO w D []))) ∧ ∀ i m H, W i m H →
  (J.stop i H ∧ Q (.ref D) H) ∨ (J.go i H ∧ ∃ Nx : Hp → Prop, (∀ H', Nx H' → ∃ m', m' < m ∧ W (i + 1) m' H') ∧ ∀ x H', J.yld i H x H' → g x (wipe σ vs) H' fun τ H2 => wipe τ vs = wipe σ vs ∧ tt τ H2 fun b H3 =>
    if b = true then te τ H3 fun y H4 => ∃ (c : Str) (xs : List Str), y = .str c ∧ H4 D = some (TxO w D xs) ∧ xs.length + 1 < scanBound ∧ Nx (upd H4 D (TxO w D (more c xs))) else Nx H3)
/-- the blocks of a comprehension, for every start -/
abbrev InBlk (X : Cx) (sc : Scope) (F : Cx → Prop) : Prop := ∀ (s : Shared) (H : Hp) (C : Addr) (cl : List (PySem.Str × Addr)) (fp : List Addr), F (X.blk s H sc (compEnvC sc cl C X.env) fp)
theorem pe_scT {elt tg iter : Expr} {ifs : List Expr} {sc : Scope} {own : List (PySem.Str × Nat)} {pos : Pos} {wi : TI} {g : TG} {tt : TT} {te : TE} (hc : X.calm = true) (hN : X.N.Nodup) (hi : PI X tg iter wi) (ok : BlkOk X.N X.env.scope sc own)
    (hg : InBlk X sc fun Y => PG Y tg g) (ht : InBlk X sc fun Y => PTs Y ifs tt) (he : InBlk X sc fun Y => PE Y elt te) (hs : ∀ x, foldedSetIterable iter X.env x = pure x := by intro _; rfl) :
    PE X (.SetComp elt [⟨tg, iter, ifs, 0⟩] sc pos) (tScT X.w wi g tt te (own.map (·.2))) := by
  refine ⟨fun pins s σ H Q I h => ?_⟩
  rw [eval_SetComp]
  have free : ∀ y ∈ sc.names, y.2 = .free → ∃ c, X.env.cells.lookup y.1 = some c := fun y hy e => (ok.free y hy e).elim (fun z => I.ok.has _ (.inl z)) fun z => I.ok.has _ (.inr z)
  refine wpAny_comprehension_free (use := none) rfl hs (closure_ok free) ok.kind (fun y hy e => by rw [ok.uniq y hy, e]) (thn (hi.run pins s σ H _ I h) fun xv s1 hx => thn hx fun itv s2 hj => ?_)
  obtain ⟨it, fp, tn, J, H2, rfl, I2, T, st2, f2, q⟩ := hj
  refine newSet_ok (newEnv_comp ?_)
  generalize eD : s2.heap.objs.size = D
  have nD : H2 D = none := I2.hok.fresh (Nat.le_of_eq eD)
  obtain ⟨W, ⟨m0, w0⟩, turn⟩ := q D nD
  generalize e3 : ({ s2 with heap := s2.heap.push { cls := .type "set", dict := none, data := .set #[] 0 (.fresh 0 0 (!X.w.params.followText "set-order")) } } : Shared) = s3
  have p3 : s3.heap = s2.heap.push (newS X.w) := by rw [← e3]; rfl
  generalize eH : upd H2 D (TxO X.w D []) = H3 at w0
  have I3 : Inv X pins σ H3 s3 := by
    rw [← e3, ← eH]
    refine I2.laid (t' := s2.toks) (fun b o e => Heap.get?_push_of_some _ e) (Nat.le_of_eq eD) (txo_ok (txs_new ?_))
    rw [← eD]
    exact Heap.get?_push_size _ rfl
  have below : ∀ b ∈ fp, b < s2.heap.objs.size := fun b hb => by
    obtain ⟨o, e, _⟩ := T.obj _ _ st2 b hb
    exact Heap.lt_size e
  have f3 : ∀ b ∈ fp, FpOk X pins H3 b ∧ b < s3.heap.objs.size := fun b hb => by
    have lt := below b hb
    refine ⟨⟨?_, (f2 b hb).2⟩, by rw [p3, Heap.size_push]; exact Nat.lt_succ_of_lt lt⟩
    rw [← eH, upd_ne (by rw [← eD]; exact Nat.ne_of_lt lt)]
    exact (f2 b hb).1
  have st3 : tn 0 s3.heap := T.keep _ _ _ st2 fun b _ o e => by rw [p3]; exact Heap.get?_push_of_some _ e
  have I4 := block_start I3 ok hN f3
  have pg := hg s3 H3 s3.heap.objs.size (cellsFrom (s3.heap.objs.size + 1) sc.names (cloFrom X.env.cells sc.names [])) fp
  have pt := ht s3 H3 s3.heap.objs.size (cellsFrom (s3.heap.objs.size + 1) sc.names (cloFrom X.env.cells sc.names [])) fp
  have pe := he s3 H3 s3.heap.objs.size (cellsFrom (s3.heap.objs.size + 1) sc.names (cloFrom X.env.cells sc.names [])) fp
  show codeAny _ _ (.compStart (.SetComp elt [⟨tg, iter, ifs, 0⟩] sc pos) 0 (.ref it) (.ref D) (compEnvC sc (cellsFrom (s3.heap.objs.size + 1) sc.names (cloFrom X.env.cells sc.names [])) s3.heap.objs.size X.env)) (compPost (model X.prog X.w) X.A X.xe none _ (.ref D) s3.heap.objs.size) { s3 with heap := pushCells (s3.heap.push { cls := .type "dict", data := .dict #[] }) sc.names }
  generalize ec : compEnvC sc (cellsFrom (s3.heap.objs.size + 1) sc.names (cloFrom X.env.cells sc.names [])) s3.heap.objs.size X.env = ce at I4 pg pt pe ⊢
  have lc : ce.locals = s3.heap.objs.size := by subst ec; rfl
  generalize e4 : ({ s3 with heap := pushCells (s3.heap.push { cls := .type "dict", data := .dict #[] }) sc.names } : Shared) = s4 at I4 ⊢
  have st4 : tn 0 s4.heap := T.keep _ _ _ st3 fun b _ o e => by rw [← e4]; exact pushCells_keeps _ _ _ _ (Heap.get?_push_of_some _ e)
  have foot : ∀ {τ : L2.St} {G : Hp} {z : Shared}, Inv (X.blk s3 H3 sc ce fp) [] τ G z → (∀ b ∈ fp, G b = none) → ∀ b ∈ fp, FpOk (X.blk s3 H3 sc ce fp) [] G b := fun {τ G z} J' hn b hb =>
    ⟨hn b hb, (J'.ok.exf b hb).1, J'.ok.exfs b hb, .inl hb, fun x c e => (J'.ok.exf b hb).2 x c e, fun p hp => absurd (show p ∈ ([] : List (Addr × Obj)) ++ [] from hp) (by simp)⟩
  refine codeAny_compStart_set ?lp (T.self X.A 0 _ _ _ st4 ?lp)
  refine compLoopS_any (fun n z => ∃ i G, Inv (X.blk s3 H3 sc ce fp) [] (wipe σ (own.map (·.2))) G z ∧ tn i z.heap ∧ (∀ b ∈ fp, G b = none) ∧ W i n G) ?_ m0 ⟨0, H3, I4, st4, fun b hb => (f3 b hb).1.1, w0⟩
  rintro n s5 ⟨i, H5, I5, st5, n5, w5⟩
  rcases turn i n H5 w5 with ⟨stop, qq⟩ | ⟨go, Nx, hNx, step⟩
  · refine thnF (T.done (X.blk s3 H3 sc ce fp) rfl rfl rfl hc i [] s5 _ H5 (fun _ _ => False) I5 (foot I5 n5) st5 stop) fun r s6 ⟨hr, I6⟩ => ?_
    subst hr
    have I7 : Inv X pins σ H5 s6 := I3.call' (ch := fp) I6.os I6.base I6.hok I6.bare fun b hb => ⟨(f3 b hb).1.2.2.2.1, (f3 b hb).1.2.1, (f3 b hb).1.2.2.2.2.1, (f3 b hb).1.2.2.2.2.2⟩
    have nC : H5 s3.heap.objs.size = none := lc ▸ (show H5 ce.locals = none from I6.free)
    obtain ⟨m, hn, _⟩ := I6.loc
    have hn : s6.heap.Ns s3.heap.objs.size m := lc ▸ (show s6.heap.Ns ce.locals m from hn)
    refine ⟨m, hn, fun hp sb => ?_⟩
    obtain ⟨k0, k1, k2, k3, k4, k5⟩ := I3.fpOk (Nat.le_refl _) nC
    exact ⟨.ref D, H5, I7.turned (t' := s6.toks) (fun b o hb e => (sb.2 b hb).trans e) k0 k1 k3 k4 k5, rfl, qq⟩
  · refine thnF (T.item (X.blk s3 H3 sc ce fp) rfl rfl rfl hc i [] s5 _ H5 (fun _ _ => False) I5 (foot I5 n5) st5 go) fun r s6 ⟨u, hr, h6⟩ => ?_
    subst hr
    refine thnF h6 fun _ s7 ⟨x, H7, I7, r7, y7, st7, n7⟩ => ?_
    refine thnF (pg.run _ s7 _ H7 x u _ (I7.pinned (foot I7 n7) (T.obj _ _ st7)) r7 (step x H7 y7)) fun _ s8 ⟨τ, H8, I8, hw, q8⟩ => ?_
    refine thnF (pt.run _ s8 τ H8 _ I8 q8) fun b s9 ⟨H9, I9, q9⟩ => ?_
    have fin : ∀ {z : Shared} {G : Hp}, Inv (X.blk s3 H3 sc ce fp) ([] ++ pinsAt fp s7.heap) τ G z → Nx G → ∃ m, m < n ∧ ∃ i G, Inv (X.blk s3 H3 sc ce fp) [] (wipe σ (own.map (·.2))) G z ∧ tn i z.heap ∧ (∀ b ∈ fp, G b = none) ∧ W i m G := fun {z G} J' nx => by
      obtain ⟨m', hm, w'⟩ := hNx G nx
      have pin : ∀ b ∈ fp, ∀ o, s7.heap.get? b = some o → z.heap.get? b = some o ∧ G b = none := fun b hb o e =>
        let y := J'.pin (b, o) (List.mem_append_right _ (List.mem_append_right _ (mem_pinsAt hb e)))
        ⟨y.1, y.2.1⟩
      refine ⟨m', hm, i + 1, G, (J'.unpinned (pins := [])).weak (by rw [← hw, wipe_length]) (fun j v e => ?_), T.keep _ _ _ st7 fun b hb o e => (pin b hb o e).1, fun b hb => ?_, w'⟩
      · rw [← hw] at e
        exact (wipe_some e).1
      · obtain ⟨o, e, _⟩ := T.obj _ _ st7 b hb
        exact (pin b hb o e).2
    cases b with
    | false =>
      simp only [Bool.false_eq_true, if_false] at q9 ⊢
      exact fin I9 q9
    | true =>
      simp only [if_true] at q9 ⊢
      refine thnF (pe.run _ s9 τ H9 _ I9 q9) fun z s10 ⟨yv, H10, I10, r10, c, xs, ey, hD, room, nx⟩ => ?_
      subst ey
      exact add_ok (X := X.blk s3 H3 sc ce fp) I10 r10 hD room fun s11 I11 => fin I11 nx
end
end NvSet

set_option maxRecDepth 100000
set_option maxHeartbeats 4000000
namespace Nv
open PySem PySem.Spec PyProof.Rows L2
def topS (i : Nat) : Stmt := PySem.Challenge.pw_nevernought_k11_whole_texts_refused_at_t.main.body.getD i (.Pass ⟨0, 0, 0, 0⟩)
abbrev sNE : Stmt := inClass (topS 1) 0
theorem scNE : FnScope ["self", "word", "message"] ["self", "word", "message"] (defScope sNE) := ⟨rfl, rfl, rfl, by decide +kernel, rfl, by decide +kernel, by decide +kernel⟩
/-- the fields of an exception that has its word alone -/
def wordOf (w : Str) : List (Str × V) := [(Str.ofString "word", .str w)]
/-- an exception that is being made gets its word -/
def made (a C : Addr) (w : Str) (H : Hp) (Q : VK) : Prop := ∀ dx, H dx = none → dx ≠ a → Q .non (upd (upd H dx (exd dx (wordOf w))) a (exo a C (some dx)))
def spNE (K : PySem.W.Frag) : Sp := fun vs H Q _ => ∃ (a C : Addr) (w m : Str), vs = [.ref a, .str w, .str m] ∧ OexC K C ∧ PySem.W.findIn K (.ref C) "word" = some none ∧ H a = some (exo a C none) ∧ made a C w H Q
theorem same_new {H : Hp} {p : Addr} {o : HO} (h : H p = none) : Same H (upd H p o) := fun b x e => by
  rw [upd_ne (ne_of_none e h)]
  exact e
/-- a new pair of numbers is told; all that stood stands -/
def newSh (H : Hp) (Q : VK) (t b : Int) : Prop := ∀ (p : Addr) (H' : Hp), Same H H' → H p = none → H' p = some (.tup [.int t, .int b]) → Q (.ref p) H'
theorem newSh.at_ {H : Hp} {Q : VK} {t b : Int} (q : newSh H Q t b) : ∀ p, H p = none → Q (.ref p) (upd H p (.tup [.int t, .int b])) := fun p hp => q p _ (same_new hp) hp upd_same
/-! The law's bag: [the script's numbers, a place, what is left of a great one, a salt, a count]. -/
def bagL (l : Addr) (i j s n : Int) : List V := [.ref l, .int i, .int j, .int s, .int n]
structure BagAt (l b : Addr) (H : Hp) : Prop where
  ex : ∃ i j s n : Int, H b = some (.lst (bagL l i j s n)) ∧ 0 ≤ i ∧ 0 ≤ j ∧ 0 ≤ s ∧ s < 2147483647
structure Bag (l b : Addr) (H : Hp) : Prop where
  ex : ∃ ns : List Int, l ≠ b ∧ H l = some (.lst (ns.map V.int)) ∧ BagAt l b H
/-- but for b all is as it was -/
def But (b : Addr) (H H' : Hp) : Prop := ∀ a, a ≠ b → H' a = H a
theorem But.refl (b : Addr) (H : Hp) : But b H H := fun _ _ => rfl
theorem But.trans {b : Addr} {H H1 H2 : Hp} (x : But b H H1) (y : But b H1 H2) : But b H H2 := fun a n => (y a n).trans (x a n)
theorem But.upd {b : Addr} {H H1 : Hp} {o : HO} (x : But b H H1) : But b H (upd H1 b o) := fun a n => (upd_ne n).trans (x a n)
theorem keep {a b : TS} {D : Ends} {σ : L2.St} {H : Hp} (M : L2.St → Hp → Prop) (h : ∀ σ' H', M σ' H' → b D σ' H') (k : (∀ σ' H', M σ' H' → b D σ' H') → a { D with nx := b D } σ H) : tSeq a b D σ H := k h
def spPull : Sp := fun vs H Q _ => ∃ (l b : Addr) (m : Int), vs = [.ref b, .int m] ∧ 0 < m ∧ m.natAbs < 2 ^ 8000 ∧ Bag l b H ∧ ∀ (r : Int) (H' : Hp), 0 ≤ r → r < m → Bag l b H' → But b H H' → Q (.int r) H'
/-- a number that is reckoned with -/
def Fit (i : Int) : Prop := i.natAbs < 2 ^ 1000
theorem Fit.mulOk {i j : Int} (a : Fit i) (b : Fit j) : CMulW i j := wide_mul a b (by decide) (by decide) (by decide)
theorem Fit.mul {i j : Int} (a : Fit i) (b : Fit j) : (i * j).natAbs < 2 ^ 8000 := Nat.lt_of_lt_of_le (wide_lt a b) (Nat.pow_le_pow_right (by decide) (by decide))
/-- but for b all that was tracked is as it was -/
def Grow (b : Addr) (H H' : Hp) : Prop := ∀ a o, a ≠ b → H a = some o → H' a = some o
theorem Grow.refl (b : Addr) (H : Hp) : Grow b H H := fun _ _ _ h => h
theorem Grow.trans {b : Addr} {H H1 H2 : Hp} (x : Grow b H H1) (y : Grow b H1 H2) : Grow b H H2 := fun a o n h => y a o n (x a o n h)
theorem But.grow {b : Addr} {H H' : Hp} (x : But b H H') : Grow b H H' := fun a o n h => by rw [x a n]; exact h
theorem Same.grow {b : Addr} {H H' : Hp} (x : Same H H') : Grow b H H' := fun a o _ h => x a o h
theorem Bag.is {l b : Addr} {H : Hp} (B : Bag l b H) : ∃ o, H b = some o := by
  obtain ⟨ns, _, _, ⟨i, j, s, n, hb, _⟩⟩ := B
  exact ⟨_, hb⟩
theorem Bag.ne {l b p : Addr} {H : Hp} (B : Bag l b H) (h : H p = none) : p ≠ b := fun z => by
  obtain ⟨o, e⟩ := B.is
  rw [z, e] at h
  cases h
theorem Grow.free {b p : Addr} {H H' : Hp} (x : Grow b H H') (n : p ≠ b) (h : H' p = none) : H p = none := by
  cases e : H p with
  | none => rfl
  | some o =>
    rw [x p o n e] at h
    cases h
/-- a bag stays one where all else only grows -/
theorem Bag.same {l b : Addr} {H H' : Hp} (B : Bag l b H) (x : Same H H') : Bag l b H' := by
  obtain ⟨ns, nl, hl, ⟨i, j, s, n, hb, r⟩⟩ := B
  exact ⟨ns, nl, x _ _ hl, ⟨i, j, s, n, x _ _ hb, r⟩⟩
/-- a share that the law draws -/
structure Drawn (t b : Int) : Prop where
  top : t.natAbs < 2 ^ 45
  bot : b.natAbs < 2 ^ 45
  pos : 0 < b
theorem Drawn.fitT {t b : Int} (d : Drawn t b) : Fit t := Nat.lt_of_lt_of_le d.top (Nat.pow_le_pow_right (by decide) (by decide))
theorem Drawn.fitB {t b : Int} (d : Drawn t b) : Fit b := Nat.lt_of_lt_of_le d.bot (Nat.pow_le_pow_right (by decide) (by decide))
theorem drawn_fr {t b : Int} (ht : t.natAbs < 2 ^ 45) (hb : b.natAbs < 2 ^ 45) (h0 : b ≠ 0) : Drawn (frT t b) (frB t b) := ⟨Nat.lt_of_le_of_lt (frT_le t h0) ht, Nat.lt_of_le_of_lt (frB_le t h0) hb, frB_pos t h0⟩
theorem fit8 {i : Int} {n : Nat} (h : i.natAbs < 2 ^ n) (hn : n ≤ 8000) : i.natAbs < 2 ^ 8000 := Nat.lt_of_lt_of_le h (Nat.pow_le_pow_right (by decide) hn)
def spDraw : Sp := fun vs H Q _ => ∃ l b : Addr, vs = [.ref b] ∧ Bag l b H ∧ ∀ (p : Addr) (t d : Int) (H' : Hp), Drawn t d → Bag l b H' → Grow b H H' → H p = none → H' p = some (.tup [.int t, .int d]) → Q (.ref p) H'
section
variable {P : Program} {w : World} {K : PySem.W.Frag} {mg : Str → Option Value} {base : Heap}
theorem ok_NE {f : Addr} {fd : FuncData} {k : Nat} {dvs : List V} (F : FunD K "__init__" "NeverError.__init__" (defArgs sNE) (defBody sNE) (defScope sNE) dvs [] f fd) (mv : mg "ValueError" = none)
    (vV : PySem.W.findCls K (.type "ValueError") (.type "type") "__init__" = some (.val (.builtin "ValueError.__init__"))) : FnOk P w K mg base CX0 (k + 1) f fd ["self", "word", "message"] (spNE K) := by
  refine F.ok scNE (fun vs H Q E h => ?_) (fun cdv A outer s H vs Q E hr h => ?_)
  · obtain ⟨a, C, w, m, rfl, _⟩ := h
    rfl
  · obtain ⟨a, C, w, m, rfl, ho, hn, ha, q⟩ := h
    refine ⟨_, pss_cons (ps_expr (pe_veinit (by rfl) mv vV (pa_cons (pv 0) (pa_cons (pv 2) pa_nil)))) (pss_one (ps_ost (pv 0) (pv 1))), ?_⟩
    refine ⟨_, rfl, _, rfl, a, C, [.str m], rfl, (by show 1 ≤ 1000; decide), ho, ha, ?_⟩
    exact ⟨_, rfl, _, rfl, a, C, rfl, ho, hn, .inl ⟨ha, fun dx n ne => q dx n ne⟩⟩
def spGcd : Sp := fun vs H Q _ => ∃ a b : Int, vs = [.int a, .int b] ∧ Q (.int ((Int.gcd a b : Nat) : Int)) H
def mGcd (σ : L2.St) (_ : Hp) : Nat := match σ with
  | [_, some (.int y)] => y.natAbs
  | _ => 0
abbrev sLGcd : Stmt := topS 69
theorem scLGcd : FnScope ["_law_one", "_law_other"] ["_law_one", "_law_other"] (defScope sLGcd) := ⟨rfl, rfl, rfl, by decide +kernel, rfl, by decide +kernel, by decide +kernel⟩
theorem ok_law_gcd {f : Addr} {fd : FuncData} {k : Nat} (F : Fun K "_law_gcd" "_law_gcd" sLGcd f fd) (ma : mg "abs" = none) : FnOk P w K mg base CX0 (k + 1) f fd ["_law_one", "_law_other"] spGcd := by
  refine F.ok scLGcd (fun vs H Q E h => ?_) (fun cdv A outer s H vs Q E hr h => ?_)
  · obtain ⟨a, b, rfl, _⟩ := h
    rfl
  · obtain ⟨a, b, rfl, q⟩ := h
    refine ⟨_, pss_cons (ps_while PassesOwn.never (pt_cmpR op_ne (pv 1) pe_int (nomark _))
        (pss_one (ps_par (i := 0) (j := 1) (by rfl) scLGcd.nd rfl rfl (by decide) rfl rfl (pa_cons (pv 1) (pa_cons (pe_op op_modN (pv 0) (pv 1)) pa_nil)) (by rfl))))
      (pss_one (ps_ret (pe_callB call_abs (by rfl) ma (by decide +kernel) (pa_cons (pv 0) pa_nil)))), ?_⟩
    refine while_by (fun σ H' => ∃ x y : Int, σ = [some (.int x), some (.int y)] ∧ H' = H ∧ Int.gcd x y = Int.gcd a b) mGcd ⟨a, b, rfl, rfl, rfl⟩ (fun σ H' hP => ?_) (fun σ H Q Q' hh hc => ?_)
    · obtain ⟨x, y, rfl, rfl, e⟩ := hP
      refine ⟨_, rfl, rfl, _, rfl, ?_⟩
      refine ite2 (fun c => ?_) (fun c => ?_)
      · have hy : y ≠ 0 := fun z => by
          subst z
          exact absurd c (by decide)
        refine ⟨_, rfl, _, rfl, _, rfl, x, y, rfl, rfl, hy, _, _, rfl, ⟨y, x.fmod y, rfl, rfl, ?_⟩, fmod_small x hy⟩
        rw [gcd_step]
        exact e
      · have hy : y = 0 := Classical.byContradiction fun z => c (by
          show (!decide (V.int y = V.int 0)) = true
          rw [decide_eq_false (fun q => z (V.int.inj q))]
          rfl)
        subst hy
        refine ⟨_, rfl, x, rfl, ?_⟩
        rw [gcd_zero, e]
        exact q
    · obtain ⟨v, e1, e2, k, e3, e4⟩ := hc
      exact ⟨v, e1, e2, k, e3, hh _ _ e4⟩
abbrev sGcd : Stmt := topS 32
def spPGcd : Sp := fun vs H Q _ => ∃ a b : Int, vs = [.int a, .int b] ∧ b.natAbs < 2 ^ 6000 ∧ Q (.int ((Int.gcd a b : Nat) : Int)) H
theorem scGcd : FnScope ["one", "other"] ["one", "other"] (defScope sGcd) := ⟨rfl, rfl, rfl, by decide +kernel, rfl, by decide +kernel, by decide +kernel⟩
/-- numbers of at most 6000 bits are divided as ever -/
theorem ok_gcd {f : Addr} {fd : FuncData} {k : Nat} (F : Fun K "common_divisor" "common_divisor" sGcd f fd) (ma : mg "abs" = none) (mL : ∃ t, mg "LONG" = some (.int 6000 t)) : FnOk P w K mg base CX0 (k + 1) f fd ["one", "other"] spPGcd := by
  obtain ⟨tL, hL⟩ := mL
  refine F.ok scGcd (fun vs H Q E h => ?_) (fun cdv A outer s H vs Q E hr h => ?_)
  · obtain ⟨a, b, rfl, _⟩ := h
    rfl
  · obtain ⟨a, b, rfl, hb, q⟩ := h
    refine ⟨_, pss_cons (ps_if (pt_cmpR op_gt (pe_bits (pv 1)) (pe_glob (v := .int 6000) (by rfl) hL ⟨_, rfl⟩) (nomark _)) pss_never pss_nil)
      (pss_cons (ps_while PassesOwn.never (pt_cmpR op_ne (pv 1) pe_int (nomark _))
        (pss_one (ps_par (i := 0) (j := 1) (by rfl) scGcd.nd rfl rfl (by decide) rfl rfl (pa_cons (pv 1) (pa_cons (pe_op op_modN (pv 0) (pv 1)) pa_nil)) (by rfl))))
      (pss_one (ps_ret (pe_callB call_abs (by rfl) ma (by decide +kernel) (pa_cons (pv 0) pa_nil))))), ?_⟩
    have hs : ¬ (6000 : Int) < ((Builtin.Int.intBits b : Nat) : Int) := by
      have := PyProof.Rows.intBits_le hb
      omega
    refine ⟨_, rfl, b, rfl, _, 6000, rfl, rfl, _, rfl, ite2 (fun c => absurd (of_decide_eq_true c) hs) (fun _ => ?_)⟩
    refine while_by (fun σ H' => ∃ x y : Int, σ = [some (.int x), some (.int y)] ∧ H' = H ∧ Int.gcd x y = Int.gcd a b) mGcd ⟨a, b, rfl, rfl, rfl⟩ (fun σ H' hP => ?_) (fun σ H Q Q' hh hc => ?_)
    · obtain ⟨x, y, rfl, rfl, e⟩ := hP
      refine ⟨_, rfl, rfl, _, rfl, ?_⟩
      refine ite2 (fun c => ?_) (fun c => ?_)
      · have hy : y ≠ 0 := fun z => by
          subst z
          exact absurd c (by decide)
        refine ⟨_, rfl, _, rfl, _, rfl, x, y, rfl, rfl, hy, _, _, rfl, ⟨y, x.fmod y, rfl, rfl, ?_⟩, fmod_small x hy⟩
        rw [gcd_step]
        exact e
      · have hy : y = 0 := Classical.byContradiction fun z => c (by
          show (!decide (V.int y = V.int 0)) = true
          rw [decide_eq_false (fun q => z (V.int.inj q))]
          rfl)
        subst hy
        refine ⟨_, rfl, x, rfl, ?_⟩
        rw [gcd_zero, e]
        exact q
    · obtain ⟨v, e1, e2, k, e3, e4⟩ := hc
      exact ⟨v, e1, e2, k, e3, hh _ _ e4⟩
def spFr : Sp := fun vs H Q _ => ∃ t b : Int, vs = [.int t, .int b] ∧ b ≠ 0 ∧ b.natAbs < 2 ^ 8000 ∧ newSh H Q (frT t b) (frB t b)
theorem at0 {a b : V} : atI [a, b] 0 = some a := rfl
theorem at1 {a b : V} : atI [a, b] 1 = some b := rfl
abbrev sLFr : Stmt := topS 70
theorem scLFr : FnScope ["_law_top", "_law_bottom", "_law_per"] ["_law_top", "_law_bottom"] (defScope sLFr) := ⟨rfl, rfl, rfl, by decide +kernel, rfl, by decide +kernel, by decide +kernel⟩
theorem ok_law_fr {f : Addr} {fd : FuncData} (F : Fun K "_law_fr" "_law_fr" sLFr f fd) (GG : C8.Cal P w K mg base 1 "_law_gcd" spGcd []) : FnOk P w K mg base CX0 2 f fd ["_law_top", "_law_bottom"] spFr := by
  refine F.ok scLFr (fun vs H Q E h => ?_) (fun cdv A outer s H vs Q E hr h => ?_)
  · obtain ⟨a, b, rfl, _⟩ := h
    rfl
  · obtain ⟨t, b, rfl, e, hb, q1⟩ := h
    refine ⟨_, pss_cons (ps_set (i := 2) scLFr.nd rfl (.inl rfl) (C8.pe_c GG hr (by decide) (by rfl) (pa_cons (pv 0) (pa_cons (pv 1) pa_nil))))
      (pss_cons (ps_set (i := 2) scLFr.nd rfl (.inl rfl) (pe_ifExp (pt_cmpR op_lt (pv 1) pe_int (nomark _)) (pe_op op_sub pe_int (pv 2)) (pv 2)))
      (pss_one (ps_ret (pe_tup (pa_cons (pe_op op_div (pv 0) (pv 2)) (pa_cons (pe_op op_div (pv 1) (pv 2)) pa_nil)))))), ?_⟩
    refine ⟨_, rfl, _, rfl, t, b, rfl, ?_⟩
    have fin : ∀ d : Int, d = per t b → tRet (tTup (tCons (tOp (rI DivOk fun i j => .int (i.fdiv j)) (tVar 0) (tVar 2)) (tCons (tOp (rI DivOk fun i j => .int (i.fdiv j)) (tVar 1) (tVar 2)) tNil)))
        { nx := fun _ H' => Q .non H', rt := Q } [some (.int t), some (.int b), some (.int d)] H := fun d hd => by
      have ok : DivOk t d := ⟨by rw [hd]; exact per_ne t e, by rw [hd]; exact Nat.lt_of_le_of_lt (per_le t e) hb⟩
      refine ⟨_, rfl, _, rfl, t, d, rfl, rfl, ok, _, rfl, _, rfl, b, d, rfl, rfl, ok, (by show 2 ≤ sizeLine; decide), fun p hp => ?_⟩
      rw [hd]
      exact q1.at_ p hp
    refine ⟨_, rfl, b, 0, rfl, rfl, _, rfl, ite2 (fun c2 => ?_) (fun c2 => ?_)⟩
    · have l : b < 0 := of_decide_eq_true c2
      refine ⟨_, rfl, 0, _, rfl, rfl, ?_⟩
      exact fin _ (by unfold per; rw [if_pos l]; omega)
    · have l : ¬ b < 0 := fun z => c2 (decide_eq_true z)
      refine ⟨_, rfl, ?_⟩
      exact fin _ (by unfold per; rw [if_neg l])
abbrev sPull : Stmt := topS 65
theorem scPull : FnScope ["_law_bag_here", "_law_sides", "_law_cell", "_law_got", "_law_seed"] ["_law_bag_here", "_law_sides"] (defScope sPull) := ⟨rfl, rfl, rfl, by decide +kernel, rfl, by decide +kernel, by decide +kernel⟩
theorem at_in {xs : List V} {r : Int} (h0 : 0 ≤ r) (h : r.toNat < xs.length) : atI xs r = some xs[r.toNat] := by
  obtain ⟨n, rfl⟩ := Int.eq_ofNat_of_zero_le h0
  exact atI_nat (List.getElem?_eq_getElem h)
theorem ok_pull {f : Addr} {fd : FuncData} {k : Nat} (F : Fun K "_law_pull" "_law_pull" sPull f fd) (ml : mg "len" = none) : FnOk P w K mg base CX0 (k + 1) f fd ["_law_bag_here", "_law_sides"] spPull := by
  refine F.ok scPull (fun vs H Q E h => ?_) (fun cdv A outer s H vs Q E hr h => ?_)
  · obtain ⟨l, b, m, rfl, _⟩ := h
    rfl
  · obtain ⟨l, b, m, rfl, hm, hm9, ⟨ns, nlb, hl, ⟨i, j, sa, n, hb, hi, hj, hs, hs2⟩⟩, q⟩ := h
    have hm8 : CDivW 0 m := wide_div hm hm9 (by decide) (by decide)
    refine ⟨_, pss_cons (ps_if (PW.pt (pw_and (pt_cmpR op_eq (pe_ix ix_list (pv 0) pe_int (fun _ _ => rfl)) pe_int (nomark _))
          (pw_and1 (pt_cmpR op_lt (pe_ix ix_list (pv 0) pe_int (fun _ _ => rfl)) (pe_callB call_len_seq (by rfl) ml PySem.boot_len (pa_cons (pe_ix ix_list (pv 0) pe_int (fun _ _ => rfl)) pa_nil)) (nomark _)))))
        (pss_cons (ps_set (i := 2) scPull.nd rfl (.inl rfl) (pe_ix ix_list (pe_ix ix_list (pv 0) pe_int (fun _ _ => rfl)) (pe_ix ix_list (pv 0) pe_int (fun _ _ => rfl)) (fun _ _ => rfl)))
        (pss_cons (ps_asg (pe_op op_add (pe_ix ix_list (pv 0) pe_int (fun _ _ => rfl)) pe_int) (pg_sub (pv 0) pe_int set_list))
        (pss_one (ps_if (pt_cmpR op_ge (pv 2) (pe_op op_pow pe_int pe_int) (nomark _)) (pss_one (ps_asg (pv 2) (pg_sub (pv 0) pe_int set_list)))
          (pss_one (ps_asg (pe_op op_mod (pe_op op_add (pe_op op_add (pe_op op_mul (pe_ix ix_list (pv 0) pe_int (fun _ _ => rfl)) pe_int) (pe_op op_mod (pv 2) pe_int)) pe_int) pe_int) (pg_sub (pv 0) pe_int set_list)))))))
        pss_nil)
      (pss_cons (ps_if (pt_cmpR op_gt (pe_ix ix_list (pv 0) pe_int (fun _ _ => rfl)) pe_int (nomark _))
        (pss_cons (ps_set (i := 3) scPull.nd rfl (.inl rfl) (pe_op op_mod (pe_ix ix_list (pv 0) pe_int (fun _ _ => rfl)) (pv 1)))
        (pss_cons (ps_asg (pe_op op_fdivW (pe_ix ix_list (pv 0) pe_int (fun _ _ => rfl)) (pv 1)) (pg_sub (pv 0) pe_int set_list))
        (pss_one (ps_ret (pv 3))))) pss_nil)
      (pss_cons (ps_asg (pe_op op_add (pe_ix ix_list (pv 0) pe_int (fun _ _ => rfl)) pe_int) (pg_sub (pv 0) pe_int set_list))
      (pss_cons (ps_set (i := 4) scPull.nd rfl (.inl rfl) (pe_op op_mod (pe_op op_add (pe_ix ix_list (pv 0) pe_int (fun _ _ => rfl)) (pe_op op_mul (pe_ix ix_list (pv 0) pe_int (fun _ _ => rfl)) pe_int)) pe_int))
      (pss_cons (ps_asg (pe_op op_mod (pe_op op_add (pe_op op_add (pe_op op_mul (pe_op op_mod (pe_op op_mul (pv 4) (pv 4)) pe_int) (pe_op op_add (pe_op op_mod (pv 4) pe_int) pe_int)) (pe_op op_mul pe_int (pv 4))) pe_int) pe_int) (pg_sub (pv 0) pe_int set_list))
      (pss_one (ps_ret (pe_op op_mod (pe_op op_add (pe_op op_fdiv (pe_ix ix_list (pv 0) pe_int (fun _ _ => rfl)) pe_int) (pe_op op_mul (pe_op op_mod (pe_ix ix_list (pv 0) pe_int (fun _ _ => rfl)) pe_int) pe_int)) (pv 1)))))))), ?_⟩
    refine keep (fun σ' H' => ∃ (i j sa n : Int) (y : Option V), σ' = [some (.ref b), some (.int m), y, none, none] ∧ H' b = some (.lst (bagL l i j sa n)) ∧ 0 ≤ i ∧ 0 ≤ j ∧ 0 ≤ sa ∧ sa < 2147483647 ∧ But b H H') (fun σ' H1 hM => ?_) (fun rest => ?_)
    · obtain ⟨i, j, sa, n, y, rfl, hb, hi, hj, hs, hs2, bt⟩ := hM
      have bagOf : ∀ (H2 : Hp), But b H H2 → BagAt l b H2 → Bag l b H2 := fun H2 bt2 x => ⟨ns, nlb, by rw [bt2 l nlb]; exact hl, x⟩
      refine ⟨_, rfl, b, _, 2, _, rfl, rfl, SqL.of hb, rfl, j, 0, rfl, rfl, _, rfl, ite2 (fun c => ?_) (fun c => ?_)⟩
      · -- what is left of a great number
        refine ⟨_, rfl, b, _, 2, _, rfl, rfl, SqL.of hb, rfl, _, rfl, j, m, rfl, rfl, hm, ?_⟩
        refine ⟨_, rfl, b, _, 2, _, rfl, rfl, SqL.of hb, rfl, _, rfl, j, m, rfl, rfl, hm8, _, rfl, b, _, 2, 2, rfl, rfl, hb, rfl, ?_⟩
        refine ⟨_, rfl, ?_⟩
        exact q _ _ (Int.emod_nonneg j (by omega)) (Int.emod_lt_of_pos j hm) (bagOf _ bt.upd ⟨⟨i, j / m, sa, n, upd_same, hi, Int.ediv_nonneg hj (by omega), hs, hs2⟩⟩) bt.upd
      · refine ⟨_, rfl, b, _, 4, _, rfl, rfl, SqL.of hb, rfl, n, 1, rfl, rfl, _, rfl, b, _, 4, 4, rfl, rfl, hb, rfl, ?_⟩
        have hb2 : (upd H1 b (.lst (bagL l i j sa (n + 1)))) b = some (.lst (bagL l i j sa (n + 1))) := upd_same
        refine ⟨_, rfl, b, _, 3, _, rfl, rfl, SqL.of hb2, rfl, _, rfl, b, _, 4, _, rfl, rfl, SqL.of hb2, rfl, n + 1, 7211, rfl, rfl, .inr ⟨by decide, by decide⟩, sa, _, rfl, rfl, _, 2147483647, rfl, rfl, (by show (0 : Int) < _; decide), ?_⟩
        have r0 := Int.emod_nonneg (sa + (n + 1) * 7211) (show (2147483647 : Int) ≠ 0 by decide)
        have r1 := Int.emod_lt_of_pos (sa + (n + 1) * 7211) (show (0 : Int) < 2147483647 by decide)
        show tSeq _ _ _ [some (.ref b), some (.int m), y, none, some (.int ((sa + (n + 1) * 7211) % 2147483647))] _
        generalize (sa + (n + 1) * 7211) % 2147483647 = sd at r0 r1 ⊢
        have t0 := Int.emod_nonneg (sd * sd) (show (2147483629 : Int) ≠ 0 by decide)
        have t1 := Int.emod_lt_of_pos (sd * sd) (show (0 : Int) < 2147483629 by decide)
        refine ⟨_, rfl, _, rfl, sd, sd, rfl, rfl, .inl ⟨by omega, by omega⟩, _, 2147483629, rfl, rfl, (by show (0 : Int) < _; decide), _, rfl, sd, 30011, rfl, rfl, (by show (0 : Int) < _; decide), _, 5, rfl, rfl, _, _, rfl, rfl, .inl ⟨by omega, by omega⟩, _, rfl, 20011, sd, rfl, rfl, .inl ⟨by decide, by decide⟩, _, _, rfl, rfl, _, 977, rfl, rfl, _, 2147483647, rfl, rfl, (by show (0 : Int) < _; decide), _, rfl, b, _, 3, 3, rfl, rfl, hb2, rfl, ?_⟩
        have s0 := Int.emod_nonneg (sd * sd % 2147483629 * (sd % 30011 + 5) + 20011 * sd + 977) (show (2147483647 : Int) ≠ 0 by decide)
        have s1 := Int.emod_lt_of_pos (sd * sd % 2147483629 * (sd % 30011 + 5) + 20011 * sd + 977) (show (0 : Int) < 2147483647 by decide)
        have hb3 : (upd (upd H1 b (.lst (bagL l i j sa (n + 1)))) b (.lst (bagL l i j ((sd * sd % 2147483629 * (sd % 30011 + 5) + 20011 * sd + 977) % 2147483647) (n + 1)))) b = some (.lst (bagL l i j ((sd * sd % 2147483629 * (sd % 30011 + 5) + 20011 * sd + 977) % 2147483647) (n + 1))) := upd_same
        refine ⟨_, rfl, b, _, 3, _, rfl, rfl, SqL.of hb3, rfl, _, 71, rfl, rfl, ⟨by decide, by decide⟩, _, rfl, b, _, 3, _, rfl, rfl, SqL.of hb3, rfl, _, 8191, rfl, rfl, (by show (0 : Int) < _; decide), _, 41, rfl, rfl, .inr ⟨by decide, by decide⟩, _, _, rfl, rfl, _, rfl, _, m, rfl, rfl, hm, ?_⟩
        exact q _ _ (Int.emod_nonneg _ (by omega)) (Int.emod_lt_of_pos _ hm) (bagOf _ bt.upd.upd ⟨⟨i, j, _, n + 1, upd_same, hi, hj, s0, s1⟩⟩) bt.upd.upd
    · have stay := rest [some (.ref b), some (.int m), none, none, none] H ⟨i, j, sa, n, none, rfl, hb, hi, hj, hs, hs2, But.refl b H⟩
      refine ⟨_, rfl, b, _, 2, _, rfl, rfl, SqL.of hb, rfl, rfl, _, rfl, ite2 (fun c => ?_) (fun c => ?_)⟩
      · refine ⟨_, rfl, b, _, 1, _, rfl, rfl, SqL.of hb, rfl, _, rfl, b, _, 0, _, rfl, rfl, SqL.of hb, rfl, l, _, rfl, .inl (SqL.of hl), i, _, rfl, rfl, _, rfl, ite2 (fun c2 => ?_) (fun c2 => ?_)⟩
        · have hlt : i < ((ns.map V.int).length : Int) := of_decide_eq_true c2
          rw [List.length_map] at hlt
          obtain ⟨cell, hc⟩ : ∃ cell : Int, atI (ns.map V.int) i = some (.int cell) := by
            have h1 : i.toNat < (ns.map V.int).length := by rw [List.length_map]; omega
            refine ⟨ns[i.toNat]'(by rw [List.length_map] at h1; exact h1), ?_⟩
            rw [at_in hi h1, List.getElem_map]
          refine ⟨_, rfl, b, _, 0, _, rfl, rfl, SqL.of hb, rfl, _, rfl, b, _, 1, _, rfl, rfl, SqL.of hb, rfl, l, _, i, _, rfl, rfl, SqL.of hl, hc, ?_⟩
          refine ⟨_, rfl, b, _, 1, _, rfl, rfl, SqL.of hb, rfl, i, 1, rfl, rfl, _, rfl, b, _, 1, 1, rfl, rfl, hb, rfl, ?_⟩
          have hb2 : (upd H b (.lst (bagL l (i + 1) j sa n))) b = some (.lst (bagL l (i + 1) j sa n)) := upd_same
          refine ⟨_, rfl, 10, 18, rfl, rfl, ⟨by decide, by decide, by decide⟩, cell, _, rfl, rfl, _, rfl, ite2 (fun c3 => ?_) (fun c3 => ?_)⟩
          · have hbig : (10 : Int) ^ (18 : Int).toNat ≤ cell := of_decide_eq_true c3
            have hpos : (0 : Int) ≤ cell := Int.le_trans (by decide) hbig
            refine ⟨_, rfl, _, rfl, b, _, 2, 2, rfl, rfl, hb2, rfl, ?_⟩
            exact rest _ _ ⟨i + 1, cell, sa, n, _, rfl, upd_same, by omega, hpos, hs, hs2, (But.refl b H).upd.upd⟩
          · refine ⟨_, rfl, b, _, 3, _, rfl, rfl, SqL.of hb2, rfl, sa, 40283, rfl, rfl, .inr ⟨by decide, by decide⟩, _, rfl, cell, 2147483587, rfl, rfl, (by show (0 : Int) < _; decide), _, _, rfl, rfl, _, 7, rfl, rfl, _, 2147483647, rfl, rfl, (by show (0 : Int) < _; decide), _, rfl, b, _, 3, 3, rfl, rfl, hb2, rfl, ?_⟩
            exact rest _ _ ⟨i + 1, j, _, n, _, rfl, upd_same, by omega, hj, Int.emod_nonneg _ (by decide), Int.emod_lt_of_pos _ (by decide), (But.refl b H).upd.upd⟩
        · exact stay
      · exact iteF stay
abbrev sOf : Stmt := topS 66
theorem scOf : FnScope ["_law_bag_here", "_law_some"] ["_law_bag_here", "_law_some"] (defScope sOf) := ⟨rfl, rfl, rfl, by decide +kernel, rfl, by decide +kernel, by decide +kernel⟩
/-- one of those that are there -/
def spOf : Sp := fun vs H Q _ => ∃ (l b o : Addr) (xs : List V), vs = [.ref b, .ref o] ∧ o ≠ b ∧ H o = some (.lst xs) ∧ 0 < xs.length ∧ xs.length ≤ 1000 ∧ Bag l b H ∧ ∀ (v : V) (H' : Hp), v ∈ xs → Bag l b H' → But b H H' → Q v H'
theorem small_fit {n : Nat} (h : n ≤ 1000) : ((n : Int)).natAbs < 2 ^ 8000 := Nat.lt_of_le_of_lt (show ((n : Int)).natAbs ≤ 2 ^ 10 by omega) (Nat.pow_lt_pow_right (by decide) (by decide))
theorem ok_of {f : Addr} {fd : FuncData} (F : Fun K "_law_of" "_law_of" sOf f fd) (GP : C8.Cal P w K mg base 1 "_law_pull" spPull []) (ml : mg "len" = none) : FnOk P w K mg base CX0 2 f fd ["_law_bag_here", "_law_some"] spOf := by
  refine F.ok scOf (fun vs H Q E h => ?_) (fun cdv A outer s H vs Q E hr h => ?_)
  · obtain ⟨l, b, o, xs, rfl, _⟩ := h
    rfl
  · obtain ⟨l, b, o, xs, rfl, nob, ho, h0, h1, hB, q⟩ := h
    refine ⟨_, pss_one (ps_ret (pe_ix ix_list (pv 1) (C8.pe_c GP hr (by decide) (by rfl) (pa_cons (pv 0) (pa_cons (pe_callB call_len_seq (by rfl) ml PySem.boot_len (pa_cons (pv 1) pa_nil)) pa_nil))) (fun _ _ => rfl))), ?_⟩
    refine ⟨_, rfl, _, rfl, _, rfl, o, xs, rfl, .inl (SqL.of ho), l, b, _, rfl, by omega, small_fit h1, hB, fun r H' r0 r1 hB' bt => ?_⟩
    have ho' : H' o = some (.lst xs) := by rw [bt o nob]; exact ho
    have hlt : r.toNat < xs.length := by omega
    exact ⟨o, xs, r, xs[r.toNat], rfl, rfl, SqL.of ho', at_in r0 hlt, q _ _ (List.getElem_mem hlt) hB' bt⟩
abbrev sLight : Stmt := topS 71
theorem scLight : FnScope ["_law_bag_here"] ["_law_bag_here"] (defScope sLight) := ⟨rfl, rfl, rfl, by decide +kernel, rfl, by decide +kernel, by decide +kernel⟩
/-- the end of a drawing: fr(t, d) -/
theorem draw_end {l b : Addr} {H H1 : Hp} {Q : VK} {E : XK} {t d : Int} (g : Grow b H H1) (B : Bag l b H1) (ht : t.natAbs < 2 ^ 45) (hd : d.natAbs < 2 ^ 45) (h0 : d ≠ 0)
    (q : ∀ (p : Addr) (t d : Int) (H' : Hp), Drawn t d → Bag l b H' → Grow b H H' → H p = none → H' p = some (.tup [.int t, .int d]) → Q (.ref p) H') : spFr [.int t, .int d] H1 Q E :=
  ⟨t, d, rfl, h0, fit8 hd (by decide), fun p H' sm hp ep => q p _ _ _ (drawn_fr ht hd h0) (B.same sm) (g.trans (Same.grow sm)) (g.free (B.ne hp) hp) ep⟩
theorem ok_light {f : Addr} {fd : FuncData} (F : Fun K "_law_light" "_law_light" sLight f fd) (GF : C8.Cal P w K mg base 2 "_law_fr" spFr []) (GP : C8.Cal P w K mg base 1 "_law_pull" spPull []) : FnOk P w K mg base CX0 3 f fd ["_law_bag_here"] spDraw := by
  refine F.ok scLight (fun vs H Q E h => ?_) (fun cdv A outer s H vs Q E hr h => ?_)
  · obtain ⟨l, b, rfl, _⟩ := h
    rfl
  · obtain ⟨l, b, rfl, B, q⟩ := h
    refine ⟨_, pss_one (ps_ret (C8.pe_c GF hr (by decide) (by rfl) (pa_cons (pe_op op_sub (C8.pe_c GP hr (by decide) (by rfl) (pa_cons (pv 0) (pa_cons pe_int pa_nil))) pe_int)
      (pa_cons (pe_ix ix_list (pe_lst (pa_cons pe_int (pa_cons pe_int (pa_cons pe_int (pa_cons pe_int (pa_cons pe_int (pa_cons pe_int pa_nil))))))) (C8.pe_c GP hr (by decide) (by rfl) (pa_cons (pv 0) (pa_cons pe_int pa_nil))) (fun _ _ => rfl)) pa_nil)))), ?_⟩
    refine ⟨_, rfl, l, b, 9, rfl, by decide, fit8 (n := 4) (by decide) (by decide), B, fun r H1 r0 r1 B1 t1 => ?_⟩
    refine ⟨r, 4, rfl, rfl, (by show 6 ≤ sizeLine; decide), fun o no => ?_⟩
    have B2 := B1.same (same_new (o := .lst [.int 1, .int 1, .int 1, .int 2, .int 3, .int 5]) no)
    refine ⟨_, rfl, l, b, 6, rfl, by decide, fit8 (n := 4) (by decide) (by decide), B2, fun r2 H2 s0 s1 B3 t2 => ?_⟩
    have nob := B1.ne no
    have ho : H2 o = some (.lst [.int 1, .int 1, .int 1, .int 2, .int 3, .int 5]) := by rw [t2 o nob, upd_same]
    have g : Grow b H H2 := t1.grow.trans ((Same.grow (same_new no)).trans t2.grow)
    have pick : ∃ d : Int, atI [V.int 1, V.int 1, V.int 1, V.int 2, V.int 3, V.int 5] r2 = some (.int d) ∧ 0 < d ∧ d ≤ 5 := by
      have : r2 = 0 ∨ r2 = 1 ∨ r2 = 2 ∨ r2 = 3 ∨ r2 = 4 ∨ r2 = 5 := by omega
      rcases this with e | e | e | e | e | e <;> subst e
      · exact ⟨1, rfl, by decide, by decide⟩
      · exact ⟨1, rfl, by decide, by decide⟩
      · exact ⟨1, rfl, by decide, by decide⟩
      · exact ⟨2, rfl, by decide, by decide⟩
      · exact ⟨3, rfl, by decide, by decide⟩
      · exact ⟨5, rfl, by decide, by decide⟩
    obtain ⟨d, hd, d0, d5⟩ := pick
    exact ⟨o, _, r2, _, rfl, rfl, SqL.of ho, hd, draw_end (E := C8.E0) g B3 (Nat.lt_of_le_of_lt (show (r - 4).natAbs ≤ 9 by omega) (by decide)) (Nat.lt_of_le_of_lt (show d.natAbs ≤ 9 by omega) (by decide)) (by omega) q⟩
abbrev sBag : Stmt := topS 64
theorem scBag : FnScope ["_law_script", "_law_salt", "_law_cell"] ["_law_script"] (defScope sBag) := ⟨rfl, rfl, rfl, by decide +kernel, rfl, by decide +kernel, by decide +kernel⟩
/-- a new bag of a script -/
def spBag (K : PySem.W.Frag) : Sp := fun vs H Q _ => ∃ (a : Addr) (ns : List Int), vs = [.ref a] ∧ SqL K H a (ns.map V.int) ∧ ∀ (l b : Addr) (H' : Hp), Same H H' → H b = none → H l = none → Bag l b H' → Q (.ref b) H'
theorem cut63 (ns : List Int) : ∃ ms : List Int, cutV (ns.map V.int) none (some 63) = ms.map V.int := by
  refine ⟨(ns.drop (HT.sIx ns.length 0 none)).take (HT.sIx ns.length ns.length (some 63) - HT.sIx ns.length 0 none), ?_⟩
  unfold cutV
  rw [List.length_map, List.map_take, List.map_drop]
theorem ok_bag {f : Addr} {fd : FuncData} {k : Nat} (F : Fun K "_law_bag" "_law_bag" sBag f fd) (ml : mg "list" = none) : FnOk P w K mg base CX0 (k + 1) f fd ["_law_script"] (spBag K) := by
  refine F.ok scBag (fun vs H Q E h => ?_) (fun cdv A outer s H vs Q E hr h => ?_)
  · obtain ⟨a, ns, rfl, _⟩ := h
    rfl
  · obtain ⟨a, ns, rfl, hS, q⟩ := h
    refine ⟨_, pss_cons (ps_set (i := 1) scBag.nd rfl (.inl rfl) pe_int)
      (pss_cons (ps_for PassesOwn.never rfl (pi_list (pe_slice sl_list (pv 0) po_none (po_some pe_int))) (pg_name (i := 2) scBag.nd rfl (.inl rfl))
        (pss_one (ps_set (i := 1) scBag.nd rfl (.inl rfl) (pe_op op_mod (pe_op op_add (pe_op op_add (pe_op op_mul (pv 1) pe_int) (pe_op op_mod (pv 2) pe_int)) pe_int) pe_int))))
      (pss_one (ps_ret (pe_lst (pa_cons (pe_callTy call_list_of (by rfl) ml (by decide +kernel) (pa_cons (pe_slice sl_list (pv 0) po_none (po_some pe_int)) pa_nil)) (pa_cons pe_int (pa_cons pe_int (pa_cons (pv 1) (pa_cons pe_int pa_nil))))))))), ?_⟩
    obtain ⟨ms, em⟩ := cut63 ns
    refine ⟨_, rfl, 63, rfl, a, _, rfl, hS, fun c nc => ?_⟩
    rw [em]
    have sm : Same H (upd H c (.lst (ms.map V.int))) := same_new nc
    refine ⟨c, rfl, ⟨_, SqL.of upd_same⟩, for_list (K := K) (a := c) (xs := ms.map V.int) (fun i σ H' => ∃ (sa : Int) (y : Option V), σ = [some (.ref a), some (.int sa), y] ∧ 0 ≤ sa ∧ sa < 2147483647 ∧ H' = upd H c (.lst (ms.map V.int))) ⟨9454, none, rfl, by decide, by decide, rfl⟩
      (fun i σ H' _ hP => by obtain ⟨_, _, _, _, _, e⟩ := hP; rw [e]; exact SqL.of upd_same) ?_ ?_⟩
    · rintro i y σ H' hi ⟨sa, y2, rfl, h0, h1, rfl⟩
      obtain ⟨z, rfl⟩ : ∃ z : Int, y = .int z := by
        rw [List.getElem?_map] at hi
        cases e : ms[i]? with
        | none =>
          rw [e] at hi
          cases hi
        | some z =>
          rw [e] at hi
          exact ⟨z, (Option.some.inj hi).symm⟩
      refine ⟨_, rfl, sa, 48611, rfl, rfl, .inr ⟨by decide, by decide⟩, _, rfl, z, 2147483629, rfl, rfl, (by show (0 : Int) < _; decide), _, _, rfl, rfl, _, 23, rfl, rfl, _, 2147483647, rfl, rfl, (by show (0 : Int) < _; decide), ?_⟩
      exact ⟨_, some (.int z), rfl, Int.emod_nonneg _ (by decide), Int.emod_lt_of_pos _ (by decide), rfl⟩
    · rintro σ H' ⟨sa, y2, rfl, h0, h1, rfl⟩
      refine ⟨_, rfl, 63, rfl, a, _, rfl, sm.seq hS, fun c2 nc2 => ?_⟩
      rw [em]
      refine ⟨c2, _, rfl, .inl (SqL.of upd_same), fun l nl => ?_⟩
      refine ⟨_, rfl, (by show 5 ≤ sizeLine; decide), fun b nb => ?_⟩
      have s2 := sm.trans (same_new (o := .lst (ms.map V.int)) nc2)
      have s3 := s2.trans (same_new (o := .lst (ms.map V.int)) nl)
      have s4 := s3.trans (same_new (o := .lst (bagL l 0 0 sa 0)) nb)
      refine q l b _ s4 (s3.free nb) (s2.free nl) ⟨ms, ne_of_none upd_same nb, ?_, ⟨0, 0, sa, 0, upd_same, by decide, by decide, h0, h1⟩⟩
      rw [upd_ne (ne_of_none upd_same nb), upd_same]
end
/-! The law's own comparison: of equal data it tells True. -/
structure Scal (K : PySem.W.Frag) (x : V) : Prop where
  ex : ∃ (t : Value) (b1 b2 b3 : Bool), (∀ H, TyX K H x t) ∧ PySem.W.kitAny K t [.type "list", .type "tuple"] = some false ∧ PySem.W.kitOne K t (.type "bool") = some b1 ∧ PySem.W.kitOne K t (.type "int") = some b2 ∧ PySem.W.kitOne K t (.type "str") = some b3 ∧ scal x x = true
theorem kit2 {K : PySem.W.Frag} {t : String} {a b : String} (h1 : kitB t a = some false) (h2 : kitB t b = some false) : PySem.W.kitAny K (.type t) [.type a, .type b] = some false :=
  kitAny_cons (b := false) (kit_ty h1) (fun _ => kitAny_cons (b := false) (kit_ty h2) (fun _ => kitAny_nil) (fun z => nomatch z)) (fun z => nomatch z)
theorem Scal.int {K : PySem.W.Frag} (i : Int) : Scal K (.int i) := ⟨.type "int", false, true, false, fun _ => .base (.int i), kit2 (by decide +kernel) (by decide +kernel), kit_ty (by decide +kernel), kit_ty (by decide +kernel), kit_ty (by decide +kernel), rfl⟩
theorem Scal.str {K : PySem.W.Frag} (z : Str) : Scal K (.str z) := ⟨.type "str", false, false, true, fun _ => .base (.str z), kit2 (by decide +kernel) (by decide +kernel), kit_ty (by decide +kernel), kit_ty (by decide +kernel), kit_ty (by decide +kernel), rfl⟩
theorem Scal.bl {K : PySem.W.Frag} (b : Bool) : Scal K (.bl b) := ⟨.type "bool", true, true, false, fun _ => .base (.bl b), kit2 (by decide +kernel) (by decide +kernel), kit_ty (by decide +kernel), kit_ty (by decide +kernel), kit_ty (by decide +kernel), rfl⟩
theorem Scal.non {K : PySem.W.Frag} : Scal K .non := ⟨.type "NoneType", false, false, false, fun _ => .base .non, kit2 (by decide +kernel) (by decide +kernel), kit_ty (by decide +kernel), kit_ty (by decide +kernel), kit_ty (by decide +kernel), rfl⟩
/-- x and y are equal data, at most n within one another -/
def Twin (K : PySem.W.Frag) (H : Hp) : Nat → V → V → Prop
  | 0, x, y => x = y ∧ Scal K x
  | n + 1, x, y => (x = y ∧ Scal K x) ∨ ∃ (a b : Addr) (xs ys : List V), x = .ref a ∧ y = .ref b ∧ ((SqL K H a xs ∧ SqL K H b ys) ∨ (SqT K H a xs ∧ SqT K H b ys)) ∧ xs.length = ys.length ∧ ys.length ≤ 1000 ∧ ∀ (i : Nat) (u v : V), xs[i]? = some u → ys[i]? = some v → Twin K H n u v
theorem seqT {K : PySem.W.Frag} {H H' : Hp} {a : Addr} {xs : List V} (e : Same H H') (h : SqT K H a xs) : SqT K H' a xs := by
  rcases h with (h | ⟨o, h⟩) | h
  · exact .inl (.inl (e _ _ h))
  · exact .inl (.inr ⟨o, e _ _ h⟩)
  · exact .inr h
theorem Twin.same {K : PySem.W.Frag} {H H' : Hp} (s : Same H H') : ∀ {n : Nat} {x y : V}, Twin K H n x y → Twin K H' n x y
  | 0, _, _, h => h
  | n + 1, _, _, h => by
    rcases h with h | ⟨a, b, xs, ys, e1, e2, q, l, m, r⟩
    · exact .inl h
    · refine .inr ⟨a, b, xs, ys, e1, e2, ?_, l, m, fun i u v hu hv => (r i u v hu hv).same s⟩
      rcases q with ⟨q1, q2⟩ | ⟨q1, q2⟩
      · exact .inl ⟨s.seq q1, s.seq q2⟩
      · exact .inr ⟨seqT s q1, seqT s q2⟩
theorem Twin.one {K : PySem.W.Frag} {H : Hp} {x : V} (s : Scal K x) : ∀ n : Nat, Twin K H n x x
  | 0 => ⟨rfl, s⟩
  | _ + 1 => .inl ⟨rfl, s⟩
theorem tyL {K : PySem.W.Frag} {H : Hp} {a : Addr} {xs : List V} (h : SqL K H a xs) : TyX K H (.ref a) (.type "list") := by
  rcases h with (h | ⟨o, h⟩) | ⟨o, its, n, h1, h2, _⟩
  · exact .base (.lst h)
  · exact .base (.frz h)
  · exact .kList h1 h2
theorem tyT {K : PySem.W.Frag} {H : Hp} {a : Addr} {xs : List V} (h : SqT K H a xs) : TyX K H (.ref a) (.type "tuple") := by
  rcases h with (h | ⟨o, h⟩) | ⟨o, its, n, h1, h2, _⟩
  · exact .base (.tup h)
  · exact .fTuple h
  · exact .kTuple h1 h2
abbrev sSame : Stmt := topS 67
theorem scSame : FnScope ["_law_found", "_law_due", "_law_k"] ["_law_found", "_law_due"] (defScope sSame) := ⟨rfl, rfl, rfl, by decide +kernel, rfl, by decide +kernel, by decide +kernel⟩
def spSame (K : PySem.W.Frag) (n : Nat) : Sp := fun vs H Q _ => ∃ x y : V, vs = [x, y] ∧ Twin K H n x y ∧ ∀ H', Same H H' → Q (.bl true) H'
/-- the names that the comparison reads stand for the built-in ones -/
structure Blt (mg : Str → Option Value) : Prop where
  isi : mg "isinstance" = none
  lst : mg "list" = none
  tup : mg "tuple" = none
  len : mg "len" = none
  all : mg "all" = none
  rng : mg "range" = none
  bol : mg "bool" = none
  int : mg "int" = none
  str : mg "str" = none
  abs : mg "abs" = none
section
variable {P : Program} {w : World} {K : PySem.W.Frag} {mg : Str → Option Value} {base : Heap}
theorem not_same {b : Bool} {A B : Prop} (h : B) : if (!decide (V.bl b = V.bl b)) = true then A else B := by
  rw [decide_eq_true rfl]
  exact iteF h
theorem yes_if {σ : L2.St} {H : Hp} {A B : Hp → Prop} (h : A H) : tYes σ H fun b H3 => if b = true then A H3 else B H3 := by
  show if true = true then A H else B H
  exact iteT h
theorem ok_same {f : Addr} {fd : FuncData} (F : Fun K "_law_same" "_law_same" sSame f fd) (gf : mg "_law_same" = some (.ref f)) (bf : Binds K fd ["_law_found", "_law_due"] []) (T : Blt mg) :
    ∀ n : Nat, FnOk P w K mg base CX0 (n + 1) f fd ["_law_found", "_law_due"] (spSame K n) := by
  have top : ∀ (n k : Nat), (n = 0 ∨ ∃ m, n = m + 1 ∧ k = m + 1 ∧ FnOk P w K mg base CX0 (m + 1) f fd ["_law_found", "_law_due"] (spSame K m)) → FnOk P w K mg base CX0 (k + 1) f fd ["_law_found", "_law_due"] (spSame K n) := by
    intro n k hn
    -- what the recursion keeps: nothing at depth 0
    have G : ∃ (j : Nat) (sp : Sp), j ≤ k ∧ FnOk P w K mg base CX0 j f fd ["_law_found", "_law_due"] sp ∧ ∀ m, n = m + 1 → sp = spSame K m := by
      rcases hn with e | ⟨m, e, ek, g⟩
      · subst e
        exact ⟨0, fun _ _ _ _ => False, Nat.zero_le _, ⟨fun _ _ _ _ z => z.elim, fun _ _ _ _ _ _ _ _ _ _ _ _ _ z => z.elim⟩, fun m z => nomatch z⟩
      · exact ⟨m + 1, spSame K m, by omega, g, fun m' z => by rw [e] at z; cases z; rfl⟩
    obtain ⟨j, sp, hj, g, hsp⟩ := G
    refine F.ok scSame (fun vs H Q E h => ?_) (fun cdv A outer s H vs Q E hr h => ?_)
    · obtain ⟨x, y, rfl, _⟩ := h
      rfl
    · obtain ⟨x, y, rfl, tw, q⟩ := h
      refine ⟨_, pss_cons (ps_if (pt_val (pe_callB call_isiT (by rfl) T.isi (by decide +kernel) (pa_cons (pv 1) (pa_cons (pe_tup (pa_cons (pe_bltn (v := .ty "list") (by rfl) T.lst (by decide +kernel) rfl) (pa_cons (pe_bltn (v := .ty "tuple") (by rfl) T.tup (by decide +kernel) rfl) pa_nil))) pa_nil))))
          (pss_cons (ps_if (PW.pt (pw_or (pt_cmpR op_ne (pe_callB call_isi (by rfl) T.isi (by decide +kernel) (pa_cons (pv 0) (pa_cons (pe_bltn (v := .ty "list") (by rfl) T.lst (by decide +kernel) rfl) pa_nil))) (pe_callB call_isi (by rfl) T.isi (by decide +kernel) (pa_cons (pv 1) (pa_cons (pe_bltn (v := .ty "list") (by rfl) T.lst (by decide +kernel) rfl) pa_nil))) (nomark _))
              (pw_or1 (pt_cmpR op_ne (pe_callB call_isi (by rfl) T.isi (by decide +kernel) (pa_cons (pv 0) (pa_cons (pe_bltn (v := .ty "tuple") (by rfl) T.tup (by decide +kernel) rfl) pa_nil))) (pe_callB call_isi (by rfl) T.isi (by decide +kernel) (pa_cons (pv 1) (pa_cons (pe_bltn (v := .ty "tuple") (by rfl) T.tup (by decide +kernel) rfl) pa_nil))) (nomark _))))) (pss_one (ps_ret pe_bl)) pss_nil)
          (pss_one (ps_ret (pe_and (pe_cmpR op_eq (pe_callB call_len_seq (by rfl) T.len PySem.boot_len (pa_cons (pv 0) pa_nil)) (pe_callB call_len_seq (by rfl) T.len PySem.boot_len (pa_cons (pv 1) pa_nil)) (nomark _))
            (pe_one (pe_callB (cr_all rfl) (by rfl) T.all (by decide +kernel) (pa_cons (pe_lc (own := [("_law_k", 2)]) (g := gName 2) (tt := tYes) rfl scSame.nd (pi_range1 (by rfl) T.rng (pa_cons (pe_callB call_len_seq (by rfl) T.len PySem.boot_len (pa_cons (pv 1) pa_nil)) pa_nil))
              (blkOk_by (N := ["_law_found", "_law_due", "_law_k"]) (sc := defScope sSame) (by decide +kernel)) (fun _ _ _ _ _ => pg_name (i := 2) scSame.nd rfl (Or.inl rfl)) (fun _ _ _ _ _ => pts_nil)
              (fun _ _ _ _ _ => pe_call g (hr.mono hj) (by rfl) gf F.kp bf .nil pass0 (pa_cons (pe_ix (r := rIx K) ix_seq (pv 0) (pv 2) (fun _ _ => rfl)) (pa_cons (pe_ix (r := rIx K) ix_seq (pv 1) (pv 2) (fun _ _ => rfl)) pa_nil)))) pa_nil))))))) pss_nil)
        (pss_cons (ps_if (PW.pt (pw_or (pt_cmpR op_isN (pv 1) pe_non (nomark _)) (pw_or1 (pt_cmpR op_isN (pv 0) pe_non (nomark _))))) (pss_one (ps_ret (pe_and (pe_cmpR op_isN (pv 0) pe_non (nomark _)) (pe_one (pe_cmpR op_isN (pv 1) pe_non (nomark _)))))) pss_nil)
        (pss_cons (ps_if (PW.pt (pw_or (pt_cmpR op_ne (pe_callB call_isi (by rfl) T.isi (by decide +kernel) (pa_cons (pv 1) (pa_cons (pe_bltn (v := .ty "bool") (by rfl) T.bol (by decide +kernel) rfl) pa_nil))) (pe_callB call_isi (by rfl) T.isi (by decide +kernel) (pa_cons (pv 0) (pa_cons (pe_bltn (v := .ty "bool") (by rfl) T.bol (by decide +kernel) rfl) pa_nil))) (nomark _))
              (pw_or1 (pt_cmpR op_ne (pe_callB call_isi (by rfl) T.isi (by decide +kernel) (pa_cons (pv 1) (pa_cons (pe_bltn (v := .ty "int") (by rfl) T.int (by decide +kernel) rfl) pa_nil))) (pe_callB call_isi (by rfl) T.isi (by decide +kernel) (pa_cons (pv 0) (pa_cons (pe_bltn (v := .ty "int") (by rfl) T.int (by decide +kernel) rfl) pa_nil))) (nomark _))))) (pss_one (ps_ret pe_bl)) pss_nil)
        (pss_one (ps_ret (pe_and (pe_cmpR op_eq (pe_callB call_isi (by rfl) T.isi (by decide +kernel) (pa_cons (pv 1) (pa_cons (pe_bltn (v := .ty "str") (by rfl) T.str (by decide +kernel) rfl) pa_nil))) (pe_callB call_isi (by rfl) T.isi (by decide +kernel) (pa_cons (pv 0) (pa_cons (pe_bltn (v := .ty "str") (by rfl) T.str (by decide +kernel) rfl) pa_nil))) (nomark _))
            (pe_one (pe_cmpR op_eq (pv 0) (pv 1) (nomark _)))))))), ?_⟩
      refine ⟨_, rfl, (by show 2 ≤ sizeLine; decide), fun c nc => ?_⟩
      have sm : Same H (upd H c (.tup [.ty "list", .ty "tuple"])) := same_new nc
      have lt : Paired ClsV [V.ty "list", V.ty "tuple"] [.type "list", .type "tuple"] := .cons (.ty _) (.cons (.ty _) .nil)
      by_cases hs : x = y ∧ Scal K x
      · obtain ⟨rfl, ⟨t, b1, b2, b3, ty, k0, k1, k2, k3, ks⟩⟩ := hs
        refine ⟨x, c, _, t, _, false, rfl, upd_same, lt, ty _, k0, _, rfl, iteF ?_⟩
        refine ⟨_, rfl, rfl, _, rfl, ite2 (fun e => ?_) (fun e => ?_)⟩
        · have en : x = .non := of_decide_eq_true e
          subst en
          refine iteT ⟨_, rfl, rfl, _, rfl, iteT ⟨_, rfl, rfl, ?_⟩⟩
          exact q _ sm
        · refine ⟨_, rfl, rfl, _, rfl, ?_⟩
          rw [eq_false_of_ne_true e]
          refine iteF ?_
          refine ⟨_, rfl, x, _, t, _, b1, rfl, .ty _, ty _, k1, _, rfl, x, _, t, _, b1, rfl, .ty _, ty _, k1, rfl, _, rfl, not_same ?_⟩
          refine ⟨_, rfl, x, _, t, _, b2, rfl, .ty _, ty _, k2, _, rfl, x, _, t, _, b2, rfl, .ty _, ty _, k2, rfl, _, rfl, not_same ?_⟩
          refine ⟨_, rfl, x, _, t, _, b3, rfl, .ty _, ty _, k3, _, rfl, x, _, t, _, b3, rfl, .ty _, ty _, k3, rfl, _, rfl, ?_⟩
          rw [decide_eq_true rfl]
          refine iteT ⟨_, rfl, _, rfl, ks, ?_⟩
          rw [decide_eq_true rfl]
          exact q _ sm
      · cases n with
        | zero => exact absurd tw hs
        | succ m =>
          have esp := hsp m rfl
          subst esp
          rcases tw with tw | ⟨a, b, xs, ys, rfl, rfl, kd, hl, hl2, r⟩
          · exact absurd tw hs
          · have kd' : ∀ H', Same H H' → (SqL K H' a xs ∧ SqL K H' b ys) ∨ (SqT K H' a xs ∧ SqT K H' b ys) := fun H' z => by
              rcases kd with ⟨q1, q2⟩ | ⟨q1, q2⟩
              · exact .inl ⟨z.seq q1, z.seq q2⟩
              · exact .inr ⟨seqT z q1, seqT z q2⟩
            have tys : ∃ (t : Value) (b1 b2 : Bool), (∀ H', Same H H' → TyX K H' (.ref a) t ∧ TyX K H' (.ref b) t) ∧ PySem.W.kitAny K t [.type "list", .type "tuple"] = some true ∧ PySem.W.kitOne K t (.type "list") = some b1 ∧ PySem.W.kitOne K t (.type "tuple") = some b2 := by
              rcases kd with ⟨q1, q2⟩ | ⟨q1, q2⟩
              · exact ⟨.type "list", true, false, fun H' z => ⟨tyL (z.seq q1), tyL (z.seq q2)⟩, kitAny_cons (b := true) (kit_ty (by decide +kernel)) (fun z => nomatch z) (fun _ => rfl), kit_ty (by decide +kernel), kit_ty (by decide +kernel)⟩
              · exact ⟨.type "tuple", false, true, fun H' z => ⟨tyT (seqT z q1), tyT (seqT z q2)⟩, kitAny_cons (b := false) (kit_ty (by decide +kernel)) (fun _ => kitAny_cons (b := true) (kit_ty (by decide +kernel)) (fun z => nomatch z) (fun _ => rfl)) (fun z => nomatch z), kit_ty (by decide +kernel), kit_ty (by decide +kernel)⟩
            obtain ⟨t, b1, b2, ty, k0, k1, k2⟩ := tys
            have ls : ∀ H', Same H H' → (SqL K H' a xs ∨ SqT K H' a xs) ∧ (SqL K H' b ys ∨ SqT K H' b ys) := fun H' z => by
              rcases kd' H' z with ⟨q1, q2⟩ | ⟨q1, q2⟩
              · exact ⟨.inl q1, .inl q2⟩
              · exact ⟨.inr q1, .inr q2⟩
            have ixs : ∀ (H' : Hp), Same H H' → ∀ (zs : List V) (z : Addr) (i : Nat) (v : V) (Q' : VK), (SqL K H' z zs ∨ SqT K H' z zs) → zs[i]? = some v → Q' v H' → rIx K (.ref z) (.int (0 + (i : Int))) H' Q' := fun H' _ zs z i v Q' hz hv hq => by
              have e : (0 : Int) + (i : Int) = (i : Int) := Int.zero_add _
              rw [e]
              rcases hz with hz | hz
              · exact .inl ⟨z, zs, i, v, rfl, rfl, hz, atI_nat hv, hq⟩
              · exact .inr (.inl ⟨z, zs, i, v, rfl, rfl, hz, atI_nat hv, hq⟩)
            refine ⟨_, c, _, t, _, true, rfl, upd_same, lt, (ty _ sm).2, k0, _, rfl, iteT ?_⟩
            refine ⟨_, rfl, _, _, t, _, b1, rfl, .ty _, (ty _ sm).1, k1, _, rfl, _, _, t, _, b1, rfl, .ty _, (ty _ sm).2, k1, rfl, _, rfl, not_same ?_⟩
            refine ⟨_, rfl, _, _, t, _, b2, rfl, .ty _, (ty _ sm).1, k2, _, rfl, _, _, t, _, b2, rfl, .ty _, (ty _ sm).2, k2, rfl, _, rfl, not_same ?_⟩
            refine ⟨_, rfl, a, xs, rfl, (ls _ sm).1, _, rfl, b, ys, rfl, (ls _ sm).2, rfl, _, rfl, ?_⟩
            rw [hl, decide_eq_true rfl]
            refine iteT ⟨_, rfl, b, ys, rfl, (ls _ sm).2, (ys.length : Int), rfl, by omega, by omega, fun D hD => ?_⟩
            have sD := sm.trans (same_new (o := .lst []) hD)
            refine lc_range (lo := 0) (n := (ys.length : Int).toNat) (fun i H' => Same H H' ∧ H D = none ∧ H' D = some (.lst ((List.replicate i true).map V.bl))) ⟨sD, sm.free hD, upd_same⟩ (fun i H' hi hP => ?_) (fun H' hP => ?_)
            · obtain ⟨s1, nD, eD⟩ := hP
              have hi' : i < ys.length := by omega
              have hx : xs[i]? = some (xs[i]'(by omega)) := List.getElem?_eq_getElem (by omega)
              have hy : ys[i]? = some ys[i] := List.getElem?_eq_getElem hi'
              refine ⟨rfl, yes_if ?_⟩
              refine ⟨_, rfl, _, rfl, ixs H' s1 xs a i _ _ (ls _ s1).1 hx ⟨_, rfl, _, rfl, ixs H' s1 ys b i _ _ (ls _ s1).2 hy ⟨_, _, rfl, (r i _ _ hx hy).same s1, fun H2 s2 => ?_⟩⟩⟩
              refine ⟨_, s2 _ _ eD, ?_, ?_, nD, ?_⟩
              · rw [List.length_map, List.length_replicate]
                exact small1000 (by omega)
              · exact fun z o hz => by
                  rw [upd_ne (ne_of_none hz nD)]
                  exact s2 _ _ (s1 _ _ hz)
              · rw [upd_same, List.replicate_succ', List.map_append]
                rfl
            · obtain ⟨s1, nD, eD⟩ := hP
              refine ⟨D, List.replicate (ys.length : Int).toNat true, rfl, SqL.of eD, ?_⟩
              have e : (List.replicate (ys.length : Int).toNat true).all id = true := by
                rw [List.all_replicate]
                split <;> rfl
              rw [e]
              exact q _ s1
  intro n
  induction n with
  | zero => exact top 0 0 (.inl rfl)
  | succ m ih => exact top (m + 1) (m + 1) (.inr ⟨m, rfl, rfl, ih⟩)
end
open LamX
/-- keep, behind a statement -/
theorem keepN {a b : TS} {D : Ends} {rt : VK} {bk ct : L2.St → Hp → Prop} {σ : L2.St} {H : Hp} (M : L2.St → Hp → Prop) (h : ∀ σ' H', M σ' H' → b D σ' H') (k : (∀ σ' H', M σ' H' → b D σ' H') → a { D with nx := b D } σ H) : Ends.nx { nx := tSeq a b D, rt := rt, bk := bk, ct := ct } σ H := k h
/-- the bag and the tables of code objects stand -/
structure Ok (l b : Addr) (T : List (Addr × Str)) (H : Hp) : Prop where
  bag : Bag l b H
  tab : Tabs T H
theorem tabs_lst {D : Addr} {xs : List V} {T : List (Addr × Str)} {H H' : Hp} (hD : H D = some (.lst xs)) (t : Tabs T H) (g : Grow D H H') : Tabs T H' := fun p hp => by
  obtain ⟨ps, h1, h2, h3⟩ := t p hp
  refine ⟨ps, g _ _ (fun z => ?_) h1, h2, fun pos cv hc => ?_⟩
  · rw [z, hD] at h1
    cases h1
  · obtain ⟨c, e1, e2⟩ := h3 pos cv hc
    refine ⟨c, e1, g _ _ (fun z => ?_) e2⟩
    rw [z, hD] at e2
    have e3 := Option.some.inj e2
    unfold CodeO at e3
    cases e3
theorem tabs_grow {l b : Addr} {T : List (Addr × Str)} {H H' : Hp} (B : Bag l b H) (t : Tabs T H) (g : Grow b H H') : Tabs T H' := by
  obtain ⟨ns, _, _, ⟨i, j, s, n, hb, _⟩⟩ := B
  exact tabs_lst hb t g
theorem Ok.grow {l b : Addr} {T : List (Addr × Str)} {H H' : Hp} (o : Ok l b T H) (g : Grow b H H') (B : Bag l b H') : Ok l b T H' := ⟨B, tabs_grow o.bag o.tab g⟩
theorem Ok.same {l b : Addr} {T : List (Addr × Str)} {H H' : Hp} (o : Ok l b T H) (s : Same H H') : Ok l b T H' := ⟨o.bag.same s, o.tab.ext s⟩
theorem Ok.ext {l b : Addr} {T : List (Addr × Str)} {H H' : Hp} (o : Ok l b T H) (e : ExtN H H') (t : Tabs T H') : Ok l b T H' := by
  obtain ⟨ns, nl, hl, ⟨i, j, s, n, hb, r⟩⟩ := o.bag
  exact ⟨⟨ns, nl, e _ _ hl (fun _ z => nomatch z), ⟨i, j, s, n, e _ _ hb (fun _ z => nomatch z), r⟩⟩, t⟩
/-- a list that is being built stands beside the bag -/
theorem Bag.beside {l b D : Addr} {H : Hp} {o : HO} (B : Bag l b H) (n1 : D ≠ b) (n2 : D ≠ l) : Bag l b (upd H D o) := by
  obtain ⟨ns, nl, hl, ⟨i, j, s, n, hb, r⟩⟩ := B
  exact ⟨ns, nl, by rw [upd_ne n2.symm]; exact hl, ⟨i, j, s, n, by rw [upd_ne n1.symm]; exact hb, r⟩⟩
theorem Bag.neL {l b p : Addr} {H : Hp} (B : Bag l b H) (h : H p = none) : p ≠ l := fun z => by
  obtain ⟨ns, nl, hl, _⟩ := B
  rw [z, hl] at h
  cases h
def shV (t b : Int) : HO := .tup [.int t, .int b]
theorem twin_sh {K : PySem.W.Frag} {H : Hp} {p q : Addr} {t b : Int} (hp : H p = some (shV t b)) (hq : H q = some (shV t b)) : Twin K H 1 (.ref p) (.ref q) :=
  .inr ⟨p, q, _, _, rfl, rfl, .inr ⟨SqT.of hp, SqT.of hq⟩, rfl, (by show 2 ≤ 1000; decide), fun i u v hu hv => by
    have e : u = v := Option.some.inj (hu.symm.trans hv)
    subst e
    match i with
    | 0 => cases hu; exact ⟨rfl, Scal.int t⟩
    | 1 => cases hu; exact ⟨rfl, Scal.int b⟩
    | i + 2 => cases hu⟩
theorem Twin.up {K : PySem.W.Frag} {H : Hp} : ∀ {n : Nat} {x y : V}, Twin K H n x y → Twin K H (n + 1) x y
  | 0, _, _, h => .inl h
  | n + 1, _, _, h => by
    rcases h with h | ⟨a, b, xs, ys, e1, e2, q, l, m, r⟩
    · exact .inl h
    · exact .inr ⟨a, b, xs, ys, e1, e2, q, l, m, fun i u v hu hv => (r i u v hu hv).up⟩
theorem paired_at {R : V → V → Prop} : ∀ {xs ys : List V}, Paired R xs ys → ∀ (i : Nat) (u v : V), xs[i]? = some u → ys[i]? = some v → R u v
  | _, _, .nil, _, _, _, hu, _ => by cases hu
  | _, _, .cons h _, 0, _, _, hu, hv => by cases hu; cases hv; exact h
  | _, _, .cons _ r, i + 1, u, v, hu, hv => paired_at r i u v hu hv
/-- lists or tuples item by item -/
theorem twin_all {K : PySem.W.Frag} {H : Hp} {n : Nat} {a b : Addr} {xs ys : List V} (h : (SqL K H a xs ∧ SqL K H b ys) ∨ (SqT K H a xs ∧ SqT K H b ys)) (l : ys.length ≤ 1000) (r : Paired (Twin K H n) xs ys) : Twin K H (n + 1) (.ref a) (.ref b) :=
  .inr ⟨a, b, xs, ys, rfl, rfl, h, Paired.length r, l, paired_at r⟩
end Nv

set_option maxRecDepth 100000
set_option maxHeartbeats 4000000
/-! Reckonings as they stand in memory. -/
namespace Nv
open PySem PySem.Spec PyProof.Rows L2
inductive Op where
  | plus | less | times
  deriving DecidableEq
def Op.word : Op → Str
  | .plus => "plus"
  | .less => "less"
  | .times => "times"
/-- a reckoning with the addresses of its tuples -/
inductive AT where
  | sh (p q : Addr) (t b : Int)
  | le (p : Addr) (x : Str)
  | two (p : Addr) (o : Op) (A B : AT)
  | un (p : Addr) (A : AT)
def AT.at_ : AT → Addr
  | .sh p _ _ _ => p
  | .le p _ => p
  | .two p _ _ _ => p
  | .un p _ => p
def AT.v (T : AT) : V := .ref T.at_
def AT.word : AT → Str
  | .sh _ _ _ _ => "share"
  | .le _ _ => "letter"
  | .two _ o _ _ => o.word
  | .un _ _ => "undo"
def AT.kids : AT → List AT
  | .sh _ _ _ _ => []
  | .le _ _ => []
  | .two _ _ A B => [A, B]
  | .un _ A => [A]
/-- what stands in its tuple behind the word -/
def AT.rest : AT → List V
  | .sh _ q _ _ => [.ref q]
  | .le _ x => [.str x]
  | .two _ _ A B => [A.v, B.v]
  | .un _ A => [A.v]
def AT.items (T : AT) : List V := .str T.word :: T.rest
/-- its tuples stand so -/
def AT.In (H : Hp) : AT → Prop
  | .sh p q t b => H p = some (.tup [.str "share", .ref q]) ∧ H q = some (.tup [.int t, .int b])
  | .le p x => H p = some (.tup [.str "letter", .str x])
  | .two p o A B => H p = some (.tup [.str o.word, A.v, B.v]) ∧ A.In H ∧ B.In H
  | .un p A => H p = some (.tup [.str "undo", A.v]) ∧ A.In H
def AT.parts : AT → List AT
  | .two p o A B => .two p o A B :: (A.parts ++ B.parts)
  | .un p A => .un p A :: A.parts
  | T => [T]
def AT.count : AT → Nat
  | .two _ _ A B => 1 + A.count + B.count
  | .un _ A => 1 + A.count
  | _ => 1
def AT.deep : AT → Nat
  | .two _ _ A B => max A.deep B.deep
  | .un _ A => A.deep + 1
  | _ => 0
/-- its letters, by places -/
def AT.lets : AT → List Str
  | .le _ x => [x]
  | .two _ _ A B => A.lets ++ B.lets
  | .un _ A => A.lets
  | _ => []
def AT.undos : AT → Nat → List Nat
  | .two _ _ A B, n => A.undos (n + 1) ++ B.undos (n + 1 + A.count)
  | .un _ A, n => A.undos (n + 1) ++ [n]
  | _, _ => []
/-- a letter is a text of 1 to 6 small letters -/
structure Small (x : Str) : Prop where
  lo : 1 ≤ x.length
  hi : x.length ≤ 6
  all : ∀ c ∈ x.cps.toList, c ∈ (Str.ofString "abcdefghijklmnopqrstuvwxyz").cps.toList
structure ShOk (t b : Int) : Prop where
  top : t.natAbs < 10 ^ 12
  bot : b < 10 ^ 12
  pos : 1 ≤ b
  low : Int.gcd t b = 1
/-- its shares and letters are such -/
def AT.Ok : AT → Prop
  | .sh _ _ t b => ShOk t b
  | .le _ x => Small x
  | .two _ _ A B => A.Ok ∧ B.Ok
  | .un _ A => A.Ok
/-- tuples stay -/
def TupKeep (H H' : Hp) : Prop := ∀ a xs, H a = some (.tup xs) → H' a = some (.tup xs)
theorem TupKeep.refl (H : Hp) : TupKeep H H := fun _ _ h => h
theorem TupKeep.trans {H H1 H2 : Hp} (x : TupKeep H H1) (y : TupKeep H1 H2) : TupKeep H H2 := fun a xs h => y a xs (x a xs h)
theorem Same.tk {H H' : Hp} (s : Same H H') : TupKeep H H' := fun a xs h => s a _ h
theorem tk_new {H : Hp} {p : Addr} {o : HO} (h : H p = none) : TupKeep H (upd H p o) := fun a xs e => by
  rw [upd_ne (ne_of_none e h)]
  exact e
/-- a list is stored to -/
theorem tk_lst {H : Hp} {p : Addr} {ys : List V} {o : HO} (h : H p = some (.lst ys)) : TupKeep H (upd H p o) := fun a xs e => by
  rw [upd_ne (fun z => by rw [z, h] at e; cases e)]
  exact e
theorem AT.In.keep {H H' : Hp} (k : TupKeep H H') : ∀ {T : AT}, T.In H → T.In H'
  | .sh _ _ _ _, h => ⟨k _ _ h.1, k _ _ h.2⟩
  | .le _ _, h => k _ _ h
  | .two _ _ _ _, h => ⟨k _ _ h.1, h.2.1.keep k, h.2.2.keep k⟩
  | .un _ _, h => ⟨k _ _ h.1, h.2.keep k⟩
theorem AT.In.tup {H : Hp} : ∀ {T : AT}, T.In H → H T.at_ = some (.tup T.items)
  | .sh _ _ _ _, h => h.1
  | .le _ _, h => h
  | .two _ _ _ _, h => h.1
  | .un _ _, h => h.1
theorem AT.In.kid {H : Hp} : ∀ {T : AT}, T.In H → ∀ A ∈ T.kids, A.In H
  | .sh _ _ _ _, _, _, hA => nomatch hA
  | .le _ _, _, _, hA => nomatch hA
  | .two _ _ _ _, h, A, hA => by
    rcases List.mem_cons.mp hA with e | e
    · rw [e]; exact h.2.1
    · rw [List.mem_singleton.mp e]; exact h.2.2
  | .un _ _, h, A, hA => by rw [List.mem_singleton.mp hA]; exact h.2
theorem AT.Ok.kid : ∀ {T : AT}, T.Ok → ∀ A ∈ T.kids, A.Ok
  | .sh _ _ _ _, _, _, hA => nomatch hA
  | .le _ _, _, _, hA => nomatch hA
  | .two _ _ _ _, h, A, hA => by
    rcases List.mem_cons.mp hA with e | e
    · rw [e]; exact h.1
    · rw [List.mem_singleton.mp e]; exact h.2
  | .un _ _, h, A, hA => by rw [List.mem_singleton.mp hA]; exact h
theorem AT.count_pos : ∀ T : AT, 1 ≤ T.count
  | .sh _ _ _ _ => Nat.le_refl _
  | .le _ _ => Nat.le_refl _
  | .two _ _ A B => by show 1 ≤ 1 + A.count + B.count; omega
  | .un _ A => by show 1 ≤ 1 + A.count; omega
theorem AT.parts_len : ∀ T : AT, T.parts.length = T.count
  | .sh _ _ _ _ => rfl
  | .le _ _ => rfl
  | .two _ _ A B => by
    show (A.parts ++ B.parts).length + 1 = 1 + A.count + B.count
    rw [List.length_append, A.parts_len, B.parts_len]
    omega
  | .un _ A => by
    show A.parts.length + 1 = 1 + A.count
    rw [A.parts_len]
    omega
theorem AT.parts_eq : ∀ T : AT, T.parts = T :: (T.kids.map AT.parts).flatten
  | .sh _ _ _ _ => rfl
  | .le _ _ => rfl
  | .two _ _ A B => by simp [AT.parts, AT.kids]
  | .un _ A => by simp [AT.parts, AT.kids]
theorem AT.count_eq : ∀ T : AT, T.count = 1 + (T.kids.map AT.count).sum
  | .sh _ _ _ _ => rfl
  | .le _ _ => rfl
  | .two _ _ A B => by simp [AT.count, AT.kids]; omega
  | .un _ A => by simp [AT.count, AT.kids]
theorem AT.kid_count : ∀ {T A : AT}, A ∈ T.kids → A.count < T.count
  | .sh _ _ _ _, _, h => nomatch h
  | .le _ _, _, h => nomatch h
  | .two _ _ A B, C, h => by
    show C.count < 1 + A.count + B.count
    rcases List.mem_cons.mp h with e | e
    · rw [e]; omega
    · rw [List.mem_singleton.mp e]; omega
  | .un _ A, C, h => by
    show C.count < 1 + A.count
    rw [List.mem_singleton.mp h]
    omega
theorem AT.In.parts {H : Hp} : ∀ {T : AT}, T.In H → ∀ A ∈ T.parts, A.In H
  | .sh _ _ _ _, h, A, hA => by rw [List.mem_singleton.mp hA]; exact h
  | .le _ _, h, A, hA => by rw [List.mem_singleton.mp hA]; exact h
  | .two _ _ _ _, h, A, hA => by
    rcases List.mem_cons.mp hA with e | e
    · rw [e]; exact h
    · rcases List.mem_append.mp e with e | e
      · exact h.2.1.parts A e
      · exact h.2.2.parts A e
  | .un _ _, h, A, hA => by
    rcases List.mem_cons.mp hA with e | e
    · rw [e]; exact h
    · exact h.2.parts A e
theorem AT.kids_len : ∀ T : AT, T.kids.length ≤ 2
  | .sh _ _ _ _ => Nat.zero_le _
  | .le _ _ => Nat.zero_le _
  | .two _ _ _ _ => Nat.le_refl _
  | .un _ _ => by show 1 ≤ 2; omega
/-- the letters, by the parts -/
theorem AT.lets_parts : ∀ T : AT, T.lets = (T.parts.filterMap fun A => match A with | .le _ x => some x | _ => none)
  | .sh _ _ _ _ => rfl
  | .le _ _ => rfl
  | .two p o A B => by
    show A.lets ++ B.lets = _
    rw [A.lets_parts, B.lets_parts]
    show _ = (List.filterMap _ (AT.two p o A B :: (A.parts ++ B.parts)))
    rw [List.filterMap_cons_none rfl, List.filterMap_append]
  | .un p A => by
    show A.lets = _
    rw [A.lets_parts]
    show _ = (List.filterMap _ (AT.un p A :: A.parts))
    rw [List.filterMap_cons_none rfl]
end Nv

set_option maxRecDepth 100000
set_option maxHeartbeats 4000000
namespace Nv
open PySem PySem.Spec PyProof.Rows L2
abbrev sNum : Stmt := topS 47
abbrev sIsSh : Stmt := topS 48
abbrev sIsLe : Stmt := topS 49
abbrev sBuilt : Stmt := topS 51
abbrev sThings : Stmt := topS 52
theorem scNum : FnScope ["thing"] ["thing"] (defScope sNum) := ⟨rfl, rfl, rfl, by decide +kernel, rfl, by decide +kernel, by decide +kernel⟩
theorem scIsSh : FnScope ["thing", "top", "bottom"] ["thing"] (defScope sIsSh) := ⟨rfl, rfl, rfl, by decide +kernel, rfl, by decide +kernel, by decide +kernel⟩
theorem scIsLe : FnScope ["thing", "sign"] ["thing"] (defScope sIsLe) := ⟨rfl, rfl, rfl, by decide +kernel, rfl, by decide +kernel, by decide +kernel⟩
theorem scBuilt : FnScope ["thing", "word"] ["thing"] (defScope sBuilt) := ⟨rfl, rfl, rfl, by decide +kernel, rfl, by decide +kernel, by decide +kernel⟩
theorem scThings : FnScope ["term"] ["term"] (defScope sThings) := ⟨rfl, rfl, rfl, by decide +kernel, rfl, by decide +kernel, by decide +kernel⟩
/-- the module's constants -/
structure Consts (K : PySem.W.Frag) (mg : Str → Option Value) (o2 : Addr) : Prop where
  parts : ∃ t, mg "MOST_PARTS" = some (.int 24 t)
  lets : ∃ t, mg "MOST_LETTERS" = some (.int 4 t)
  deep : ∃ t, mg "MOST_DEEP" = some (.int 4 t)
  signs : ∃ t, mg "MOST_SIGNS" = some (.int 6 t)
  small : ∃ t, mg "SMALL_LETTERS" = some (.str "abcdefghijklmnopqrstuvwxyz" t)
  great : ∃ t, mg "TOO_GREAT" = some (.int (10 ^ 12) t)
  two : mg "OF_TWO" = some (.ref o2)
  twoIs : ∀ H, SqT K H o2 [.str "plus", .str "less", .str "times"]
theorem ifP {p : Prop} [Decidable p] {A B : Prop} (hp : p) (h : A) : if decide p = true then A else B := by rw [decide_eq_true hp]; exact iteT h
theorem ifN {p : Prop} [Decidable p] {A B : Prop} (hp : ¬ p) (h : B) : if decide p = true then A else B := by rw [decide_eq_false hp]; exact iteF h
theorem ifNP {p : Prop} [Decidable p] {A B : Prop} (hp : p) (h : B) : if (!decide p) = true then A else B := by rw [decide_eq_true hp]; exact iteF h
theorem ifNN {p : Prop} [Decidable p] {A B : Prop} (hp : ¬ p) (h : A) : if (!decide p) = true then A else B := by rw [decide_eq_false hp]; exact iteT h
section
variable {P : Program} {w : World} {K : PySem.W.Frag} {mg : Str → Option Value} {base : Heap} {o2 : Addr}
def spNum : Sp := fun vs H Q _ => ∃ i : Int, vs = [.int i] ∧ Q (.bl true) H
theorem ok_num {f : Addr} {fd : FuncData} {k : Nat} (F : Fun K "is_number" "is_number" sNum f fd) (T : Blt mg) : FnOk P w K mg base CX0 (k + 1) f fd ["thing"] spNum := by
  refine F.ok scNum (fun vs H Q E h => ?_) (fun cdv A outer s H vs Q E hr h => ?_)
  · obtain ⟨i, rfl, _⟩ := h
    rfl
  · obtain ⟨i, rfl, q⟩ := h
    refine ⟨_, pss_one (ps_ret (pe_and (pe_callB call_isi (by rfl) T.isi (by decide +kernel) (pa_cons (pv 0) (pa_cons (pe_bltn (v := .ty "int") (by rfl) T.int (by decide +kernel) rfl) pa_nil)))
      (pe_one (pe_not (pe_callB call_isi (by rfl) T.isi (by decide +kernel) (pa_cons (pv 0) (pa_cons (pe_bltn (v := .ty "bool") (by rfl) T.bol (by decide +kernel) rfl) pa_nil))))))), ?_⟩
    refine ⟨_, rfl, .int i, _, .type "int", _, true, rfl, .ty _, .base (.int i), kit_ty (by decide +kernel), _, rfl, iteT ?_⟩
    exact ⟨_, rfl, .int i, _, .type "int", _, false, rfl, .ty _, .base (.int i), kit_ty (by decide +kernel), _, rfl, q⟩
def spIsSh : Sp := fun vs H Q _ => ∃ (p : Addr) (t b : Int), vs = [.ref p] ∧ H p = some (.tup [.int t, .int b]) ∧ ShOk t b ∧ Q (.bl true) H
theorem ok_isSh {f : Addr} {fd : FuncData} (F : Fun K "is_share" "is_share" sIsSh f fd) (T : Blt mg) (C : Consts K mg o2) (GN : C8.Cal P w K mg base 1 "is_number" spNum []) (GG : C8.Cal P w K mg base 1 "common_divisor" spPGcd []) : FnOk P w K mg base CX0 2 f fd ["thing"] spIsSh := by
  obtain ⟨tg, eg⟩ := C.great
  refine F.ok scIsSh (fun vs H Q E h => ?_) (fun cdv A outer s H vs Q E hr h => ?_)
  · obtain ⟨p, t, b, rfl, _⟩ := h
    rfl
  · obtain ⟨p, t, b, rfl, hp, ok, q⟩ := h
    refine ⟨_, pss_cons (ps_if (PW.pt (pw_or (pt_not (pt_val (pe_callB call_isi (by rfl) T.isi (by decide +kernel) (pa_cons (pv 0) (pa_cons (pe_bltn (v := .ty "tuple") (by rfl) T.tup (by decide +kernel) rfl) pa_nil)))))
          (pw_or1 (pt_cmpR op_ne (pe_callB call_len_seq (by rfl) T.len PySem.boot_len (pa_cons (pv 0) pa_nil)) pe_int (nomark _))))) (pss_one (ps_ret pe_bl)) pss_nil)
      (pss_cons (ps_asg (pv 0) (pg_tup rfl (pgs_cons (pg_name (i := 1) scIsSh.nd rfl (.inl rfl)) (pgs_cons (pg_name (i := 2) scIsSh.nd rfl (.inl rfl)) pgs_nil))))
      (pss_cons (ps_if (PW.pt (pw_or (pt_not (pt_val (C8.pe_c GN hr (by decide) (by rfl) (pa_cons (pv 1) pa_nil)))) (pw_or1 (pt_not (pt_val (C8.pe_c GN hr (by decide) (by rfl) (pa_cons (pv 2) pa_nil))))))) (pss_one (ps_ret pe_bl)) pss_nil)
      (pss_cons (ps_if (PW.pt (pw_or (pt_cmpR op_ge (pe_callB call_abs (by rfl) T.abs (by decide +kernel) (pa_cons (pv 1) pa_nil)) (pe_glob (v := .int (10 ^ 12)) (by rfl) eg ⟨_, rfl⟩) (nomark _))
          (pw_or1 (pt_not (pt_chain op_le op_lt pe_int (pv 2) (pe_glob (v := .int (10 ^ 12)) (by rfl) eg ⟨_, rfl⟩)))))) (pss_one (ps_ret pe_bl)) pss_nil)
      (pss_one (ps_ret (pe_cmpR op_eq (C8.pe_c GG hr (by decide) (by rfl) (pa_cons (pv 1) (pa_cons (pv 2) pa_nil))) pe_int (nomark _))))))), ?_⟩
    refine ⟨_, rfl, _, _, .type "tuple", _, true, rfl, .ty _, tyT (SqT.of hp), kit_ty (by decide +kernel), _, rfl, iteF ?_⟩
    refine ⟨_, rfl, p, _, rfl, .inr (SqT.of hp), rfl, _, rfl, iteF ?_⟩
    refine ⟨_, rfl, p, _, rfl, SqT.of hp, rfl, _, _, rfl, _, _, rfl, rfl, ?_⟩
    refine ⟨_, rfl, t, rfl, _, rfl, iteF ⟨_, rfl, b, rfl, _, rfl, iteF ?_⟩⟩
    have h1 : (if t < 0 then -t else t) < 10 ^ 12 := by
      have := ok.top
      split <;> omega
    refine ⟨_, rfl, t, rfl, _, _, rfl, rfl, _, rfl, ite2 (fun c => ?_) (fun _ => ?_)⟩
    · have c' := of_decide_eq_true c
      omega
    have k : (10 : Int) ^ 12 = 1000000000000 := by decide
    have h2 := ok.pos
    have h3 := ok.bot
    refine ⟨_, rfl, 1, b, rfl, rfl, _, rfl, ifP h2 ⟨b, _, rfl, rfl, _, rfl, ifNP h3 ?_⟩⟩
    refine ⟨_, rfl, _, rfl, t, b, rfl, Nat.lt_of_le_of_lt (show b.natAbs ≤ 2 ^ 45 by omega) (Nat.pow_lt_pow_right (by decide) (by decide)), rfl, ?_⟩
    rw [ok.low]
    exact q
def spIsLe : Sp := fun vs H Q _ => ∃ x : Str, vs = [.str x] ∧ Small x ∧ ∀ H', Same H H' → Q (.bl true) H'
theorem ok_isLe {f : Addr} {fd : FuncData} {k : Nat} (F : Fun K "is_letter" "is_letter" sIsLe f fd) (T : Blt mg) (C : Consts K mg o2) : FnOk P w K mg base CX0 (k + 1) f fd ["thing"] spIsLe := by
  obtain ⟨tg, eg⟩ := C.signs
  obtain ⟨ts, es⟩ := C.small
  refine F.ok scIsLe (fun vs H Q E h => ?_) (fun cdv A outer s H vs Q E hr h => ?_)
  · obtain ⟨x, rfl, _⟩ := h
    rfl
  · obtain ⟨x, rfl, ok, q⟩ := h
    refine ⟨_, pss_cons (ps_if (PW.pt (pw_or (pt_not (pt_val (pe_callB call_isi (by rfl) T.isi (by decide +kernel) (pa_cons (pv 0) (pa_cons (pe_bltn (v := .ty "str") (by rfl) T.str (by decide +kernel) rfl) pa_nil)))))
          (pw_or1 (pt_not (pt_chain op_le op_le pe_int (pe_callB call_len_str (by rfl) T.len PySem.boot_len (pa_cons (pv 0) pa_nil)) (pe_glob (v := .int 6) (by rfl) eg ⟨_, rfl⟩)))))) (pss_one (ps_ret pe_bl)) pss_nil)
      (pss_one (ps_ret (pe_callB (cr_all rfl) (by rfl) T.all (by decide +kernel) (pa_cons (pe_lc (own := [("sign", 1)]) (g := gName 1) (tt := tYes) rfl scIsLe.nd (pi_str (pv 0)) (blkOk_by (N := ["thing", "sign"]) (sc := defScope sIsLe) (by decide +kernel))
        (fun _ _ _ _ _ => pg_name (i := 1) scIsLe.nd rfl (Or.inl rfl)) (fun _ _ _ _ _ => pts_nil) (fun _ _ _ _ _ => pe_cmpR op_in_sign (pv 1) (pe_glob (v := .str "abcdefghijklmnopqrstuvwxyz") (by rfl) es ⟨_, rfl⟩) (by rfl))) pa_nil)))), ?_⟩
    have hlen : x.length ≤ sizeLine := by have := ok.hi; rw [sizeLine_eq]; omega
    have hlo := ok.lo
    have hhi := ok.hi
    refine ⟨_, rfl, _, _, .type "str", _, true, rfl, .ty _, .base (.str x), kit_ty (by decide +kernel), _, rfl, iteF ?_⟩
    refine ⟨_, rfl, x, rfl, hlen, 1, _, rfl, rfl, _, rfl, ifP (by omega) ⟨_, 6, rfl, rfl, _, rfl, ifNP (by omega) ?_⟩⟩
    refine ⟨_, rfl, _, rfl, fun D hD => ?_⟩
    refine lc_it (walk_str (z := x)) (fun i H' => Same H H' ∧ H' D = some (.lst ((List.replicate i true).map V.bl))) ⟨same_new hD, upd_same⟩ (fun _ _ _ _ => trivial) (fun i c H1 H2 hi hP hY => ?_) (fun H' hP => ?_)
    · obtain ⟨s1, eD⟩ := hP
      obtain ⟨rfl, c0, hc0, rfl⟩ := hY
      have hc1 : c0 ∈ x.cps.toList := by
        rw [← Array.getElem?_toList] at hc0
        exact List.mem_of_getElem? hc0
      have hsz : x.cps.size = x.length := rfl
      refine ⟨rfl, yes_if ⟨_, rfl, c0, _, rfl, rfl, _, eD, ?_, ?_, ?_⟩⟩
      · rw [List.length_map, List.length_replicate]
        exact small1000 (by omega)
      · exact fun z o hz => by
          rw [upd_ne (ne_of_none hz hD)]
          exact s1 _ _ hz
      · rw [upd_same, decide_eq_true (ok.all c0 hc1), List.replicate_succ', List.map_append]
        rfl
    · obtain ⟨s1, eD⟩ := hP
      refine ⟨D, _, rfl, SqL.of eD, ?_⟩
      rw [show (List.replicate x.cps.size true).all id = true by simp]
      exact q _ s1
/-- is_built, of a part -/
def spBuilt : Sp := fun vs H Q _ => ∃ T : AT, vs = [T.v] ∧ T.In H ∧ T.Ok ∧ ∀ H', Same H H' → Q (.bl true) H'
theorem ok_built {f : Addr} {fd : FuncData} (F : Fun K "is_built" "is_built" sBuilt f fd) (T : Blt mg) (C : Consts K mg o2) (GS : C8.Cal P w K mg base 2 "is_share" spIsSh []) (GL : C8.Cal P w K mg base 1 "is_letter" spIsLe []) : FnOk P w K mg base CX0 3 f fd ["thing"] spBuilt := by
  refine F.ok scBuilt (fun vs H Q E h => ?_) (fun cdv A outer s H vs Q E hr h => ?_)
  · obtain ⟨T, rfl, _⟩ := h
    rfl
  · obtain ⟨Z, rfl, hin, ok, q⟩ := h
    refine ⟨_, pss_cons (ps_if (PW.pt (pw_or (pt_not (pt_val (pe_callB call_isi (by rfl) T.isi (by decide +kernel) (pa_cons (pv 0) (pa_cons (pe_bltn (v := .ty "tuple") (by rfl) T.tup (by decide +kernel) rfl) pa_nil)))))
          (pw_or1 (pt_cmpR op_lt (pe_callB call_len_seq (by rfl) T.len PySem.boot_len (pa_cons (pv 0) pa_nil)) pe_int (nomark _))))) (pss_one (ps_ret pe_bl)) pss_nil)
      (pss_cons (ps_set (i := 1) scBuilt.nd rfl (.inl rfl) (pe_ix ix_tup (pv 0) pe_int (fun _ _ => rfl)))
      (pss_cons (ps_if (pt_cmpR op_in_seq (pv 1) (pe_glob (v := .ref o2) (by rfl) C.two rfl) (by rfl)) (pss_one (ps_ret (pe_cmpR op_eq (pe_callB call_len_seq (by rfl) T.len PySem.boot_len (pa_cons (pv 0) pa_nil)) pe_int (nomark _)))) pss_nil)
      (pss_cons (ps_if (pt_cmpR op_ne (pe_callB call_len_seq (by rfl) T.len PySem.boot_len (pa_cons (pv 0) pa_nil)) pe_int (nomark _)) (pss_one (ps_ret pe_bl)) pss_nil)
      (pss_cons (ps_if (pt_cmpR op_eq (pv 1) pe_str (nomark _)) (pss_one (ps_ret (C8.pe_c GS hr (by decide) (by rfl) (pa_cons (pe_ix ix_tup (pv 0) pe_int (fun _ _ => rfl)) pa_nil)))) pss_nil)
      (pss_cons (ps_if (pt_cmpR op_eq (pv 1) pe_str (nomark _)) (pss_one (ps_ret (C8.pe_c GL hr (by decide) (by rfl) (pa_cons (pe_ix ix_tup (pv 0) pe_int (fun _ _ => rfl)) pa_nil)))) pss_nil)
      (pss_one (ps_ret (pe_cmpR op_eq (pv 1) pe_str (nomark _))))))))), ?_⟩
    have hp := hin.tup
    refine ⟨_, rfl, _, _, .type "tuple", _, true, rfl, .ty _, tyT (SqT.of hp), kit_ty (by decide +kernel), _, rfl, iteF ?_⟩
    cases Z with
    | sh p qq t b =>
      refine ⟨_, rfl, p, _, rfl, .inr (SqT.of hp), _, _, rfl, rfl, _, rfl, iteF ?_⟩
      refine ⟨_, rfl, p, _, 0, _, rfl, rfl, SqT.of hp, atI_nat (j := 0) rfl, ?_⟩
      refine ⟨_, rfl, o2, _, rfl, .inr (C.twoIs H), rfl, rfl, _, rfl, iteF ?_⟩
      refine ⟨_, rfl, p, _, rfl, .inr (SqT.of hp), rfl, _, rfl, iteF ?_⟩
      refine ⟨_, rfl, rfl, _, rfl, iteT ?_⟩
      exact ⟨_, rfl, p, _, 1, _, rfl, rfl, SqT.of hp, atI_nat (j := 1) rfl, qq, t, b, rfl, hin.2, ok, q _ (fun _ _ h => h)⟩
    | le p x =>
      refine ⟨_, rfl, p, _, rfl, .inr (SqT.of hp), _, _, rfl, rfl, _, rfl, iteF ?_⟩
      refine ⟨_, rfl, p, _, 0, _, rfl, rfl, SqT.of hp, atI_nat (j := 0) rfl, ?_⟩
      refine ⟨_, rfl, o2, _, rfl, .inr (C.twoIs H), rfl, rfl, _, rfl, iteF ?_⟩
      refine ⟨_, rfl, p, _, rfl, .inr (SqT.of hp), rfl, _, rfl, iteF ?_⟩
      refine ⟨_, rfl, rfl, _, rfl, iteF ?_⟩
      refine ⟨_, rfl, rfl, _, rfl, iteT ?_⟩
      exact ⟨_, rfl, p, _, 1, _, rfl, rfl, SqT.of hp, atI_nat (j := 1) rfl, x, rfl, ok, q⟩
    | two p o A B =>
      refine ⟨_, rfl, p, _, rfl, .inr (SqT.of hp), _, _, rfl, rfl, _, rfl, iteF ?_⟩
      refine ⟨_, rfl, p, _, 0, _, rfl, rfl, SqT.of hp, atI_nat (j := 0) rfl, ?_⟩
      refine ⟨_, rfl, o2, _, rfl, .inr (C.twoIs H), rfl, rfl, _, rfl, ?_⟩
      rw [show inV (V.str (AT.two p o A B).word) [V.str (Str.ofString "plus"), V.str (Str.ofString "less"), V.str (Str.ofString "times")] = true by cases o <;> rfl]
      refine iteT ?_
      exact ⟨_, rfl, p, _, rfl, .inr (SqT.of hp), rfl, q _ (fun _ _ h => h)⟩
    | un p A =>
      refine ⟨_, rfl, p, _, rfl, .inr (SqT.of hp), _, _, rfl, rfl, _, rfl, iteF ?_⟩
      refine ⟨_, rfl, p, _, 0, _, rfl, rfl, SqT.of hp, atI_nat (j := 0) rfl, ?_⟩
      refine ⟨_, rfl, o2, _, rfl, .inr (C.twoIs H), rfl, rfl, _, rfl, iteF ?_⟩
      refine ⟨_, rfl, p, _, rfl, .inr (SqT.of hp), rfl, _, rfl, iteF ?_⟩
      refine ⟨_, rfl, rfl, _, rfl, iteF ?_⟩
      refine ⟨_, rfl, rfl, _, rfl, iteF ?_⟩
      exact ⟨_, rfl, rfl, q _ (fun _ _ h => h)⟩
/-- things_in: the parts right in a part, in a tuple -/
def spThings (K : PySem.W.Frag) : Sp := fun vs H Q _ => ∃ T : AT, vs = [T.v] ∧ T.In H ∧ ∀ (p : Addr) (H' : Hp), Same H H' → SqT K H' p (T.kids.map AT.v) → Q (.ref p) H'
theorem ok_things {f : Addr} {fd : FuncData} {k : Nat} (F : Fun K "things_in" "things_in" sThings f fd) : FnOk P w K mg base CX0 (k + 1) f fd ["term"] (spThings K) := by
  refine F.ok scThings (fun vs H Q E h => ?_) (fun cdv A outer s H vs Q E hr h => ?_)
  · obtain ⟨T, rfl, _⟩ := h
    rfl
  · obtain ⟨Z, rfl, hin, q⟩ := h
    refine ⟨_, pss_cons (ps_if (PW.pt (pw_or (pt_cmpR op_eq (pe_ix ix_tup (pv 0) pe_int (fun _ _ => rfl)) pe_str (nomark _)) (pw_or1 (pt_cmpR op_eq (pe_ix ix_tup (pv 0) pe_int (fun _ _ => rfl)) pe_str (nomark _)))))
        (pss_one (ps_ret (pe_tup pa_nil))) pss_nil)
      (pss_one (ps_ret (pe_slice sl_tup (pv 0) (po_some pe_int) po_none))), ?_⟩
    have hp := hin.tup
    have none_ : ∀ {H' : Hp}, Z.kids = [] → Same H H' → ∀ p, H' p = some (.tup []) → Q (.ref p) H' := fun e sm p ep => q p _ sm (by rw [e]; exact SqT.of ep)
    cases Z with
    | sh p qq t b =>
      refine ⟨_, rfl, p, _, 0, _, rfl, rfl, SqT.of hp, atI_nat (j := 0) rfl, rfl, _, rfl, iteT (iteT ?_)⟩
      exact ⟨Nat.zero_le _, fun e ne => none_ rfl (same_new ne) e upd_same⟩
    | le p x =>
      refine ⟨_, rfl, p, _, 0, _, rfl, rfl, SqT.of hp, atI_nat (j := 0) rfl, rfl, _, rfl, iteF ?_⟩
      refine ⟨_, rfl, p, _, 0, _, rfl, rfl, SqT.of hp, atI_nat (j := 0) rfl, rfl, _, rfl, iteT ?_⟩
      exact ⟨Nat.zero_le _, fun e ne => none_ rfl (same_new ne) e upd_same⟩
    | two p o A B =>
      have nw : ∀ x : Str, o.word = x → x ≠ "share" ∧ x ≠ "letter" := fun x e => by subst e; cases o <;> decide +kernel
      obtain ⟨n1, n2⟩ := nw _ rfl
      refine ⟨_, rfl, p, _, 0, _, rfl, rfl, SqT.of hp, atI_nat (j := 0) rfl, rfl, _, rfl, ifN (fun z => n1 (V.str.inj z)) ?_⟩
      refine ⟨_, rfl, p, _, 0, _, rfl, rfl, SqT.of hp, atI_nat (j := 0) rfl, rfl, _, rfl, ifN (fun z => n2 (V.str.inj z)) ?_⟩
      refine ⟨_, rfl, 1, rfl, p, _, rfl, SqT.of hp, (fun z => by cases z.1), fun e ne => q e _ (same_new ne) (SqT.of ?_)⟩
      rw [upd_same]
      rfl
    | un p A =>
      refine ⟨_, rfl, p, _, 0, _, rfl, rfl, SqT.of hp, atI_nat (j := 0) rfl, rfl, _, rfl, iteF ?_⟩
      refine ⟨_, rfl, p, _, 0, _, rfl, rfl, SqT.of hp, atI_nat (j := 0) rfl, rfl, _, rfl, iteF ?_⟩
      refine ⟨_, rfl, 1, rfl, p, _, rfl, SqT.of hp, (fun z => by cases z.1), fun e ne => q e _ (same_new ne) (SqT.of ?_)⟩
      rw [upd_same]
      rfl
end
end Nv

set_option maxRecDepth 100000
set_option maxHeartbeats 4000000
namespace Nv
open PySem PySem.Spec PyProof.Rows L2
abbrev sFlaw : Stmt := topS 53
abbrev sNeedT : Stmt := topS 54
abbrev nFlaw : List Str := ["term", "waiting", "many", "deepest", "found", "thing", "deep", "inner"]
theorem scFlaw : FnScope nFlaw ["term"] (defScope sFlaw) := ⟨rfl, rfl, rfl, by decide +kernel, rfl, by decide +kernel, by decide +kernel⟩
theorem scNeedT : FnScope ["term", "flaw"] ["term"] (defScope sNeedT) := ⟨rfl, rfl, rfl, by decide +kernel, rfl, by decide +kernel, by decide +kernel⟩
/-- pigeons -/
theorem nodup_le {α : Type} [DecidableEq α] : ∀ {l D : List α}, l.Nodup → (∀ x ∈ l, x ∈ D) → l.length ≤ D.length
  | [], _, _, _ => Nat.zero_le _
  | x :: l, D, hn, hs => by
    obtain ⟨h1, h2⟩ := List.nodup_cons.mp hn
    have hx : x ∈ D := hs x List.mem_cons_self
    have ih := nodup_le (D := D.erase x) h2 fun y hy => (List.mem_erase_of_ne (fun e : y = x => h1 (by rw [← e]; exact hy))).2 (hs y (List.mem_cons_of_mem _ hy))
    have e := List.length_erase_of_mem hx
    have hp : 0 < D.length := List.length_pos_of_mem hx
    rw [List.length_cons]
    omega
/-- a dict whose keys are among some texts -/
structure KeysIn (L : List Str) (kvs : List (Key × V)) : Prop where
  nd : (kvs.map (·.1)).Nodup
  sub : ∀ k ∈ kvs.map (·.1), k ∈ L.map Sum.inr
theorem KeysIn.len {L : List Str} {kvs : List (Key × V)} (h : KeysIn L kvs) : kvs.length ≤ L.length := by
  have := nodup_le h.nd h.sub
  rwa [List.length_map, List.length_map] at this
theorem KeysIn.put {L : List Str} {kvs : List (Key × V)} {x : Str} {v : V} (h : KeysIn L kvs) (hx : x ∈ L) : KeysIn L (putK kvs (Sum.inr x) v) := by
  unfold putK
  split
  · have e : (kvs.map fun kv => if kv.1 = Sum.inr x then (kv.1, v) else kv).map (·.1) = kvs.map (·.1) := by
      rw [List.map_map]
      refine List.map_congr_left fun kv _ => ?_
      show (if kv.1 = Sum.inr x then (kv.1, v) else kv).1 = kv.1
      split <;> rfl
    exact ⟨by rw [e]; exact h.nd, by rw [e]; exact h.sub⟩
  · rename_i c
    have hn : (Sum.inr x : Key) ∉ kvs.map (·.1) := fun z => by
      obtain ⟨kv, hkv, e⟩ := List.mem_map.mp z
      exact c (List.any_eq_true.mpr ⟨kv, hkv, decide_eq_true e⟩)
    refine ⟨?_, fun k hk => ?_⟩
    · rw [List.map_append]
      exact List.nodup_append.mpr ⟨h.nd, by simp, fun a ha b hb => fun z => hn (by have e : b = Sum.inr x := List.mem_singleton.mp hb; rw [← e, ← z]; exact ha)⟩
    · rw [List.map_append] at hk
      rcases List.mem_append.mp hk with z | z
      · exact h.sub k z
      · rw [List.mem_singleton.mp z]
        exact List.mem_map_of_mem hx
/-- good reckonings: the letters are among L -/
structure Good (T : AT) (L : List Str) : Prop where
  ok : T.Ok
  cnt : T.count ≤ 24
  deep : T.deep ≤ 4
  few : L.length ≤ 4
  lets : ∀ x ∈ T.lets, x ∈ L
theorem same_upd {H H' : Hp} {p : Addr} {o : HO} (s : Same H H') (h : H p = none) : Same H (upd H' p o) := fun a x e => by
  rw [upd_ne (ne_of_none e h)]
  exact s a x e
def WaitV (H : Hp) (v : V) (x : AT × Nat) : Prop := ∃ p, v = .ref p ∧ H p = some (.tup [x.1.v, .int (x.2 : Int)])
theorem WaitV.keep {H H' : Hp} (k : TupKeep H H') {v : V} {x : AT × Nat} (h : WaitV H v x) : WaitV H' v x := by
  obtain ⟨p, e, hp⟩ := h
  exact ⟨p, e, k _ _ hp⟩
theorem Paired.imp' {α β : Type} {R S : α → β → Prop} (h : ∀ a b, R a b → S a b) : ∀ {xs : List α} {ys : List β}, Paired R xs ys → Paired S xs ys
  | _, _, .nil => .nil
  | _, _, .cons a r => .cons (h _ _ a) (Paired.imp' h r)
theorem Paired.snoc' {α β : Type} {R : α → β → Prop} {x : α} {y : β} (h : R x y) : ∀ {xs : List α} {ys : List β}, Paired R xs ys → Paired R (xs ++ [x]) (ys ++ [y])
  | _, _, .nil => .cons h .nil
  | _, _, .cons a r => .cons a (Paired.snoc' h r)
/-- the last ones -/
theorem Paired.last {α β : Type} {R : α → β → Prop} : ∀ {ys : List β} {y : β} {xs : List α}, Paired R xs (ys ++ [y]) → ∃ (zs : List α) (z : α), xs = zs ++ [z] ∧ Paired R zs ys ∧ R z y
  | [], y, _, .cons h .nil => ⟨[], _, rfl, .nil, h⟩
  | _ :: ys, y, _, .cons h r => by
    obtain ⟨zs, z, e, h1, h2⟩ := Paired.last r
    exact ⟨_ :: zs, z, by rw [e]; rfl, .cons h h1, h2⟩
theorem gN {i : Nat} {v : V} {σ : L2.St} {H : Hp} {k : L2.St → Hp → Prop} (h : k (σ.set i (some v)) H) : gName i v σ H k := h
theorem nxS {a b : TS} {D : Ends} {rt : VK} {bk ct : L2.St → Hp → Prop} {σ : L2.St} {H : Hp} (h : a { D with nx := b D } σ H) : Ends.nx { nx := tSeq a b D, rt := rt, bk := bk, ct := ct } σ H := h
theorem seqT_upd {K : PySem.W.Frag} {H : Hp} {W a : Addr} {ys xs : List V} {o : HO} (h : H W = some (.lst ys)) (q : SqT K H a xs) : SqT K (upd H W o) a xs := by
  rcases q with (q | ⟨z, q⟩) | q
  · exact .inl (.inl (by rw [upd_ne (fun z => by rw [z, h] at q; cases q)]; exact q))
  · exact .inl (.inr ⟨z, by rw [upd_ne (fun z => by rw [z, h] at q; cases q)]; exact q⟩)
  · exact .inr q
def sumC (ws : List (AT × Nat)) : Nat := (ws.map fun x => x.1.count).sum
theorem sumC_snoc (ws : List (AT × Nat)) (x : AT × Nat) : sumC (ws ++ [x]) = sumC ws + x.1.count := by simp [sumC]
theorem sumC_app (ws us : List (AT × Nat)) : sumC (ws ++ us) = sumC ws + sumC us := by simp [sumC]
theorem sumC_len : ∀ ws : List (AT × Nat), ws.length ≤ sumC ws
  | [] => Nat.zero_le _
  | x :: r => by
    have := x.1.count_pos
    have := sumC_len r
    show r.length + 1 ≤ x.1.count + sumC r
    omega
theorem sumC_kids (T : AT) (d : Nat) : sumC (T.kids.map fun B => (B, d)) + 1 = T.count := by
  rw [T.count_eq, sumC, List.map_map]
  show (T.kids.map AT.count).sum + 1 = _
  omega
/-- how deep the parts in a part lie -/
def AT.step : AT → Nat
  | .un _ _ => 1
  | _ => 0
theorem AT.kid_deep : ∀ {T B : AT}, B ∈ T.kids → T.step + B.deep ≤ T.deep
  | .sh _ _ _ _, _, h => nomatch h
  | .le _ _, _, h => nomatch h
  | .two _ _ A C, B, h => by
    show 0 + B.deep ≤ max A.deep C.deep
    rcases List.mem_cons.mp h with e | e
    · rw [e]; omega
    · rw [List.mem_singleton.mp e]; omega
  | .un _ A, B, h => by
    show 1 + B.deep ≤ A.deep + 1
    rw [List.mem_singleton.mp h]
    omega
theorem AT.step_deep : ∀ T : AT, T.step ≤ T.deep
  | .sh _ _ _ _ => Nat.le_refl _
  | .le _ _ => Nat.le_refl _
  | .two _ _ _ _ => Nat.zero_le _
  | .un _ A => by show 1 ≤ A.deep + 1; omega
theorem AT.kid_lets : ∀ {T B : AT}, B ∈ T.kids → ∀ x ∈ B.lets, x ∈ T.lets
  | .sh _ _ _ _, _, h => nomatch h
  | .le _ _, _, h => nomatch h
  | .two _ _ A C, B, h => fun x hx => by
    show x ∈ A.lets ++ C.lets
    rcases List.mem_cons.mp h with e | e
    · exact List.mem_append_left _ (e ▸ hx)
    · exact List.mem_append_right _ ((List.mem_singleton.mp e) ▸ hx)
  | .un _ A, B, h => fun x hx => (List.mem_singleton.mp h) ▸ hx
theorem ne_undo1 : (Str.ofString "share") ≠ Str.ofString "undo" := by decide +kernel
theorem ne_undo2 : (Str.ofString "letter") ≠ Str.ofString "undo" := by decide +kernel
theorem ne_undo3 (o : Op) : o.word ≠ Str.ofString "undo" := by cases o <;> decide +kernel
theorem ne_let1 : (Str.ofString "share") ≠ Str.ofString "letter" := by decide +kernel
theorem ne_let2 : (Str.ofString "undo") ≠ Str.ofString "letter" := by decide +kernel
theorem ne_let3 (o : Op) : o.word ≠ Str.ofString "letter" := by cases o <;> decide +kernel
theorem word_undo : ∀ T : AT, (V.str T.word = V.str (Str.ofString "undo")) ↔ T.step = 1
  | .sh _ _ _ _ => ⟨fun z => absurd (V.str.inj z) ne_undo1, fun z => nomatch z⟩
  | .le _ _ => ⟨fun z => absurd (V.str.inj z) ne_undo2, fun z => nomatch z⟩
  | .two _ o _ _ => ⟨fun z => absurd (V.str.inj z) (ne_undo3 o), fun z => nomatch z⟩
  | .un _ _ => ⟨fun _ => rfl, fun _ => rfl⟩
/-- a letter, and the others -/
theorem word_letter : ∀ T : AT, (∃ p x, T = .le p x) ∨ V.str T.word ≠ V.str (Str.ofString "letter")
  | .sh _ _ _ _ => .inr fun z => ne_let1 (V.str.inj z)
  | .le p x => .inl ⟨p, x, rfl⟩
  | .two _ o _ _ => .inr fun z => ne_let3 o (V.str.inj z)
  | .un _ _ => .inr fun z => ne_let2 (V.str.inj z)
theorem AT.step_le : ∀ T : AT, T.step = 0 ∨ T.step = 1
  | .sh _ _ _ _ => .inl rfl
  | .le _ _ => .inl rfl
  | .two _ _ _ _ => .inl rfl
  | .un _ _ => .inr rfl
/-- a part that waits -/
structure WaitOk (H : Hp) (T : AT) (x : AT × Nat) : Prop where
  inn : x.1.In H
  ok : x.1.Ok
  deep : x.2 + x.1.deep ≤ T.deep
  lets : ∀ y ∈ x.1.lets, y ∈ T.lets
theorem AT.deep_kids : ∀ T : AT, T.deep ≤ T.step ∨ ∃ B ∈ T.kids, T.deep ≤ T.step + B.deep
  | .sh _ _ _ _ => .inl (Nat.le_refl _)
  | .le _ _ => .inl (Nat.le_refl _)
  | .un _ A => .inr ⟨A, List.mem_singleton.mpr rfl, by show A.deep + 1 ≤ 1 + A.deep; omega⟩
  | .two _ _ A C => by
    rcases Nat.le_total A.deep C.deep with h | h
    · exact .inr ⟨C, List.mem_cons_of_mem _ (List.mem_singleton.mpr rfl), by show max A.deep C.deep ≤ 0 + C.deep; omega⟩
    · exact .inr ⟨A, List.mem_cons_self, by show max A.deep C.deep ≤ 0 + A.deep; omega⟩
theorem AT.lets_kids : ∀ (T : AT) (y : Str), y ∈ T.lets → (∃ p, T = .le p y) ∨ ∃ B ∈ T.kids, y ∈ B.lets
  | .sh _ _ _ _, y, h => nomatch h
  | .le p x, y, h => .inl ⟨p, by rw [List.mem_singleton.mp h]⟩
  | .un _ A, y, h => .inr ⟨A, List.mem_singleton.mpr rfl, h⟩
  | .two _ _ A C, y, h => by
    rcases List.mem_append.mp (show y ∈ A.lets ++ C.lets from h) with h | h
    · exact .inr ⟨A, List.mem_cons_self, h⟩
    · exact .inr ⟨C, List.mem_cons_of_mem _ (List.mem_singleton.mpr rfl), h⟩
/-- a dict whose keys are texts -/
def TxtK (kvs : List (Key × V)) : Prop := ∀ k ∈ kvs.map (·.1), ∃ x : Str, k = Sum.inr x
theorem putK_keysM {kvs : List (Key × V)} {x : Str} {v : V} : ∀ k, k ∈ (putK kvs (Sum.inr x) v).map (·.1) ↔ k = Sum.inr x ∨ k ∈ kvs.map (·.1) := fun k => by
  unfold putK
  split
  · rename_i c
    have e : (kvs.map fun kv => if kv.1 = Sum.inr x then (kv.1, v) else kv).map (·.1) = kvs.map (·.1) := by
      rw [List.map_map]
      refine List.map_congr_left fun kv _ => ?_
      show (if kv.1 = Sum.inr x then (kv.1, v) else kv).1 = kv.1
      split <;> rfl
    rw [e]
    refine ⟨.inr, fun h => h.elim (fun z => ?_) id⟩
    obtain ⟨kv, h1, h2⟩ := List.any_eq_true.mp c
    rw [z, ← of_decide_eq_true h2]
    exact List.mem_map_of_mem h1
  · rw [List.map_append, List.mem_append]
    exact ⟨fun h => h.elim .inr (fun z => .inl (List.mem_singleton.mp z)), fun h => h.elim (fun z => .inr (List.mem_singleton.mpr z)) .inl⟩
theorem putK_len {kvs : List (Key × V)} {x : Str} {v : V} : (putK kvs (Sum.inr x) v).length ≤ kvs.length + 1 := by
  unfold putK
  split
  · rw [List.length_map]; omega
  · rw [List.length_append]; exact Nat.le_refl _
theorem txt_list : ∀ {kvs : List (Key × V)}, TxtK kvs → ∃ L : List Str, kvs.map (·.1) = L.map Sum.inr
  | [], _ => ⟨[], rfl⟩
  | (k, v) :: r, h => by
    obtain ⟨x, e⟩ := h k List.mem_cons_self
    obtain ⟨L, eL⟩ := txt_list (kvs := r) fun k' h' => h k' (List.mem_cons_of_mem _ h')
    refine ⟨x :: L, ?_⟩
    show k :: r.map (·.1) = Sum.inr x :: L.map Sum.inr
    rw [← eL, ← show k = Sum.inr x from e]
/-- what keeps a reckoning from being one -/
structure FlawIs (T : AT) (r : Option Str) : Prop where
  many : 24 < T.count → r = some "many"
  other : T.count ≤ 24 → r = none ∨ r = some "letters" ∨ r = some "deep"
  good : r = none → ∃ L, Good T L
  back : (∃ L, Good T L) → r = none
def flawV : Option Str → V
  | none => .non
  | some x => .str x
def mFlaw (σ : L2.St) (_ : Hp) : Nat := match σ with
  | [_, _, some (.int m), _, _, _, _, _] => 5000 - m.toNat
  | _ => 0
section
variable {P : Program} {w : World} {K : PySem.W.Frag} {mg : Str → Option Value} {base : Heap} {o2 : Addr}
/-- what stands at each turn -/
def FlawAt (H : Hp) (T : AT) (σ : L2.St) (H' : Hp) : Prop := ∃ (W Fd : Addr) (vs : List V) (ws : List (AT × Nat)) (m d : Nat) (kvs : List (Key × V)) (y5 y6 y7 : Option V),
  σ = [some T.v, some (.ref W), some (.int (m : Int)), some (.int (d : Int)), some (.ref Fd), y5, y6, y7] ∧ Same H H' ∧ H W = none ∧ H Fd = none ∧ H' W = some (.lst vs) ∧ Paired (WaitV H') vs ws ∧ (∀ x ∈ ws, WaitOk H' T x) ∧ H' Fd = some (.dK kvs) ∧ (TxtK kvs ∧ KeysIn T.lets kvs ∧ d ≤ T.deep) ∧ kvs.length ≤ m ∧
  m + sumC ws = T.count ∧ (∀ y ∈ T.lets, Sum.inr y ∈ kvs.map (·.1) ∨ ∃ x ∈ ws, y ∈ x.1.lets) ∧ (T.deep ≤ d ∨ ∃ x ∈ ws, T.deep ≤ x.2 + x.1.deep)
def spFlaw : Sp := fun vs H Q _ => ∃ T : AT, vs = [T.v] ∧ T.In H ∧ T.Ok ∧ T.count ≤ 5000 ∧ ∀ (r : Option Str) (H' : Hp), Same H H' → FlawIs T r → Q (flawV r) H'
theorem ok_flaw {f : Addr} {fd : FuncData} (F : Fun K "flaw_of" "flaw_of" sFlaw f fd) (T : Blt mg) (mx : mg "max" = none) (C : Consts K mg o2) (GB : C8.Cal P w K mg base 3 "is_built" spBuilt []) (GT : C8.Cal P w K mg base 1 "things_in" (spThings K) []) :
    FnOk P w K mg base CX0 4 f fd ["term"] spFlaw := by
  obtain ⟨t1, e1⟩ := C.parts
  obtain ⟨t2, e2⟩ := C.lets
  obtain ⟨t3, e3⟩ := C.deep
  refine F.ok scFlaw (fun vs H Q E h => ?_) (fun cdv A outer s H vs Q E hr h => ?_)
  · obtain ⟨T, rfl, _⟩ := h
    rfl
  · obtain ⟨Z, rfl, hin, okZ, cZ, q⟩ := h
    refine ⟨_, pss_cons (ps_set (i := 1) scFlaw.nd rfl (.inl rfl) (pe_lst (pa_cons (pe_tup (pa_cons (pv 0) (pa_cons pe_int pa_nil))) pa_nil)))
      (pss_cons (ps_set (i := 2) scFlaw.nd rfl (.inl rfl) pe_int)
      (pss_cons (ps_set (i := 3) scFlaw.nd rfl (.inl rfl) pe_int)
      (pss_cons (ps_set (i := 4) scFlaw.nd rfl (.inl rfl) pe_dnewK)
      (pss_cons (ps_while PassesOwn.never (pt_truth (pv 1) (by intro _; rfl))
        (pss_cons (ps_asg (pe_bm0 PySem.F.plainAttrs_list PySem.F.slot_list_pop PySem.F.type_list_pop mt_pop (pv 1)) (pg_tup rfl (pgs_cons (pg_name (i := 5) scFlaw.nd rfl (.inl rfl)) (pgs_cons (pg_name (i := 6) scFlaw.nd rfl (.inl rfl)) pgs_nil))))
        (pss_cons (ps_if (pt_not (pt_val (C8.pe_c GB hr (by decide) (by rfl) (pa_cons (pv 5) pa_nil)))) (pss_one (ps_ret pe_str)) pss_nil)
        (pss_cons (ps_aug (i := 2) scFlaw.nd rfl (.inl rfl) pe_int ip_add)
        (pss_cons (ps_if (pt_cmpR op_eq (pe_ix ix_tup (pv 5) pe_int (fun _ _ => rfl)) pe_str (nomark _)) (pss_one (ps_dput (hu_of hr) (pv 4) (pe_ix ix_tup (pv 5) pe_int (fun _ _ => rfl)) pe_bl rfl)) pss_nil)
        (pss_cons (ps_if (pt_cmpR op_eq (pe_ix ix_tup (pv 5) pe_int (fun _ _ => rfl)) pe_str (nomark _)) (pss_one (ps_aug (i := 6) scFlaw.nd rfl (.inl rfl) pe_int ip_add)) pss_nil)
        (pss_cons (ps_set (i := 3) scFlaw.nd rfl (.inl rfl) (pe_callB (call_max2 rfl) (by rfl) mx (by decide +kernel) (pa_cons (pv 3) (pa_cons (pv 6) pa_nil))))
        (pss_one (ps_for PassesOwn.never rfl (pi_tup (C8.pe_c GT hr (by decide) (by rfl) (pa_cons (pv 5) pa_nil))) (pg_name (i := 7) scFlaw.nd rfl (.inl rfl))
          (pss_one (ps_expr (pe_bm PySem.F.plainAttrs_list PySem.F.slot_list_append PySem.F.type_list_append mt_append (pv 1) (pa_cons (pe_tup (pa_cons (pv 7) (pa_cons (pv 6) pa_nil))) pa_nil)))))))))))))
      (pss_cons (ps_if (pt_cmpR op_gt (pv 2) (pe_glob (v := .int 24) (by rfl) e1 ⟨_, rfl⟩) (nomark _)) (pss_one (ps_ret pe_str)) pss_nil)
      (pss_cons (ps_if (pt_cmpR op_gt (pe_callB call_lenD (by rfl) T.len PySem.boot_len (pa_cons (pv 4) pa_nil)) (pe_glob (v := .int 4) (by rfl) e2 ⟨_, rfl⟩) (nomark _)) (pss_one (ps_ret pe_str)) pss_nil)
      (pss_cons (ps_if (pt_cmpR op_gt (pv 3) (pe_glob (v := .int 4) (by rfl) e3 ⟨_, rfl⟩) (nomark _)) (pss_one (ps_ret pe_str)) pss_nil)
      (pss_one (ps_ret pe_non))))))))), ?_⟩
    -- the first one waits
    refine ⟨_, rfl, (by show 2 ≤ sizeLine; decide), fun tp ntp => ⟨(by show 1 ≤ sizeLine; decide), fun W nW => ?_⟩⟩
    intro Fd nF
    have nW' : H W = none := (same_new ntp).free nW
    have s1 := Same.trans (same_new (o := .tup [Z.v, .int 0]) ntp) (same_new (o := .lst [.ref tp]) nW)
    have nF' : H Fd = none := s1.free nF
    have s2 := Same.trans s1 (same_new (o := .dK []) nF)
    have etp : (upd (upd (upd H tp (.tup [Z.v, .int 0])) W (.lst [.ref tp])) Fd (.dK [])) tp = some (.tup [Z.v, .int 0]) := same_new nF _ _ (same_new nW _ _ upd_same)
    have eW : (upd (upd (upd H tp (.tup [Z.v, .int 0])) W (.lst [.ref tp])) Fd (.dK [])) W = some (.lst [.ref tp]) := same_new nF _ _ upd_same
    refine gN (nxS ?_)
    refine while_by (FlawAt H Z) mFlaw ⟨W, Fd, _, [(Z, 0)], 0, 0, [], none, none, none, rfl, s2, nW', nF', eW, .cons ⟨tp, rfl, etp⟩ .nil, (fun x hx => ?_), upd_same, ⟨(fun _ h => nomatch h), ⟨by simp, by simp⟩, Nat.zero_le _⟩, Nat.le_refl _, ?_, (fun y hy => .inr ⟨(Z, 0), List.mem_singleton.mpr rfl, hy⟩), .inr ⟨(Z, 0), List.mem_singleton.mpr rfl, by show Z.deep ≤ 0 + Z.deep; omega⟩⟩ (fun σ H1 hP => ?_) (fun σ H Q Q' hh hc => ?_)
    · rw [List.mem_singleton.mp hx]
      exact ⟨hin.keep (Same.tk s2), okZ, by show 0 + Z.deep ≤ Z.deep; omega, fun _ h => h⟩
    · show 0 + (Z.count + 0) = Z.count
      omega
    · obtain ⟨W, Fd, vs, ws, m, d, kvs, y5, y6, y7, rfl, sm, nW, nF, eW, pw, wo, eF, ⟨ki, kk, kd⟩, kl, hm, hl, hdp⟩ := hP
      refine ⟨_, rfl, !vs.isEmpty, .inl ⟨vs, SqL.of eW, rfl⟩, ?_⟩
      rcases List.eq_nil_or_concat ws with rfl | ⟨ws', ⟨A, d0⟩, rfl⟩
      · cases pw
        refine iteF ?_
        have hm : m = Z.count := by have : sumC [] = 0 := rfl; omega
        have hl : ∀ y ∈ Z.lets, Sum.inr y ∈ kvs.map (·.1) := fun y hy => (hl y hy).resolve_right fun ⟨_, z, _⟩ => nomatch z
        have hdp : Z.deep ≤ d := hdp.resolve_right fun ⟨_, z, _⟩ => nomatch z
        refine ⟨_, rfl, _, _, rfl, rfl, _, rfl, ite2 (fun c => ?_) (fun c => ?_)⟩
        · have c := of_decide_eq_true c
          exact q (some "many") _ sm ⟨fun _ => rfl, fun z => by omega, fun z => (by cases z), fun ⟨L, gd⟩ => by have := gd.cnt; omega⟩
        have c : ¬ (24 < (m : Int)) := fun z => c (decide_eq_true z)
        refine ⟨_, rfl, Fd, kvs, rfl, eF, _, _, rfl, rfl, _, rfl, ite2 (fun c2 => ?_) (fun c2 => ?_)⟩
        · refine q (some "letters") _ sm ⟨fun z => by omega, fun _ => .inr (.inl rfl), fun z => (by cases z), fun ⟨L, gd⟩ => ?_⟩
          have := (KeysIn.mk (L := L) kk.nd (fun k hk => by
            obtain ⟨y, h1, h2⟩ := List.mem_map.mp (kk.sub k hk)
            exact List.mem_map.mpr ⟨y, gd.lets y h1, h2⟩)).len
          have := gd.few
          have := of_decide_eq_true c2
          omega
        have c2 : ¬ (4 < (kvs.length : Int)) := fun z => c2 (decide_eq_true z)
        refine ⟨_, rfl, _, _, rfl, rfl, _, rfl, ite2 (fun c3 => ?_) (fun c3 => ?_)⟩
        · refine q (some "deep") _ sm ⟨fun z => by omega, fun _ => .inr (.inr rfl), fun z => (by cases z), fun ⟨L, gd⟩ => ?_⟩
          have := gd.deep
          have := of_decide_eq_true c3
          omega
        have c3 : ¬ (4 < (d : Int)) := fun z => c3 (decide_eq_true z)
        refine q none _ sm ⟨fun z => by omega, fun _ => .inl rfl, fun _ => ?_, fun _ => rfl⟩
        obtain ⟨L, eL⟩ := txt_list ki
        refine ⟨L, okZ, by omega, by omega, ?_, fun x hx => ?_⟩
        · have := congrArg List.length eL
          rw [List.length_map, List.length_map] at this
          omega
        · have := hl x hx
          rw [eL] at this
          obtain ⟨y, h1, h2⟩ := List.mem_map.mp this
          rw [← Sum.inr.inj h2]
          exact h1
      · rw [List.concat_eq_append] at pw wo hm hl hdp
        obtain ⟨zs, z, rfl, pz, tpA, rfl, etA⟩ := Paired.last pw
        rw [show (!(zs ++ [V.ref tpA]).isEmpty) = true by simp]
        refine iteT ?_
        have hA := wo (A, d0) (List.mem_append_right _ (List.mem_singleton.mpr rfl))
        rw [sumC_snoc] at hm
        have hm : m + (sumC ws' + A.count) = Z.count := hm
        have nWF : W ≠ Fd := fun z => by rw [z, eF] at eW; cases eW
        -- pop
        refine ⟨_, rfl, .inl ⟨rfl, _, SqL.of eW⟩, W, _, .ref tpA, rfl, rfl, eW, by simp, ?_⟩
        rw [List.dropLast_concat]
        have k2 : TupKeep H1 (upd H1 W (.lst zs)) := tk_lst eW
        have sm2 : Same H (upd H1 W (.lst zs)) := same_upd sm nW
        have eW2 : (upd H1 W (.lst zs)) W = some (.lst zs) := upd_same
        have eF2 : (upd H1 W (.lst zs)) Fd = some (.dK kvs) := by rw [upd_ne nWF.symm]; exact eF
        generalize upd H1 W (.lst zs) = H2 at k2 sm2 eW2 eF2
        have pz2 := Paired.imp' (fun _ _ => WaitV.keep k2) pz
        have wo2 : ∀ x ∈ ws', WaitOk H2 Z x := fun x hx => let y := wo x (List.mem_append_left _ hx); ⟨y.inn.keep k2, y.ok, y.deep, y.lets⟩
        have inA : A.In H2 := hA.inn.keep k2
        refine ⟨tpA, _, rfl, SqT.of (k2 _ _ etA), rfl, _, _, rfl, _, _, rfl, rfl, ?_⟩
        -- is_built
        refine ⟨_, rfl, A, rfl, inA, hA.ok, fun H3 s3 => ⟨_, rfl, iteF ?_⟩⟩
        have sm3 := Same.trans sm2 s3
        have k3 := Same.tk s3
        replace inA := inA.keep k3
        replace pz2 := Paired.imp' (fun _ _ => WaitV.keep k3) pz2
        replace wo2 : ∀ x ∈ ws', WaitOk H3 Z x := fun x hx => let y := wo2 x hx; ⟨y.inn.keep k3, y.ok, y.deep, y.lets⟩
        replace eW2 := s3 _ _ eW2
        replace eF2 := s3 _ _ eF2
        refine ⟨_, rfl, _, 1, rfl, rfl, ?_⟩
        let base8 (y7 : Option V) (dd : Int) (d1 : Nat) : L2.St := [some Z.v, some (.ref W), some (.int ((m : Int) + 1)), some (.int dd), some (.ref Fd), some A.v, some (.int (d1 : Int)), y7]
        let stand (H' : Hp) (vs : List V) (ws : List (AT × Nat)) : Prop := Same H H' ∧ A.In H' ∧ Paired (WaitV H') vs ws ∧ (∀ x ∈ ws, WaitOk H' Z x) ∧ H' W = some (.lst vs) ∧ ∃ kvs', H' Fd = some (.dK kvs') ∧ (TxtK kvs' ∧ KeysIn Z.lets kvs') ∧ kvs'.length ≤ m + 1 ∧ (∀ k ∈ kvs.map (·.1), k ∈ kvs'.map (·.1)) ∧ (∀ p x, A = .le p x → Sum.inr x ∈ kvs'.map (·.1))
        refine keepN (fun σ' H' => σ' = base8 y7 d d0 ∧ stand H' zs ws') (fun σ' H4 hM => ?_) (fun rest => ?_)
        · obtain ⟨rfl, st4⟩ := hM
          -- undo
          refine keep (fun σ' H' => σ' = base8 y7 d (d0 + A.step) ∧ stand H' zs ws') (fun σ' H5 hM => ?_) (fun rest => ?_)
          · obtain ⟨rfl, st5⟩ := hM
            obtain ⟨sm5, inA5, pz5, wo5, eW5, kvs', eF5, ki5, kl5, sub5, le5⟩ := st5
            have hst := A.step_deep
            refine ⟨_, rfl, _, rfl, _, _, rfl, ?_⟩
            refine ⟨_, rfl, A, rfl, inA5, fun p H6 s6 hp => ?_⟩
            refine ⟨p, rfl, ⟨_, hp⟩, for_tup (K := K) (a := p) (xs := A.kids.map AT.v) (fun i σ' H' => ∃ y7 vs, σ' = base8 y7 (if ((d0 + A.step : Nat) : Int) > (d : Int) then ((d0 + A.step : Nat) : Int) else (d : Int)) (d0 + A.step) ∧ stand H' vs (ws' ++ (A.kids.take i).map fun B => (B, d0 + A.step)) ∧ SqT K H' p (A.kids.map AT.v)) ?_ ?_ ?_ ?_⟩
            · have k6 := Same.tk s6
              refine ⟨y7, zs, rfl, ⟨Same.trans sm5 s6, inA5.keep k6, ?_, ?_, s6 _ _ eW5, kvs', s6 _ _ eF5, ki5, kl5, sub5, le5⟩, hp⟩
              · rw [List.take_zero, List.map_nil, List.append_nil]
                exact Paired.imp' (fun _ _ => WaitV.keep k6) pz5
              · rw [List.take_zero, List.map_nil, List.append_nil]
                exact fun x hx => let y := wo5 x hx; ⟨y.inn.keep k6, y.ok, y.deep, y.lets⟩
            · rintro i σ' H' _ ⟨_, _, _, _, h⟩
              exact h
            · rintro i x σ' H' hx ⟨y7', vs, rfl, ⟨sm6, inA6, pz6, wo6, eW6, kv6, eF6, ki6, kl6, sub6, le6⟩, hp6⟩
              rw [List.getElem?_map] at hx
              obtain ⟨B, hB, rfl⟩ := Option.map_eq_some_iff.mp hx
              have mB : B ∈ A.kids := List.mem_of_getElem? hB
              have cpA := A.count_pos
              refine ⟨_, rfl, .inl ⟨rfl, _, SqL.of eW6⟩, _, rfl, _, rfl, (by show 2 ≤ sizeLine; decide), fun tq nq => ?_⟩
              have k7 := tk_new (o := .tup [B.v, .int ((d0 + A.step : Nat) : Int)]) nq
              have s7 := same_new (o := .tup [B.v, .int ((d0 + A.step : Nat) : Int)]) nq
              have eW7 := s7 _ _ eW6
              have lvs : vs.length ≤ 5002 := by
                have e := Paired.length pz6
                rw [List.length_append, List.length_map, List.length_take] at e
                have l2 := A.kids_len
                have l3 := sumC_len ws'
                omega
              refine ⟨W, _, _, rfl, rfl, eW7, by rw [sizeLine_eq]; omega, ?_⟩
              have k8 := TupKeep.trans k7 (tk_lst (o := .lst (vs ++ [.ref tq])) eW7)
              have sm7 := Same.trans sm6 s7
              refine ⟨_, vs ++ [.ref tq], rfl, ⟨same_upd sm7 nW, inA6.keep k8, ?_, ?_, upd_same, kv6, ?_, ki6, kl6, sub6, le6⟩, seqT_upd eW7 (seqT s7 hp6)⟩
              · rw [List.take_add_one, hB, List.map_append, ← List.append_assoc]
                exact Paired.snoc' ⟨tq, rfl, tk_lst eW7 _ _ upd_same⟩ (Paired.imp' (fun _ _ => WaitV.keep k8) pz6)
              · intro x hx
                rw [List.take_add_one, hB, List.map_append, ← List.append_assoc] at hx
                rcases List.mem_append.mp hx with hx | hx
                · let y := wo6 x hx
                  exact ⟨y.inn.keep k8, y.ok, y.deep, y.lets⟩
                · rw [List.mem_singleton.mp hx]
                  have := A.kid_deep mB
                  have := hA.deep
                  exact ⟨(inA6.kid B mB).keep k8, hA.ok.kid B mB, by have := hA.deep; show d0 + A.step + B.deep ≤ Z.deep; have h9 : d0 + A.deep ≤ Z.deep := hA.deep; omega, fun z hz => hA.lets z (A.kid_lets mB z hz)⟩
              · rw [upd_ne nWF.symm]
                exact s7 _ _ eF6
            · rintro σ' H' ⟨y7', vs, rfl, ⟨sm6, inA6, pz6, wo6, eW6, kv6, eF6, ki6, kl6, sub6, le6⟩, hp6⟩
              rw [List.length_map, List.take_length] at pz6 wo6
              have hc := sumC_kids A (d0 + A.step)
              have cp := A.count_pos
              refine ⟨⟨W, Fd, vs, _, m + 1, max d (d0 + A.step), kv6, some A.v, some (.int ((d0 + A.step : Nat) : Int)), y7', ?_, sm6, nW, nF, eW6, pz6, wo6, eF6, ⟨ki6.1, ki6.2, by have := A.step_deep; have h9 : d0 + A.deep ≤ Z.deep := hA.deep; omega⟩, kl6, ?_, (fun y hy => ?_), ?_⟩, ?_⟩
              · have e1 : (if ((d0 + A.step : Nat) : Int) > (d : Int) then ((d0 + A.step : Nat) : Int) else (d : Int)) = ((max d (d0 + A.step) : Nat) : Int) := by split <;> omega
                rw [e1]
                rfl
              · rw [sumC_app]
                omega
              · rcases hl y hy with z | ⟨x, hx, z⟩
                · exact .inl (sub6 _ z)
                · rcases List.mem_append.mp hx with hx | hx
                  · exact .inr ⟨x, List.mem_append_left _ hx, z⟩
                  · rw [List.mem_singleton.mp hx] at z
                    rcases A.lets_kids y z with ⟨p, e⟩ | ⟨B, mB, hB⟩
                    · exact .inl (le6 p y e)
                    · exact .inr ⟨(B, d0 + A.step), List.mem_append_right _ (List.mem_map_of_mem mB), hB⟩
              · rcases hdp with z | ⟨x, hx, z⟩
                · exact .inl (by omega)
                · rcases List.mem_append.mp hx with hx | hx
                  · exact .inr ⟨x, List.mem_append_left _ hx, z⟩
                  · rw [List.mem_singleton.mp hx] at z
                    have z : Z.deep ≤ d0 + A.deep := z
                    rcases A.deep_kids with e | ⟨B, mB, hB⟩
                    · exact .inl (by omega)
                    · exact .inr ⟨(B, d0 + A.step), List.mem_append_right _ (List.mem_map_of_mem mB), by show Z.deep ≤ d0 + A.step + B.deep; omega⟩
              · show 5000 - ((m : Int) + 1).toNat < 5000 - (m : Int).toNat
                omega
          · obtain ⟨sm4, inA4, r4⟩ := id st4
            refine ⟨_, rfl, A.at_, _, 0, _, rfl, rfl, SqT.of inA4.tup, atI_nat (j := 0) rfl, rfl, _, rfl, ite2 (fun c => ?_) (fun c => ?_)⟩
            · have e := (word_undo A).1 (of_decide_eq_true c)
              refine ⟨_, rfl, _, 1, rfl, rfl, rest _ _ ⟨?_, st4⟩⟩
              rw [e]
              rfl
            · have e : A.step = 0 := (A.step_le).resolve_right fun z => c (decide_eq_true ((word_undo A).2 z))
              exact rest _ _ ⟨by rw [e]; rfl, st4⟩
        · refine ⟨_, rfl, A.at_, _, 0, _, rfl, rfl, SqT.of inA.tup, atI_nat (j := 0) rfl, rfl, _, rfl, ?_⟩
          rcases word_letter A with ⟨p, x, rfl⟩ | ne
          · refine ifP rfl ?_
            refine ⟨_, rfl, _, rfl, p, _, 1, _, rfl, rfl, SqT.of inA.tup, atI_nat (j := 1) rfl, Fd, _, rfl, DPut.k (k := Sum.inr x) eF2 (by rw [sizeLine_eq]; omega), ?_⟩
            have nFW : ∀ {a : Addr} {ys : List V}, H3 a = some (.tup ys) → (upd H3 Fd (.dK (putK kvs (Sum.inr x) (.bl true)))) a = some (.tup ys) := fun {a ys} h => by
              rw [upd_ne (fun z => by rw [z, eF2] at h; cases h)]
              exact h
            have k4 : TupKeep H3 (upd H3 Fd (.dK (putK kvs (Sum.inr x) (.bl true)))) := fun a ys h => nFW h
            refine rest _ _ ⟨rfl, same_upd sm3 nF, inA.keep k4, Paired.imp' (fun _ _ => WaitV.keep k4) pz2, fun x hx => let y := wo2 x hx; ⟨y.inn.keep k4, y.ok, y.deep, y.lets⟩, ?_, _, upd_same, ⟨(fun k hk => (putK_keysM k).mp hk |>.elim (fun z => ⟨x, z⟩) (ki k)), kk.put (hA.lets x (List.mem_singleton.mpr rfl))⟩, Nat.le_trans putK_len (by omega), (fun k hk => (putK_keysM k).mpr (.inr hk)), fun p' x' e => ?_⟩
            · rw [upd_ne nWF]
              exact eW2
            · cases e
              exact (putK_keysM _).mpr (.inl rfl)
          · exact ifN ne (rest _ _ ⟨rfl, sm3, inA, pz2, wo2, eW2, kvs, eF2, ⟨ki, kk⟩, by omega, fun _ h => h, fun p x e => by subst e; exact absurd rfl ne⟩)
    · obtain ⟨v, e1, k, e2, e3⟩ := hc
      exact ⟨v, e1, k, e2, hh _ _ e3⟩
end
end Nv

set_option maxRecDepth 100000
set_option maxHeartbeats 4000000
namespace Nv
open PySem PySem.Spec PyProof.Rows L2 NvSet
theorem fr_low (t : Int) {b : Int} (hb : b ≠ 0) : Int.gcd (frT t b) (frB t b) = 1 := by
  have e1 : frT t b * per t b = t := fdiv_mul (per_dvd_l t b)
  have e2 : frB t b * per t b = b := fdiv_mul (per_dvd_r t b)
  have g : Int.gcd (frT t b * per t b) (frB t b * per t b) = Int.gcd (frT t b) (frB t b) * (per t b).natAbs := Int.gcd_mul_right ..
  rw [e1, e2] at g
  have p : (per t b).natAbs = Int.gcd t b := by
    unfold per
    split <;> omega
  rw [p] at g
  have pos := gcd_pos t hb
  have : 1 * Int.gcd t b = Int.gcd (frT t b) (frB t b) * Int.gcd t b := by rw [Nat.one_mul]; exact g
  exact (Nat.eq_of_mul_eq_mul_right pos this).symm
theorem sh_fr {t b : Int} (ht : t.natAbs ≤ 1000) (hb : b.natAbs ≤ 1000) (h0 : b ≠ 0) : ShOk (frT t b) (frB t b) := by
  have h1 := frT_le t h0
  have h2 := frB_le t h0
  have h3 := frB_pos t h0
  exact ⟨by omega, by omega, by omega, fr_low t h0⟩
abbrev sAbc : Stmt := topS 72
abbrev sLeaf : Stmt := topS 73
abbrev sDrawn : Stmt := topS 74
abbrev nAbc : List Str := ["_law_bag_here", "_law_many", "_law_first", "_law_found", "_law_pad", "_law_at", "_law_k", "_law_sign"]
theorem scAbc : FnScope nAbc ["_law_bag_here", "_law_many"] (defScope sAbc) := ⟨rfl, rfl, rfl, by decide +kernel, rfl, by decide +kernel, by decide +kernel⟩
theorem scLeaf : FnScope ["_law_bag_here", "_law_signs"] ["_law_bag_here", "_law_signs"] (defScope sLeaf) := ⟨rfl, rfl, rfl, by decide +kernel, rfl, by decide +kernel, by decide +kernel⟩
theorem scDrawn : FnScope ["_law_bag_here", "_law_signs", "_law_room", "_law_deep", "_law_way", "_law_half", "_law_one"] ["_law_bag_here", "_law_signs", "_law_room", "_law_deep"] (defScope sDrawn) := ⟨rfl, rfl, rfl, by decide +kernel, rfl, by decide +kernel, by decide +kernel⟩
def spLight : Sp := fun vs H Q _ => ∃ l b : Addr, vs = [.ref b] ∧ Bag l b H ∧ ∀ (p : Addr) (t d : Int) (H' : Hp), ShOk t d → Bag l b H' → Grow b H H' → H p = none → H' p = some (.tup [.int t, .int d]) → Q (.ref p) H'
/-- tuples stay where the bag alone changes -/
theorem Bag.tk {l b : Addr} {H H' : Hp} (B : Bag l b H) (g : Grow b H H') : TupKeep H H' := fun a xs h => by
  obtain ⟨ns, _, _, ⟨i, j, s, n, hb, _⟩⟩ := B
  exact g a _ (fun z => by rw [z, hb] at h; cases h) h
section
variable {P : Program} {w : World} {K : PySem.W.Frag} {mg : Str → Option Value} {base : Heap}
theorem ok_light8 {f : Addr} {fd : FuncData} (F : Fun K "_law_light" "_law_light" sLight f fd) (GF : C8.Cal P w K mg base 2 "_law_fr" spFr []) (GP : C8.Cal P w K mg base 1 "_law_pull" spPull []) : FnOk P w K mg base CX0 3 f fd ["_law_bag_here"] spLight := by
  refine F.ok scLight (fun vs H Q E h => ?_) (fun cdv A outer s H vs Q E hr h => ?_)
  · obtain ⟨l, b, rfl, _⟩ := h
    rfl
  · obtain ⟨l, b, rfl, B, q⟩ := h
    refine ⟨_, pss_one (ps_ret (C8.pe_c GF hr (by decide) (by rfl) (pa_cons (pe_op op_sub (C8.pe_c GP hr (by decide) (by rfl) (pa_cons (pv 0) (pa_cons pe_int pa_nil))) pe_int)
      (pa_cons (pe_ix ix_list (pe_lst (pa_cons pe_int (pa_cons pe_int (pa_cons pe_int (pa_cons pe_int (pa_cons pe_int (pa_cons pe_int pa_nil))))))) (C8.pe_c GP hr (by decide) (by rfl) (pa_cons (pv 0) (pa_cons pe_int pa_nil))) (fun _ _ => rfl)) pa_nil)))), ?_⟩
    refine ⟨_, rfl, l, b, 9, rfl, by decide, fit8 (n := 4) (by decide) (by decide), B, fun r H1 r0 r1 B1 t1 => ?_⟩
    refine ⟨r, 4, rfl, rfl, (by show 6 ≤ sizeLine; decide), fun o no => ?_⟩
    have B2 := B1.same (same_new (o := .lst [.int 1, .int 1, .int 1, .int 2, .int 3, .int 5]) no)
    refine ⟨_, rfl, l, b, 6, rfl, by decide, fit8 (n := 4) (by decide) (by decide), B2, fun r2 H2 s0 s1 B3 t2 => ?_⟩
    have nob := B1.ne no
    have ho : H2 o = some (.lst [.int 1, .int 1, .int 1, .int 2, .int 3, .int 5]) := by rw [t2 o nob, upd_same]
    have g : Grow b H H2 := t1.grow.trans ((Same.grow (same_new no)).trans t2.grow)
    have pick : ∃ d : Int, atI [V.int 1, V.int 1, V.int 1, V.int 2, V.int 3, V.int 5] r2 = some (.int d) ∧ 0 < d ∧ d ≤ 5 := by
      have : r2 = 0 ∨ r2 = 1 ∨ r2 = 2 ∨ r2 = 3 ∨ r2 = 4 ∨ r2 = 5 := by omega
      rcases this with e | e | e | e | e | e <;> subst e
      · exact ⟨1, rfl, by decide, by decide⟩
      · exact ⟨1, rfl, by decide, by decide⟩
      · exact ⟨1, rfl, by decide, by decide⟩
      · exact ⟨2, rfl, by decide, by decide⟩
      · exact ⟨3, rfl, by decide, by decide⟩
      · exact ⟨5, rfl, by decide, by decide⟩
    obtain ⟨d, hd, d0, d5⟩ := pick
    refine ⟨o, _, r2, _, rfl, rfl, SqL.of ho, hd, r - 4, d, rfl, by omega, fit8 (n := 5) (Nat.lt_of_le_of_lt (show d.natAbs ≤ 9 by omega) (by decide)) (by decide), fun p H' sm hp ep => ?_⟩
    exact q p _ _ _ (sh_fr (by omega) (by omega) (by omega)) (B3.same sm) (g.trans (Same.grow sm)) (g.free (B3.ne hp) hp) ep
/-- one of the signs or a share -/
def spLeaf : Sp := fun vs H Q _ => ∃ (l b o : Addr) (L : List Str), vs = [.ref b, .ref o] ∧ o ≠ b ∧ H o = some (.lst (L.map V.str)) ∧ 0 < L.length ∧ L.length ≤ 1000 ∧ (∀ x ∈ L, Small x) ∧ Bag l b H ∧
  ∀ (T : AT) (H' : Hp), T.In H' → T.Ok → T.count = 1 → T.deep = 0 → (∀ x ∈ T.lets, x ∈ L) → Bag l b H' → Grow b H H' → Q T.v H'
theorem ok_leaf {f : Addr} {fd : FuncData} (F : Fun K "_law_leaf" "_law_leaf" sLeaf f fd) (GL : C8.Cal P w K mg base 3 "_law_light" spLight []) (GP : C8.Cal P w K mg base 1 "_law_pull" spPull []) (GO : C8.Cal P w K mg base 2 "_law_of" spOf []) :
    FnOk P w K mg base CX0 4 f fd ["_law_bag_here", "_law_signs"] spLeaf := by
  refine F.ok scLeaf (fun vs H Q E h => ?_) (fun cdv A outer s H vs Q E hr h => ?_)
  · obtain ⟨l, b, o, L, rfl, _⟩ := h
    rfl
  · obtain ⟨l, b, o, L, rfl, nob, ho, h0, h1, hs, B, q⟩ := h
    refine ⟨_, pss_one (ps_ret (pe_ifExp (pt_cmpR op_eq (C8.pe_c GP hr (by decide) (by rfl) (pa_cons (pv 0) (pa_cons pe_int pa_nil))) pe_int (nomark _)) (pe_tup (pa_cons pe_str (pa_cons (C8.pe_c GL hr (by decide) (by rfl) (pa_cons (pv 0) pa_nil)) pa_nil)))
      (pe_tup (pa_cons pe_str (pa_cons (C8.pe_c GO hr (by decide) (by rfl) (pa_cons (pv 0) (pa_cons (pv 1) pa_nil))) pa_nil))))), ?_⟩
    refine ⟨_, rfl, l, b, 4, rfl, by decide, fit8 (n := 4) (by decide) (by decide), B, fun r H1 r0 r1 B1 t1 => ?_⟩
    have ho1 : H1 o = some (.lst (L.map V.str)) := t1.grow _ _ nob ho
    refine ⟨rfl, _, rfl, ite2 (fun c => ?_) (fun c => ?_)⟩
    · refine ⟨_, rfl, l, b, rfl, B1, fun p t d H2 sh B2 g2 np ep => ⟨(by show 2 ≤ sizeLine; decide), fun tp nt => ?_⟩⟩
      have sm := same_new (o := .tup [.str "share", .ref p]) nt
      exact q (.sh tp p t d) _ ⟨upd_same, sm _ _ ep⟩ sh rfl rfl (fun x hx => nomatch hx) (B2.same sm) (t1.grow.trans (g2.trans (Same.grow sm)))
    · refine ⟨_, rfl, _, rfl, l, b, o, _, rfl, nob, ho1, by rw [List.length_map]; exact h0, by rw [List.length_map]; exact h1, B1, fun v H2 hv B2 t2 => ⟨(by show 2 ≤ sizeLine; decide), fun tp nt => ?_⟩⟩
      obtain ⟨x, hx, rfl⟩ := List.mem_map.mp hv
      have sm := same_new (o := .tup [.str "letter", .str x]) nt
      exact q (.le tp x) _ upd_same (hs x hx) rfl rfl (fun y hy => by rw [List.mem_singleton.mp hy]; exact hx) (B2.same sm) (t1.grow.trans (t2.grow.trans (Same.grow sm)))
/-- a drawn reckoning of at most r parts -/
def spDrawn (n : Nat) : Sp := fun vs H Q _ => ∃ (l b o : Addr) (L : List Str) (r d : Nat), vs = [.ref b, .ref o, .int (r : Int), .int (d : Int)] ∧ 1 ≤ r ∧ r ≤ n ∧ n ≤ 1000 ∧ d ≤ 1000 ∧ o ≠ b ∧ H o = some (.lst (L.map V.str)) ∧ 0 < L.length ∧ L.length ≤ 1000 ∧ (∀ x ∈ L, Small x) ∧ Bag l b H ∧
  ∀ (T : AT) (H' : Hp), T.In H' → T.Ok → T.count ≤ r → T.deep ≤ d → (∀ x ∈ T.lets, x ∈ L) → Bag l b H' → Grow b H H' → Q T.v H'
theorem ok_drawn {f : Addr} {fd : FuncData} (F : Fun K "_law_drawn" "_law_drawn" sDrawn f fd) (gf : mg "_law_drawn" = some (.ref f)) (bf : Binds K fd ["_law_bag_here", "_law_signs", "_law_room", "_law_deep"] [])
    (GL : C8.Cal P w K mg base 4 "_law_leaf" spLeaf []) (GP : C8.Cal P w K mg base 1 "_law_pull" spPull []) : ∀ n : Nat, FnOk P w K mg base CX0 (n + 4) f fd ["_law_bag_here", "_law_signs", "_law_room", "_law_deep"] (spDrawn n) := by
  intro n
  induction n with
  | zero => exact ⟨fun vs H Q E h => by obtain ⟨_, _, _, _, _, _, rfl, _⟩ := h; rfl, fun A outer s H args us vs Q E _ _ _ _ h => by
      obtain ⟨_, _, _, _, r, _, _, c1, c2, _⟩ := h
      omega⟩
  | succ n ih =>
    refine F.ok scDrawn (fun vs H Q E h => ?_) (fun cdv A outer s H vs Q E hr h => ?_)
    · obtain ⟨_, _, _, _, _, _, rfl, _⟩ := h
      rfl
    · obtain ⟨l, b, o, L, r, d, rfl, r1, rn, hn, hd, nob, ho, h0, h1, hs, B, q⟩ := h
      refine ⟨_, pss_cons (ps_set (i := 4) scDrawn.nd rfl (.inl rfl) (C8.pe_c GP hr (by omega) (by rfl) (pa_cons (pv 0) (pa_cons pe_int pa_nil))))
        (pss_cons (ps_if (PW.pt (pw_or (pt_cmpR op_lt (pv 2) pe_int (nomark _)) (pw_or (pt_cmpR op_eq (pv 4) pe_int (nomark _)) (pw_or1 (PW.pt (pw_and (pt_cmpR op_lt (pv 2) pe_int (nomark _)) (pw_and1 (pt_cmpR op_eq (pv 3) pe_int (nomark _)))))))))
          (pss_one (ps_ret (C8.pe_c GL hr (by omega) (by rfl) (pa_cons (pv 0) (pa_cons (pv 1) pa_nil))))) pss_nil)
        (pss_cons (ps_if (PW.pt (pw_and (pt_cmpR op_gt (pv 3) pe_int (nomark _)) (pw_and1 (PW.pt (pw_or (pt_cmpR op_lt (pv 4) pe_int (nomark _)) (pw_or1 (pt_cmpR op_lt (pv 2) pe_int (nomark _))))))))
          (pss_one (ps_ret (pe_tup (pa_cons pe_str (pa_cons (pe_call ih hr (by rfl) gf F.kp bf .nil pass0 (pa_cons (pv 0) (pa_cons (pv 1) (pa_cons (pe_op op_sub (pv 2) pe_int) (pa_cons (pe_op op_sub (pv 3) pe_int) pa_nil))))) pa_nil))))) pss_nil)
        (pss_cons (ps_set (i := 5) scDrawn.nd rfl (.inl rfl) (pe_op op_add pe_int (C8.pe_c GP hr (by omega) (by rfl) (pa_cons (pv 0) (pa_cons (pe_op op_sub (pv 2) pe_int) pa_nil)))))
        (pss_cons (ps_set (i := 6) scDrawn.nd rfl (.inl rfl) (pe_call ih hr (by rfl) gf F.kp bf .nil pass0 (pa_cons (pv 0) (pa_cons (pv 1) (pa_cons (pv 5) (pa_cons (pv 3) pa_nil))))))
        (pss_one (ps_ret (pe_tup (pa_cons (pe_ix ix_list (pe_lst (pa_cons pe_str (pa_cons pe_str (pa_cons pe_str pa_nil)))) (pe_op op_mod (pv 4) pe_int) (fun _ _ => rfl)) (pa_cons (pv 6)
          (pa_cons (pe_call ih hr (by rfl) gf F.kp bf .nil pass0 (pa_cons (pv 0) (pa_cons (pv 1) (pa_cons (pe_op op_sub (pe_op op_sub (pv 2) pe_int) (pv 5)) (pa_cons (pv 3) pa_nil))))) pa_nil)))))))))), ?_⟩
      refine ⟨_, rfl, l, b, 9, rfl, by decide, fit8 (n := 4) (by decide) (by decide), B, fun y H1 y0 y1 B1 t1 => ?_⟩
      have ho1 : H1 o = some (.lst (L.map V.str)) := t1.grow _ _ nob ho
      have leafQ : spLeaf [.ref b, .ref o] H1 Q C8.E0 := ⟨l, b, o, L, rfl, nob, ho1, h0, h1, hs, B1, fun T H2 a1 a2 a3 a4 a5 B2 g2 => q T H2 a1 a2 (by omega) (by omega) a5 B2 (t1.grow.trans g2)⟩
      let st : L2.St := [some (.ref b), some (.ref o), some (.int (r : Int)), some (.int (d : Int)), some (.int y), none, none]
      refine keepN (fun σ' H' => σ' = st ∧ H1 = H' ∧ 2 ≤ r ∧ (3 ≤ r ∨ 1 ≤ d)) (fun σ' H' hM => ?_) (fun rest => ?_)
      · obtain ⟨rfl, rfl, r2, r3⟩ := hM
        refine keep (fun σ' H' => σ' = st ∧ H1 = H' ∧ 3 ≤ r) (fun σ' H' hM => ?_) (fun rest => ?_)
        · obtain ⟨rfl, rfl, r3⟩ := hM
          refine ⟨_, rfl, _, rfl, _, 2, rfl, rfl, l, b, (r : Int) - 2, rfl, by omega, fit8 (n := 10) (Nat.lt_of_le_of_lt (show ((r : Int) - 2).natAbs ≤ 1000 by omega) (by decide)) (by decide), B1, fun z H2 z0 z1 B2 t2 => ?_⟩
          refine ⟨1, z, rfl, rfl, ?_⟩
          have ho2 : H2 o = some (.lst (L.map V.str)) := t2.grow _ _ nob ho1
          have ez : (1 : Int) + z = ((1 + z.toNat : Nat) : Int) := by omega
          refine ⟨_, rfl, _, rfl, _, rfl, _, rfl, l, b, o, L, 1 + z.toNat, d, congrArg (fun k => [V.ref b, V.ref o, V.int k, V.int (d : Int)]) ez, by omega, by omega, by omega, hd, nob, ho2, h0, h1, hs, B2, fun T1 H3 a1 a2 a3 a4 a5 B3 g3 => ?_⟩
          have ho3 := g3 _ _ nob ho2
          refine ⟨(by show 3 ≤ sizeLine; decide), fun w3 nw3 => ?_⟩
          have s4 := same_new (o := .lst [.str "plus", .str "less", .str "times"]) nw3
          have B4 := B3.same s4
          have n3 := B3.ne nw3
          refine ⟨_, rfl, y, 3, rfl, rfl, (by show (0 : Int) < 3; decide), ?_⟩
          obtain ⟨op, hop⟩ : ∃ op : Op, atI [V.str "plus", V.str "less", V.str "times"] (y % 3) = some (.str op.word) := by
            have : y % 3 = 0 ∨ y % 3 = 1 ∨ y % 3 = 2 := by omega
            rcases this with e | e | e <;> rw [e]
            · exact ⟨.plus, rfl⟩
            · exact ⟨.less, rfl⟩
            · exact ⟨.times, rfl⟩
          refine ⟨w3, _, _, _, rfl, rfl, SqL.of upd_same, hop, _, rfl, _, rfl, _, rfl, _, rfl, _, 1, rfl, rfl, _, rfl, _, _, rfl, rfl, _, rfl, ?_⟩
          have er : (r : Int) - 1 - (1 + z) = ((r - 1 - (1 + z.toNat) : Nat) : Int) := by omega
          refine ⟨l, b, o, L, r - 1 - (1 + z.toNat), d, congrArg (fun k => [V.ref b, V.ref o, V.int k, V.int (d : Int)]) er, by omega, by omega, by omega, hd, nob, s4 _ _ ho3, h0, h1, hs, B4, fun T2 H5 c1 c2 c3 c4 c5 B5 g5 => ⟨(by show 3 ≤ sizeLine; decide), fun tp nt => ?_⟩⟩
          have s6 := same_new (o := .tup [.str op.word, T1.v, T2.v]) nt
          have k5 := B4.tk g5
          refine q (.two tp op T1 T2) _ ⟨upd_same, (a1.keep (Same.tk s4)).keep (k5.trans (Same.tk s6)), c1.keep (Same.tk s6)⟩ ⟨a2, c2⟩ ?_ ?_ ?_ (B5.same s6) (t1.grow.trans (t2.grow.trans (g3.trans ((Same.grow s4).trans (g5.trans (Same.grow s6))))))
          · show 1 + T1.count + T2.count ≤ r
            omega
          · show max T1.deep T2.deep ≤ d
            omega
          · intro x hx
            rcases List.mem_append.mp hx with e | e
            · exact a5 x e
            · exact c5 x e
        · have undoQ : 1 ≤ d → ∀ {D : Ends}, D.rt = Q → tRet (tTup (tCons (tC (V.str "undo")) (tCons (tCall (spDrawn n) [] C8.E0 (tCons (tVar 0) (tCons (tVar 1) (tCons (tOp (rI0 fun i j => .int (i - j)) (tVar 2) (tC (V.int 1))) (tCons (tOp (rI0 fun i j => .int (i - j)) (tVar 3) (tC (V.int 1))) tNil))))) tNil))) D st H1 := fun d1 D hD => by
            refine ⟨_, rfl, _, rfl, _, rfl, _, 1, rfl, rfl, _, rfl, _, 1, rfl, rfl, ?_⟩
            have e1 : (r : Int) - 1 = ((r - 1 : Nat) : Int) := by omega
            have e2 : (d : Int) - 1 = ((d - 1 : Nat) : Int) := by omega
            have e3 : [V.ref b, V.ref o, V.int ((r : Int) - 1), V.int ((d : Int) - 1)] = [V.ref b, V.ref o, V.int ((r - 1 : Nat) : Int), V.int ((d - 1 : Nat) : Int)] := by rw [e1, e2]
            refine ⟨l, b, o, L, r - 1, d - 1, e3, by omega, by omega, by omega, by omega, nob, ho1, h0, h1, hs, B1, fun T H3 a1 a2 a3 a4 a5 B3 g3 => ⟨(by show 2 ≤ sizeLine; decide), fun tp nt => ?_⟩⟩
            have s6 := same_new (o := .tup [.str "undo", T.v]) nt
            rw [hD]
            refine q (.un tp T) _ ⟨upd_same, a1.keep (Same.tk s6)⟩ a2 ?_ ?_ a5 (B3.same s6) (t1.grow.trans (g3.trans (Same.grow s6)))
            · show 1 + T.count ≤ r
              omega
            · show T.deep + 1 ≤ d
              omega
          refine ⟨_, rfl, _, 0, rfl, rfl, _, rfl, ite2 (fun c => ?_) (fun c => ?_)⟩
          · have d1 : 1 ≤ d := by
              have := of_decide_eq_true c
              omega
            refine ⟨_, rfl, _, 3, rfl, rfl, _, rfl, ite2 (fun c => ?_) (fun c => ?_)⟩
            · refine iteT (undoQ d1 ?_)
              rfl
            · refine ⟨_, rfl, _, 3, rfl, rfl, _, rfl, ite2 (fun c => ?_) (fun c => ?_)⟩
              · refine undoQ d1 ?_
                rfl
              · have : ¬ (r : Int) < 3 := fun z => c (decide_eq_true z)
                exact rest _ _ ⟨rfl, rfl, by omega⟩
          · have : ¬ (0 : Int) < (d : Int) := fun z => c (decide_eq_true z)
            exact iteF (rest _ _ ⟨rfl, rfl, by omega⟩)
      · refine ⟨_, rfl, _, 2, rfl, rfl, _, rfl, ite2 (fun c => ?_) (fun c1 => ?_)⟩
        · exact iteT ⟨_, rfl, _, rfl, leafQ⟩
        have r2 : 2 ≤ r := by
          have : ¬ (r : Int) < 2 := fun z => c1 (decide_eq_true z)
          omega
        refine ⟨_, rfl, rfl, _, rfl, ite2 (fun c => ?_) (fun c2 => ?_)⟩
        · exact iteT ⟨_, rfl, _, rfl, leafQ⟩
        refine ⟨_, rfl, _, 3, rfl, rfl, _, rfl, ite2 (fun c => ?_) (fun c3 => ?_)⟩
        · refine ⟨_, rfl, rfl, _, rfl, ite2 (fun c => ?_) (fun c4 => ?_)⟩
          · exact ⟨_, rfl, _, rfl, leafQ⟩
          · have : (d : Int) ≠ 0 := fun z => c4 (decide_eq_true (congrArg V.int z))
            exact rest _ _ ⟨rfl, rfl, r2, .inr (by omega)⟩
        · have : ¬ (r : Int) < 3 := fun z => c3 (decide_eq_true z)
          exact iteF (rest _ _ ⟨rfl, rfl, r2, .inl (by omega)⟩)
end
end Nv

set_option maxRecDepth 100000
set_option maxHeartbeats 4000000
namespace Nv
open PySem PySem.Spec PyProof.Rows L2 NvSet
/-- signs that are all small letters -/
def allS (x : Str) : Bool := x.cps.toList.all fun c => decide (c ∈ (Str.ofString "abcdefghijklmnopqrstuvwxyz").cps.toList)
def padOk (x : Str) (r : Nat) : Bool := allS (cutS x none (some (r : Int))) && allS (cutS x (some (r : Int)) none) && decide ((cutS x none (some (r : Int))).length + (cutS x (some (r : Int)) none).length ≤ 5)
def pads : List Str := ["", "", "q", "zzzzz", "ab"]
theorem pads_ok : (pads.all fun x => (List.range (x.length + 1)).all fun r => padOk x r) = true := by decide +kernel
theorem abc_len : (Str.ofString "abcdefghijklmnopqrstuvwxyz").length = 26 := by decide +kernel
theorem pads_len : (pads.all fun x => decide (x.length ≤ 5)) = true := by decide +kernel
theorem small_of {a s b : Str} {c : Nat} (ha : allS a = true) (hb : allS b = true) (hl : a.length + b.length ≤ 5) (hc : c ∈ (Str.ofString "abcdefghijklmnopqrstuvwxyz").cps.toList) : Small (a ++ ⟨#[c]⟩ ++ b) := by
  have e : (a ++ (⟨#[c]⟩ : Str) ++ b).cps.toList = a.cps.toList ++ [c] ++ b.cps.toList := by
    show ((a.cps ++ #[c]) ++ b.cps).toList = _
    rw [Array.toList_append, Array.toList_append]
  have l : (a ++ (⟨#[c]⟩ : Str) ++ b).length = a.length + 1 + b.length := by
    rw [Str.length_append, Str.length_append]
    rfl
  refine ⟨by omega, by omega, fun x hx => ?_⟩
  rw [e] at hx
  rcases List.mem_append.mp hx with h | h
  · rcases List.mem_append.mp h with h | h
    · exact of_decide_eq_true (List.all_eq_true.mp ha x h)
    · rw [List.mem_singleton.mp h]
      exact hc
  · exact of_decide_eq_true (List.all_eq_true.mp hb x h)
/-- the j-th small letter between two texts -/
def abcW (a b : Str) (j : Nat) : Str := a ++ ⟨#[((Str.ofString "abcdefghijklmnopqrstuvwxyz").cps.toList.getD j 0)]⟩ ++ b
theorem abc_apart : ∀ j k, j < 26 → k < 26 → (Str.ofString "abcdefghijklmnopqrstuvwxyz").cps.toList.getD j 0 = (Str.ofString "abcdefghijklmnopqrstuvwxyz").cps.toList.getD k 0 → j = k := by
  have h : ((List.range 26).all fun j => (List.range 26).all fun k => decide ((Str.ofString "abcdefghijklmnopqrstuvwxyz").cps.toList.getD j 0 = (Str.ofString "abcdefghijklmnopqrstuvwxyz").cps.toList.getD k 0) == decide (j = k)) = true := by decide +kernel
  intro j k hj hk e
  have h1 := List.all_eq_true.mp (List.all_eq_true.mp h j (List.mem_range.mpr hj)) k (List.mem_range.mpr hk)
  rw [decide_eq_true e] at h1
  have h2 : true = decide (j = k) := by simpa using h1
  exact of_decide_eq_true h2.symm
theorem abcW_inj {a b : Str} {j k : Nat} (hj : j < 26) (hk : k < 26) (e : abcW a b j = abcW a b k) : j = k := by
  refine abc_apart j k hj hk ?_
  have e1 := congrArg (fun z : Str => z.cps.toList) e
  have e2 : ∀ c : Nat, (a ++ (⟨#[c]⟩ : Str) ++ b).cps.toList = a.cps.toList ++ ([c] ++ b.cps.toList) := fun c => by
    show ((a.cps ++ #[c]) ++ b.cps).toList = _
    rw [Array.toList_append, Array.toList_append, List.append_assoc]
  have e3 : a.cps.toList ++ ([_] ++ b.cps.toList) = a.cps.toList ++ ([_] ++ b.cps.toList) := (e2 _).symm.trans (e1.trans (e2 _))
  have e4 := List.append_cancel_left e3
  exact (List.cons.inj e4).1
/-- the letters so far are unlike -/
def NodI (m : Nat) (r : Int) (a b : Str) (L : List Str) (i : Nat) : Prop := m ≤ 26 → L.Nodup ∧ ∀ x ∈ L, ∃ k : Nat, k < i ∧ x = abcW a b ((r + 5 * (k : Int)) % 26).toNat
theorem NodI.step {m : Nat} {r : Int} {a b : Str} {L : List Str} {i j : Nat} (h : NodI m r a b L i) (hi : i < m) (r0 : 0 ≤ r) (ej : (r + 5 * (i : Int)) % 26 = (j : Int)) (hj : j < (Str.ofString "abcdefghijklmnopqrstuvwxyz").cps.toList.length) :
    NodI m r a b (L ++ [a ++ (⟨#[(Str.ofString "abcdefghijklmnopqrstuvwxyz").cps.toList[j]]⟩ : Str) ++ b]) (i + 1) := fun hm => by
  obtain ⟨h1, h2⟩ := h hm
  have ew : a ++ (⟨#[(Str.ofString "abcdefghijklmnopqrstuvwxyz").cps.toList[j]]⟩ : Str) ++ b = abcW a b j := by
    unfold abcW
    rw [List.getD_eq_getElem?_getD, List.getElem?_eq_getElem hj]
    rfl
  rw [ew]
  have j26 : j < 26 := by omega
  refine ⟨?_, fun x hx => ?_⟩
  · rw [List.nodup_append]
    refine ⟨h1, List.nodup_cons.mpr ⟨by simp, List.nodup_nil⟩, fun x hx y hy e => ?_⟩
    rw [List.mem_singleton.mp hy] at e
    obtain ⟨k, hk, ek⟩ := h2 x hx
    have := abcW_inj (by omega) j26 (ek.symm.trans e)
    omega
  · rcases List.mem_append.mp hx with e | e
    · obtain ⟨k, hk, ek⟩ := h2 x e
      exact ⟨k, by omega, ek⟩
    · refine ⟨i, by omega, ?_⟩
      rw [List.mem_singleton.mp e, ej]
      rfl
theorem grow_upd {b D : Addr} {H H1 : Hp} {o : HO} (g : Grow b H H1) (hD : H D = none) : Grow b H (upd H1 D o) := fun a x n h => by
  rw [upd_ne (ne_of_none h hD)]
  exact g a x n h
section
variable {P : Program} {w : World} {K : PySem.W.Frag} {mg : Str → Option Value} {base : Heap}
/-- so many letters, in a new list -/
def spAbc : Sp := fun vs H Q _ => ∃ (l b : Addr) (m : Nat), vs = [.ref b, .int (m : Int)] ∧ m ≤ 1000 ∧ Bag l b H ∧ ∀ (p : Addr) (L : List Str) (H' : Hp), L.length = m → (∀ x ∈ L, Small x) → (m ≤ 26 → L.Nodup) → Bag l b H' → Grow b H H' → H p = none → H' p = some (.lst (L.map V.str)) → Q (.ref p) H'
theorem ok_abc {f : Addr} {fd : FuncData} (F : Fun K "_law_abc" "_law_abc" sAbc f fd) (len : mg "len" = none) (rng : mg "range" = none) (GP : C8.Cal P w K mg base 1 "_law_pull" spPull []) (GO : C8.Cal P w K mg base 2 "_law_of" spOf []) : FnOk P w K mg base CX0 3 f fd ["_law_bag_here", "_law_many"] spAbc := by
  refine F.ok scAbc (fun vs H Q E h => ?_) (fun cdv A outer s H vs Q E hr h => ?_)
  · obtain ⟨l, b, m, rfl, _⟩ := h
    rfl
  · obtain ⟨l, b, m, rfl, hm, B, q⟩ := h
    refine ⟨_, pss_cons (ps_par (i := 2) (j := 3) (by rfl) scAbc.nd rfl rfl (by decide) rfl rfl (pa_cons (C8.pe_c GP hr (by decide) (by rfl) (pa_cons (pv 0) (pa_cons pe_int pa_nil))) (pa_cons (pe_lst pa_nil) pa_nil)) (by rfl))
      (pss_cons (ps_set (i := 4) scAbc.nd rfl (.inl rfl) (C8.pe_c GO hr (by decide) (by rfl) (pa_cons (pv 0) (pa_cons (pe_lst (pa_cons pe_str (pa_cons pe_str (pa_cons pe_str (pa_cons pe_str (pa_cons pe_str pa_nil)))))) pa_nil))))
      (pss_cons (ps_set (i := 5) scAbc.nd rfl (.inl rfl) (C8.pe_c GP hr (by decide) (by rfl) (pa_cons (pv 0) (pa_cons (pe_op op_add (pe_callB call_len_str (by rfl) len PySem.boot_len (pa_cons (pv 4) pa_nil)) pe_int) pa_nil))))
      (pss_cons (ps_for PassesOwn.never rfl (pi_range1 (by rfl) rng (pa_cons (pv 1) pa_nil)) (pg_name (i := 6) scAbc.nd rfl (.inl rfl))
        (pss_cons (ps_set (i := 7) scAbc.nd rfl (.inl rfl) (pe_ix ix_str pe_str (pe_op op_mod (pe_op op_add (pv 2) (pe_op op_mul pe_int (pv 6))) pe_int) (fun _ _ => rfl)))
        (pss_one (ps_expr (pe_bm PySem.F.plainAttrs_list PySem.F.slot_list_append PySem.F.type_list_append mt_append (pv 3)
          (pa_cons (pe_op op_add_str (pe_op op_add_str (pe_slice sl_str (pv 4) po_none (po_some (pv 5))) (pv 7)) (pe_slice sl_str (pv 4) (po_some (pv 5)) po_none)) pa_nil))))))
      (pss_one (ps_ret (pv 3)))))), ?_⟩
    refine ⟨_, rfl, l, b, 26, rfl, by decide, fit8 (n := 5) (by decide) (by decide), B, fun r H1 r0 r1 B1 t1 => ?_⟩
    refine ⟨Nat.zero_le _, fun D nD => ?_⟩
    have s2 := same_new (o := .lst []) nD
    have B2 := B1.same s2
    have nDb := B1.ne nD
    have nDl := B1.neL nD
    have eD : (upd H1 D (.lst [])) D = some (.lst []) := upd_same
    refine ⟨_, _, rfl, ?_⟩
    refine ⟨_, rfl, (by show 5 ≤ sizeLine; decide), fun o no => ?_⟩
    have s3 := same_new (o := .lst [.str "", .str "", .str "q", .str "zzzzz", .str "ab"]) no
    have B3 := B2.same s3
    refine ⟨l, b, o, _, rfl, B2.ne no, upd_same, (by show 0 < 5; decide), (by show 5 ≤ 1000; decide), B3, fun v H4 hv B4 t4 => ?_⟩
    have eD4 : H4 D = some (.lst []) := t4.grow _ _ nDb (s3 _ _ eD)
    obtain ⟨pad, hpad, rfl⟩ : ∃ x ∈ pads, v = .str x := by
      have : v ∈ pads.map V.str := hv
      obtain ⟨x, hx, e⟩ := List.mem_map.mp this
      exact ⟨x, hx, e.symm⟩
    have lp : pad.length ≤ 5 := of_decide_eq_true (List.all_eq_true.mp pads_len pad hpad)
    have lps : pad.length ≤ sizeLine := by rw [sizeLine_eq]; omega
    refine ⟨_, rfl, _, rfl, pad, rfl, lps, _, 1, rfl, rfl, l, b, (pad.length : Int) + 1, rfl, by omega, fit8 (n := 5) (Nat.lt_of_le_of_lt (show ((pad.length : Int) + 1).natAbs ≤ 6 by omega) (by decide)) (by decide), B4, fun z H5 z0 z1 B5 t5 => ?_⟩
    have eD5 : H5 D = some (.lst []) := t5.grow _ _ nDb eD4
    have gH5 : Grow b H H5 := t1.grow.trans ((Same.grow s2).trans ((Same.grow s3).trans (t4.grow.trans t5.grow)))
    obtain ⟨k, rfl⟩ := Int.eq_ofNat_of_zero_le z0
    have pk := List.all_eq_true.mp (List.all_eq_true.mp pads_ok pad hpad) k (List.mem_range.mpr (by omega))
    unfold padOk at pk
    rw [Bool.and_eq_true, Bool.and_eq_true] at pk
    obtain ⟨⟨p1, p2⟩, p3⟩ := pk
    have p3 := of_decide_eq_true p3
    refine ⟨_, rfl, (m : Int), rfl, by omega, by omega, for_range (lo := 0) (n := ((m : Int)).toNat) (fun i σ' H' => ∃ (y6 y7 : Option V) (L : List Str), σ' = [some (.ref b), some (.int (m : Int)), some (.int r), some (.ref D), some (.str pad), some (.int (k : Int)), y6, y7] ∧ Bag l b H' ∧ Grow b H H' ∧ H' D = some (.lst (L.map V.str)) ∧ L.length = i ∧ (∀ x ∈ L, Small x) ∧ NodI m r (cutS pad none (some (k : Int))) (cutS pad (some (k : Int)) none) L i) ?_ ?_ ?_⟩
    · exact ⟨none, none, [], rfl, B5, gH5, eD5, rfl, (fun x hx => nomatch hx), fun _ => ⟨List.nodup_nil, fun x hx => nomatch hx⟩⟩
    · rintro i σ' H' hi ⟨y6, y7, L, rfl, B6, g6, eD6, lL, sL, ndL⟩
      have hi' : i < m := by omega
      have m0 := Int.emod_nonneg (r + 5 * (0 + (i : Int))) (show (26 : Int) ≠ 0 by decide)
      have m1 := Int.emod_lt_of_pos (r + 5 * (0 + (i : Int))) (show (0 : Int) < 26 by decide)
      refine ⟨_, rfl, _, rfl, 5, _, rfl, rfl, .inl ⟨by decide, by decide⟩, _, _, rfl, rfl, _, 26, rfl, rfl, (by show (0 : Int) < 26; decide), ?_⟩
      obtain ⟨j, ej⟩ := Int.eq_ofNat_of_zero_le m0
      have hj : j < (Str.ofString "abcdefghijklmnopqrstuvwxyz").cps.toList.length := by
        have e : (Str.ofString "abcdefghijklmnopqrstuvwxyz").cps.toList.length = (Str.ofString "abcdefghijklmnopqrstuvwxyz").length := Array.length_toList
        rw [e, abc_len]
        omega
      have hc : atI (Str.ofString "abcdefghijklmnopqrstuvwxyz").cps.toList (j : Int) = some ((Str.ofString "abcdefghijklmnopqrstuvwxyz").cps.toList[j]) := atI_nat (List.getElem?_eq_getElem hj)
      have hcm : (Str.ofString "abcdefghijklmnopqrstuvwxyz").cps.toList[j] ∈ (Str.ofString "abcdefghijklmnopqrstuvwxyz").cps.toList := List.getElem_mem hj
      have nd2 := ndL.step (i := i) hi' r0 (by rw [Int.zero_add] at ej; exact ej) hj
      generalize (Str.ofString "abcdefghijklmnopqrstuvwxyz").cps.toList[j] = c at hc hcm nd2
      rw [← ej] at hc
      refine ⟨_, _, _, rfl, rfl, (by decide +kernel), hc, ?_⟩
      have l1 : (cutS pad none (some (k : Int))).length + (⟨#[c]⟩ : Str).length ≤ sizeLine := by
        rw [sizeLine_eq, show (⟨#[c]⟩ : Str).length = 1 from rfl]
        omega
      have sm := small_of (s := pad) p1 p2 p3 hcm
      have l2 : (cutS pad none (some (k : Int)) ++ (⟨#[c]⟩ : Str)).length + (cutS pad (some (k : Int)) none).length ≤ sizeLine := by
        rw [Str.length_append, sizeLine_eq, show (⟨#[c]⟩ : Str).length = 1 from rfl]
        omega
      refine ⟨_, rfl, .inl ⟨rfl, _, SqL.of eD6⟩, _, rfl, _, rfl, (k : Int), rfl, pad, rfl, lps, _, rfl, _, _, rfl, rfl, l1, _, rfl, _, rfl, (k : Int), rfl, pad, rfl, lps, _, _, rfl, rfl, l2, ?_⟩
      refine ⟨D, _, _, rfl, rfl, eD6, ?_, ?_⟩
      · rw [List.length_map]
        exact small1000 (by omega)
      · refine ⟨_, _, L ++ [cutS pad none (some (k : Int)) ++ (⟨#[c]⟩ : Str) ++ cutS pad (some (k : Int)) none], rfl, B6.beside nDb nDl, grow_upd g6 (t1.grow.free nDb nD), ?_, by rw [List.length_append, lL]; rfl, ?_⟩
        · rw [upd_same, List.map_append]
          rfl
        · refine ⟨fun x hx => ?_, nd2⟩
          rcases List.mem_append.mp hx with e | e
          · exact sL x e
          · rw [List.mem_singleton.mp e]
            exact sm
    · rintro σ' H' ⟨y6, y7, L, rfl, B6, g6, eD6, lL, sL, ndL⟩
      exact ⟨_, rfl, q D L H' (by omega) sL (fun h => (ndL h).1) B6 g6 (t1.grow.free nDb nD) eD6⟩
end
end Nv

set_option maxRecDepth 100000
set_option maxHeartbeats 4000000
namespace Nv
open PySem PySem.Spec PyProof.Rows L2 L2H LamX
section
variable {P : Program} {w : World} {K : PySem.W.Frag} {mg : Str → Option Value} {base : Heap}
/-- as Fun.okX, where the context of what is let out is known -/
theorem Fun.okN {x qual : Str} {st : Stmt} {f : Addr} {fd : FuncData} {N ps : List Str} {k : Nat} {sp : Sp} (F : Fun K x qual st f fd) (S : FnScope N ps (defScope st)) (len : ∀ vs H Q E, sp vs H Q E → vs.length = ps.length)
    (hbody : ∀ (cdv : Value) (A : Around) (outer : List Env) (s : Shared) (H : Hp) (vs : List V) (Q : VK) (E : XK), Room k (A.deeper (envOfC qual (defScope st) s.heap.objs.size f cdv)) → sp vs H Q E →
      ∃ t, PSs (cxOf (L2N.CX P w) P w K mg base N qual (defScope st) f cdv A outer s H E) (defBody st) t ∧ t { nx := fun _ H' => Q .non H', rt := Q } (start N vs) H) : FnOk P w K mg base (L2N.CX P w) (k + 1) f fd ps sp := by
  obtain ⟨oc, od, kV, doc, pm, an, cdv, ct, osl, rfl, lk, hcd⟩ := F.ex
  exact fn_of lk hcd S len fun A outer s H vs Q E hr hsp => hbody cdv A outer s H vs Q E hr hsp
/-- a def called while an exception is handled -/
theorem Fun.okH {CX : CXT} {x qual : Str} {st : Stmt} {f : Addr} {fd : FuncData} {N ps : List Str} {k : Nat} {sp : Sp} (F : Fun K x qual st f fd) (S : FnScope N ps (defScope st)) (len : ∀ vs H Q E, sp vs H Q E → vs.length = ps.length)
    (hbody : ∀ (cdv : Value) (A : Around) (outer : List Env) (s : Shared) (H : Hp) (vs : List V) (Q : VK) (E : XK) (p : Addr × Obj), Hot1 A p → RoomH k (A.deeper (envOfC qual (defScope st) s.heap.objs.size f cdv)) → sp vs H Q E →
      ∃ t, PSs (cxH CX P w K mg base N qual (defScope st) f cdv A outer s H E p) (defBody st) t ∧ t { nx := fun _ H' => Q .non H', rt := Q } (start N vs) H) : FnH P w K mg base CX (k + 1) f fd ps sp := by
  obtain ⟨oc, od, kV, doc, pm, an, cdv, ct, osl, rfl, lk, hcd⟩ := F.ex
  exact fn_ofH lk hcd S len fun A outer s H vs Q E p hot hr hsp => hbody cdv A outer s H vs Q E p hot hr hsp
theorem FunD.okH {CX : CXT} {x qual : Str} {params : Arguments} {body : List Stmt} {scope : Scope} {dvs : List V} {kws : List (Str × V)} {f : Addr} {fd : FuncData} {N ps : List Str} {k : Nat} {sp : Sp} (F : FunD K x qual params body scope dvs kws f fd) (S : FnScope N ps scope) (len : ∀ vs H Q E, sp vs H Q E → vs.length = ps.length)
    (hbody : ∀ (cdv : Value) (A : Around) (outer : List Env) (s : Shared) (H : Hp) (vs : List V) (Q : VK) (E : XK) (p : Addr × Obj), Hot1 A p → RoomH k (A.deeper (envOfC qual scope s.heap.objs.size f cdv)) → sp vs H Q E →
      ∃ t, PSs (cxH CX P w K mg base N qual scope f cdv A outer s H E p) body t ∧ t { nx := fun _ H' => Q .non H', rt := Q } (start N vs) H) : FnH P w K mg base CX (k + 1) f fd ps sp := by
  obtain ⟨oc, od, dV, kV, doc, pm, an, cdv, ct, osl, rfl, lk, hcd, _, _⟩ := F.ex
  exact fn_ofH lk hcd S len fun A outer s H vs Q E p hot hr hsp => hbody cdv A outer s H vs Q E p hot hr hsp
theorem hotC_H {CX : CXT} {N : List Str} {qual : Str} {scope : Scope} {f : Addr} {cd : Value} {A : Around} {outer : List Env} {s : Shared} {H : Hp} {E : XK} {p : Addr × Obj} (h : Hot1 A p) : HotC (cxH CX P w K mg base N qual scope f cd A outer s H E p) := ⟨p, h, List.mem_singleton.mpr rfl⟩
end
section
variable {X : Cx}
theorem passLN : Passes (L2N.CX X.prog X.w) X E0 := fun _ _ _ _ _ _ _ h => by
  obtain ⟨_, _, _, _, _, _, _, _, _, _, _, _, z⟩ := h
  exact z.elim
/-- C.m(e, …) of an own class, while an exception is handled -/
theorem pe_clsdefH {CX : CXT} {k : Nat} {C g : Addr} {mc : Value} {fd : FuncData} {ps : List Str} {sp : Sp} {o e : Expr} {es : List Expr} {m : Str} {pos apos : Pos} {ta : TE} {t : TA} {pl : Sem Bool}
    (ho : PE X o ta) (rd : ClX.CRead X.K C mc) (cv : ClX.CVal X.K C mc m (.ref g) (.ref g)) (kp : PySem.W.keepIn X.K (.ref g) = true)
    (G : FnH X.prog X.w X.K X.mg X.base CX k g fd ps sp) (hr : RoomH k X.A) (hc : HotC X) (hb : Binds X.K fd ps []) (hx : Passes CX X E0) (ha : PA X (e :: es) t)
    (hst : starEach (e :: es) X.env = (false, eval e X.env) :: starEach es X.env := by rfl) (hpl : (backTo pos (starEach es X.env)).any (·.1) = false := by rfl)
    (ht : eval (.Call (.Attribute o m apos) (e :: es) [] pos) X.env = (do
      let cv ← eval o X.env
      standAt apos.atName
      let (fn, before) ← holding [cv] (getMethod cv m pl)
      callWith pos fn before (backTo pos (starEach (e :: es) X.env)) (backToKw pos (keywordEach [] X.env))) := by rfl) :
    PE X (.Call (.Attribute o m apos) (e :: es) [] pos) (fun σ H Q => ta σ H fun x H1 => x = .ref C ∧ t σ H1 fun vs H2 => sp vs H2 Q E0) := by
  refine ⟨fun pins s σ H Q I h => ?_⟩
  refine PySem.W.methodCall_KW (pl := pl) (thn (ho.run pins s σ H _ I h) fun u s1 hh => ?_) ht
  obtain ⟨x, H1, I1, rx, ex, q⟩ := hh
  subst ex
  obtain rfl : u = Value.ref C := rx
  refine PySem.W.method_cls I1.kIn rd.ga (ClX.getcval_ok I1 rd cv fun s2 I2 => ?_)
  refine PySem.W.callWith_K (first := []) (h₀ := X.base) I.ok.mod.kin kp (thn (ha.run pos pins s2 σ H1 _ I2 q) fun us s3 hh => ?_) hst hpl
  obtain ⟨vs, H2, I3, rv, q2⟩ := hh
  exact ⟨I3.kIn, run_fnH (E := fun _ => E0) G hr hc hb (fun pins H s e s' I h => hx pins _ H s e s' I h) I3 rv q2⟩
/-- C(), an own exception whose __init__ is a def; its context is known -/
theorem pmk_bareN {CX : CXT} {x : Str} {C g : Addr} {k : Nat} {fd : FuncData} {ps : List Str} {sp : Sp} {p pos : Pos} (T : OexC X.K C) (hi : PySem.W.findIn X.K (.ref C) "__init__" = some (some (.ref g)))
    (hti : PySem.W.typeIn X.K (.ref g) = some (.type "function")) (G : FnOk X.prog X.w X.K X.mg X.base CX k g fd ps sp) (hr : Room (k + 1) X.A) (hb : Binds X.K fd ps []) (hx : Passes CX X (fun _ _ _ => False))
    (hg : Gl X x) (hm : X.mg x = some (.ref C)) (hdb : (x == ("__debug__" : Str)) = false := by decide) : L2N.PMk X (.Call (.Name x p) [] [] pos) (tMkO C sp [] tNil) := by
  intro pins s σ H Q I h
  obtain ⟨nm, qn, N, bs, bm, sn, sub, ab, col, dd, a0, a1, a2, a3, a5, hC, hbm⟩ := T.cls
  refine wpAny_Call_Name_kw (ld_glob I hg hm ?_ hdb)
  refine PySem.W.callWith_K0 I.kIn T.kC ?_
  obtain ⟨hp, gs, dr, tk, os⟩ := s
  have up : hp.objs.size ≤ hp.objs.size + 1 := Nat.le_succ _
  have fresh : H (hp.objs.size + 1) = none := I.hok.fresh up
  have said := h.2 (hp.objs.size + 1) fresh
  have keep : ∀ b o, hp.get? b = some o → ((hp.push (PySem.W.kdv_tup [])).push (PySem.HandSPX.excO C hp.objs.size)).get? b = some o :=
    fun b o z => Heap.get?_push_of_some _ (Heap.get?_push_of_some _ z)
  have here : ((hp.push (PySem.W.kdv_tup [])).push (PySem.HandSPX.excO C hp.objs.size)).get? (hp.objs.size + 1) = some (PySem.HandSPX.excO C hp.objs.size) := by heap_get
  have I2 := I.laid (t' := tk) (a := hp.objs.size + 1) (o := exo (hp.objs.size + 1) C none) (h' := (hp.push (PySem.W.kdv_tup [])).push (PySem.HandSPX.excO C hp.objs.size)) keep up (exo_ok here)
  have one : Vals [V.ref (hp.objs.size + 1)] [Value.ref (hp.objs.size + 1)] := .cons rfl .nil
  have many : [Value.ref (hp.objs.size + 1)].length = ps.length := by
    have z := G.len _ _ _ _ said
    exact z
  have run := G.run (X.A.under (.builtin "type.__call__" ⟨[.ref C], []⟩)) X.stack _ _ ⟨[Value.ref (hp.objs.size + 1)], []⟩ [Value.ref (hp.objs.size + 1)] _ _ (fun _ _ _ => False) (hr.make C [] []) (I2.env0.make C [] [])
    (by have z := hb _ [Value.ref (hp.objs.size + 1)] I2.kIn many; exact z) one said
  refine wpAny_call (PySem.HandSPX.call_own F.excBase_ValueError (fun Y => PySem.HandSPX.refsVE_contains Y bm hbm) (I.kIn _ _ hC) (PySem.W.looks_findIn I.kIn hi) (fun self => PySem.W.bind_fn I.kIn self hti) (Nat.zero_le _)
    (codeAny_mono run fun r s' hq => ?_))
  cases r with
  | error er => exact hx pins σ _ _ er s' I2 hq
  | ok fl =>
    cases fl with
    | ret u =>
      obtain ⟨v, H2, os2, bare2, un2, hok2, rv, ev, d, fs, ea, ed, hd1, q2⟩ := hq
      subst ev
      obtain ⟨h2, g2, d2, t2, os'⟩ := s'
      obtain ⟨t0, G0, J, kG, ge, hoe, na⟩ := mk_end0 (d2 := d2) (t2 := t2) I up keep un2 hok2 os2 bare2 ea ed hd1
      refine ⟨rv, ⟨hp.objs.size + 1, _, _, ⟨G0, g2, d2, t2, os'⟩, _, .ref C, some d, rfl, J, kG, ge, hoe, ⟨rfl, rfl, fun vs hv => ?_⟩, rfl, rfl, na, rfl, bare2, raises_own T.exC T.tyC, q2⟩⟩
      cases hv
      rfl
    | next => exact False.elim hq
    | brk => exact False.elim hq
    | cont => exact False.elim hq
end
end Nv

set_option maxRecDepth 100000
/-! How shares are written: signs by their numbers. -/
namespace Nv
open PySem PySem.NumText TL
def isDig (c : Nat) : Bool := decide (48 ≤ c) && decide (c ≤ 57)
theorem allDig {A : List Nat} (h : A.all isDig = true) : AllDigits A := fun c hc => by
  have z := List.all_eq_true.mp h c hc
  unfold isDig at z
  rw [Bool.and_eq_true, decide_eq_true_eq, decide_eq_true_eq] at z
  exact z
theorem digAll {A : List Nat} (h : AllDigits A) : A.all isDig = true := List.all_eq_true.mpr fun c hc => by
  unfold isDig
  rw [decide_eq_true (h c hc).1, decide_eq_true (h c hc).2]
  rfl
/-- written without a needless nought ahead -/
def Canon (A : List Nat) : Bool := decide (A = [48]) || (match A with | [] => false | c :: _ => decide (c ≠ 48))
theorem val_snoc (A : List Nat) (c : Nat) : digitsVal (A ++ [c]) = digitsVal A * 10 + (c - 48) := by
  unfold digitsVal
  rw [List.foldl_append]
  rfl
theorem val_head_pos : ∀ (n : Nat) (A : List Nat), A.length = n → AllDigits A → (∀ c r, A = c :: r → c ≠ 48) → A ≠ [] → 1 ≤ digitsVal A := by
  intro n
  induction n with
  | zero =>
    intro A h _ _ hne
    exact absurd (List.length_eq_zero_iff.mp h) hne
  | succ n ih =>
    intro A h hd hh hne
    obtain ⟨B, c, rfl⟩ : ∃ B c, A = B ++ [c] := ⟨A.dropLast, A.getLast hne, (List.dropLast_concat_getLast hne).symm⟩
    rw [val_snoc]
    have hc := hd c (List.mem_append_right _ (List.mem_singleton.mpr rfl))
    cases B with
    | nil =>
      have := hh c [] rfl
      omega
    | cons b r =>
      have := ih (b :: r) (by rw [List.length_append] at h; simpa using h) (fun x hx => hd x (List.mem_append_left _ hx)) (fun c' r' e => hh c' (r' ++ [c]) (by rw [e]; rfl)) (List.cons_ne_nil _ _)
      omega
theorem canon_num : ∀ (n : Nat) (A : List Nat), A.length = n → AllDigits A → Canon A = true → numL (digitsVal A) = A := by
  intro n
  induction n with
  | zero =>
    intro A h _ hc
    rw [List.length_eq_zero_iff.mp h] at hc
    cases hc
  | succ n ih =>
    intro A h hd hc
    have hne : A ≠ [] := fun z => by rw [z] at h; cases h
    obtain ⟨B, c, rfl⟩ : ∃ B c, A = B ++ [c] := ⟨A.dropLast, A.getLast hne, (List.dropLast_concat_getLast hne).symm⟩
    have hc' := hd c (List.mem_append_right _ (List.mem_singleton.mpr rfl))
    rw [val_snoc]
    cases B with
    | nil =>
      show numL (0 * 10 + (c - 48)) = [c]
      rw [numL_lt (by omega)]
      exact congrArg (fun z => [z]) (by omega)
    | cons b r =>
      have hb : b ≠ 48 := by
        unfold Canon at hc
        rw [Bool.or_eq_true] at hc
        rcases hc with z | z
        · have z := of_decide_eq_true z
          simp at z
        · exact of_decide_eq_true z
      have hdB : AllDigits (b :: r) := fun x hx => hd x (List.mem_append_left _ hx)
      have e := ih (b :: r) (by rw [List.length_append] at h; simpa using h) hdB (by
        unfold Canon
        rw [Bool.or_eq_true]
        exact .inr (decide_eq_true hb))
      have hp := val_head_pos _ (b :: r) rfl hdB (fun c' r' e => by cases e; exact hb) (List.cons_ne_nil _ _)
      rw [numL_step (by omega), show (digitsVal (b :: r) * 10 + (c - 48)) / 10 = digitsVal (b :: r) by omega, show (digitsVal (b :: r) * 10 + (c - 48)) % 10 = c - 48 by omega, e, show 48 + (c - 48) = c by omega]
theorem num_canon : ∀ (k n : Nat), n ≤ k → Canon (numL n) = true := by
  intro k
  induction k with
  | zero =>
    intro n h
    rw [show n = 0 by omega, numL_lt (by decide)]
    rfl
  | succ k ih =>
    intro n h
    by_cases hn : n < 10
    · rw [numL_lt hn]
      unfold Canon
      by_cases h0 : n = 0
      · subst h0
        rfl
      · rw [Bool.or_eq_true]
        exact .inr (decide_eq_true (by omega))
    · rw [numL_step (by omega)]
      have e := ih (n / 10) (by omega)
      have hv : numL (n / 10) ≠ [48] := fun z => by
        have := numL_val (n / 10)
        rw [z] at this
        have z0 : digitsVal [48] = 0 := rfl
        omega
      unfold Canon at e ⊢
      rw [Bool.or_eq_true] at e ⊢
      rcases e with z | z
      · exact absurd (of_decide_eq_true z) hv
      · cases hA : numL (n / 10) with
        | nil => exact absurd hA (numL_ne _)
        | cons c r =>
          rw [hA] at z
          exact .inr z
/-- how a share is written -/
def textL (t d : Int) : List Nat := (if t < 0 then [45] else []) ++ numL t.natAbs ++ (if d ≠ 1 then 47 :: numL d.natAbs else [])
/-- so many figures -/
def fig (A : List Nat) : Option Nat := if A ≠ [] ∧ A.length ≤ 12 ∧ A.all isDig = true then some (digitsVal A) else none
def numIn (A : List Nat) : Option Nat := if A ≠ [] ∧ A.length ≤ 12 ∧ A.all isDig = true ∧ Canon A = true then some (digitsVal A) else none
/-- what stands ahead of the first stroke, and what behind it -/
def cutAt : List Nat → List Nat × Option (List Nat)
  | [] => ([], none)
  | c :: r => if c = 47 then ([], some r) else (c :: (cutAt r).1, (cutAt r).2)
theorem cutAt_none : ∀ {L : List Nat}, (cutAt L).2 = none → (cutAt L).1 = L ∧ 47 ∉ L
  | [], _ => ⟨rfl, fun z => nomatch z⟩
  | c :: r, h => by
    unfold cutAt at h ⊢
    by_cases hc : c = 47
    · rw [if_pos hc] at h
      cases h
    · rw [if_neg hc] at h ⊢
      obtain ⟨h1, h2⟩ := cutAt_none (L := r) h
      refine ⟨congrArg (c :: ·) h1, fun z => ?_⟩
      rcases List.mem_cons.mp z with e | e
      · exact hc e.symm
      · exact h2 e
theorem cutAt_some : ∀ {L q : List Nat}, (cutAt L).2 = some q → L = (cutAt L).1 ++ (47 :: q) ∧ 47 ∉ (cutAt L).1
  | [], _, h => by cases h
  | c :: r, q, h => by
    unfold cutAt at h ⊢
    by_cases hc : c = 47
    · rw [if_pos hc] at h ⊢
      cases h
      rw [hc]
      exact ⟨rfl, fun z => nomatch z⟩
    · rw [if_neg hc] at h ⊢
      obtain ⟨h1, h2⟩ := cutAt_some (L := r) h
      refine ⟨congrArg (c :: ·) h1, fun z => ?_⟩
      rcases List.mem_cons.mp z with e | e
      · exact hc e.symm
      · exact h2 e
def neg (L : List Nat) : Bool := match L with | 45 :: _ => true | _ => false
def bare (L : List Nat) : List Nat := if neg L = true then L.drop 1 else L
def sg (s : Bool) (a : Nat) : Int := if s = true then -(a : Int) else (a : Int)
def pairP (s : Bool) (L : List Nat) : Option Nat → Option Nat → Option (Int × Int)
  | some a, some b => if b = 0 then none else if textL (frT (sg s a) b) (frB (sg s a) b) = L then some (frT (sg s a) b, frB (sg s a) b) else none
  | _, _ => none
def pairL (s two : Bool) : Option Nat → Option Nat → Option (Int × Int)
  | some a, some b => if (two = true ∧ b < 2) ∨ (s = true ∧ a = 0) ∨ Int.gcd a b ≠ 1 then none else some (sg s a, (b : Int))
  | _, _ => none
def botP : Option (List Nat) → Option Nat
  | none => some 1
  | some B => fig B
def botL : Option (List Nat) → Option Nat
  | none => some 1
  | some B => if 47 ∈ B then none else numIn B
/-- what the program reads -/
def readP (L : List Nat) : Option (Int × Int) := pairP (neg L) L (fig (bare (cutAt L).1)) (botP (cutAt L).2)
/-- what the law reads -/
def readL (L : List Nat) : Option (Int × Int) := pairL (neg L) (cutAt (bare L)).2.isSome (numIn (cutAt (bare L)).1) (botL (cutAt (bare L)).2)
end Nv

set_option maxRecDepth 100000
namespace Nv
open PySem PySem.NumText TL
theorem neg_cons {L : List Nat} (h : neg L = true) : ∃ r, L = 45 :: r := by
  unfold neg at h
  split at h
  · exact ⟨_, rfl⟩
  · cases h
theorem neg_cut (L : List Nat) : neg (cutAt L).1 = neg L := by
  cases L with
  | nil => rfl
  | cons c r =>
    unfold cutAt
    by_cases hc : c = 47
    · rw [if_pos hc, hc]
      rfl
    · rw [if_neg hc]
      by_cases h5 : c = 45
      · rw [h5]
        rfl
      · have e : ∀ z : List Nat, neg (c :: z) = false := fun z => by
          unfold neg
          split
          · rename_i e
            cases e
            exact absurd rfl h5
          · rfl
        rw [e, e]
theorem cut_bare (L : List Nat) : (cutAt (bare L)).1 = bare (cutAt L).1 ∧ (cutAt (bare L)).2 = (cutAt L).2 := by
  unfold bare
  rw [neg_cut]
  by_cases h : neg L = true
  · obtain ⟨r, rfl⟩ := neg_cons h
    rw [if_pos h]
    have e : cutAt (45 :: r) = (45 :: (cutAt r).1, (cutAt r).2) := by
      show (if (45 : Nat) = 47 then _ else _) = _
      rw [if_neg (by decide)]
    rw [e, if_pos h]
    exact ⟨rfl, rfl⟩
  · rw [if_neg h, if_neg h]
    exact ⟨rfl, rfl⟩
theorem fig_of_numIn {A : List Nat} {a : Nat} (h : numIn A = some a) : fig A = some a ∧ Canon A = true := by
  unfold numIn at h
  split at h
  · rename_i q
    unfold fig
    rw [if_pos ⟨q.1, q.2.1, q.2.2.1⟩]
    exact ⟨h, q.2.2.2⟩
  · cases h
theorem fig_some {A : List Nat} {a : Nat} (h : fig A = some a) : A ≠ [] ∧ A.length ≤ 12 ∧ A.all isDig = true ∧ a = digitsVal A := by
  unfold fig at h
  split at h
  · rename_i q
    exact ⟨q.1, q.2.1, q.2.2, (Option.some.inj h).symm⟩
  · cases h
theorem numIn_of {A : List Nat} {a : Nat} (h : fig A = some a) : numIn A = if Canon A = true then some a else none := by
  obtain ⟨h1, h2, h3, h4⟩ := fig_some h
  unfold numIn
  by_cases c : Canon A = true
  · rw [if_pos ⟨h1, h2, h3, c⟩, if_pos c, h4]
  · rw [if_neg (fun q => c q.2.2.2), if_neg c]
theorem numIn_none {A : List Nat} (h : fig A = none) : numIn A = none := by
  cases e : numIn A with
  | none => rfl
  | some a =>
    rw [(fig_of_numIn e).1] at h
    cases h
theorem canon_iff {A : List Nat} (hd : AllDigits A) : numL (digitsVal A) = A ↔ Canon A = true := by
  constructor
  · intro h
    rw [← h]
    exact num_canon _ _ (Nat.le_refl _)
  · exact canon_num _ A rfl hd
theorem no45 {A : List Nat} (hd : AllDigits A) {r : List Nat} (h : A = 45 :: r) : False := by
  have := hd 45 (by rw [h]; exact List.mem_cons_self)
  omega
theorem no47 {A : List Nat} (hd : AllDigits A) : 47 ∉ A := fun h => by
  have := hd 47 h
  omega
theorem split_eq : ∀ {x y p q : List Nat}, 47 ∉ x → 47 ∉ y → x ++ 47 :: p = y ++ 47 :: q → x = y ∧ p = q
  | [], [], p, q, _, _, h => by
    cases h
    exact ⟨rfl, rfl⟩
  | [], b :: y, p, q, _, h2, h => by
    have := (List.cons.inj h).1
    exact absurd (this ▸ List.mem_cons_self) h2
  | a :: x, [], p, q, h1, _, h => by
    have := (List.cons.inj h).1
    exact absurd (this ▸ List.mem_cons_self) h1
  | a :: x, b :: y, p, q, h1, h2, h => by
    obtain ⟨e, h⟩ := List.cons.inj h
    obtain ⟨h3, h4⟩ := split_eq (fun z => h1 (List.mem_cons_of_mem _ z)) (fun z => h2 (List.mem_cons_of_mem _ z)) h
    exact ⟨by rw [e, h3], h4⟩
/-- signs ahead of figures -/
theorem sign_eq {s : Bool} {T : Int} {A : List Nat} (hd : AllDigits A) (h : (if T < 0 then [45] else []) ++ numL T.natAbs = (if s = true then [45] else []) ++ A) : (T < 0 ↔ s = true) ∧ A = numL T.natAbs := by
  cases s with
  | true =>
    rw [if_pos rfl] at h
    by_cases ht : T < 0
    · rw [if_pos ht] at h
      exact ⟨⟨fun _ => rfl, fun _ => ht⟩, (List.cons.inj h).2.symm⟩
    · rw [if_neg ht] at h
      exact (no45 (numL_digits T.natAbs) h).elim
  | false =>
    rw [if_neg (show ¬ (false = true) by decide)] at h
    by_cases ht : T < 0
    · rw [if_pos ht] at h
      exact (no45 hd h.symm).elim
    · rw [if_neg ht] at h
      exact ⟨⟨fun z => absurd z ht, fun z => nomatch z⟩, h.symm⟩
theorem frs (t : Int) {b : Int} (hb : 0 < b) : frT t b * ((Int.gcd t b : Nat) : Int) = t ∧ frB t b * ((Int.gcd t b : Nat) : Int) = b := by
  have e : per t b = ((Int.gcd t b : Nat) : Int) := by
    unfold per
    rw [if_neg (by omega)]
  have h1 : frT t b * per t b = t := fdiv_mul (per_dvd_l t b)
  have h2 : frB t b * per t b = b := fdiv_mul (per_dvd_r t b)
  rw [e] at h1 h2
  exact ⟨h1, h2⟩
theorem low {t b : Int} (hb : 0 < b) (h : Int.gcd t b = 1) : frT t b = t ∧ frB t b = b := by
  obtain ⟨h1, h2⟩ := frs t hb
  rw [h, show (((1 : Nat) : Nat) : Int) = 1 from rfl, Int.mul_one] at h1 h2
  exact ⟨h1, h2⟩
theorem gcd_sgn (s : Bool) (a b : Nat) : Int.gcd (sg s a) b = Int.gcd a b := by
  unfold sg
  cases s
  · rfl
  · rw [if_pos rfl, Int.neg_gcd]
theorem abs_sgn (s : Bool) (a : Nat) : (sg s a).natAbs = a := by
  unfold sg
  cases s
  · rw [if_neg (by decide)]; omega
  · rw [if_pos rfl]; omega
/-- with a stroke: the text is a share's just where -/
theorem stroke {s : Bool} {A B : List Nat} (hA : AllDigits A) (hB : AllDigits B) (hb : digitsVal B ≠ 0) :
    textL (frT (sg s (digitsVal A)) (digitsVal B)) (frB (sg s (digitsVal A)) (digitsVal B)) = (if s = true then [45] else []) ++ A ++ 47 :: B ↔
      Canon A = true ∧ Canon B = true ∧ 2 ≤ digitsVal B ∧ ¬ (s = true ∧ digitsVal A = 0) ∧ Int.gcd (digitsVal A : Int) (digitsVal B : Int) = 1 := by
  generalize ht : (sg s (digitsVal A)) = t
  have ha : t.natAbs = digitsVal A := by rw [← ht]; exact abs_sgn s _
  have hg : Int.gcd t (digitsVal B : Int) = Int.gcd (digitsVal A : Int) (digitsVal B : Int) := by rw [← ht]; exact gcd_sgn s _ _
  have hbp : (0 : Int) < (digitsVal B : Int) := by omega
  obtain ⟨f1, f2⟩ := frs t hbp
  have dp := frB_pos t (b := (digitsVal B : Int)) (by omega)
  have gp := gcd_pos t (b := (digitsVal B : Int)) (by omega)
  constructor
  · intro h
    have hD : frB t (digitsVal B) ≠ 1 := fun z => by
      unfold textL at h
      rw [z, if_neg (show ¬ ((1 : Int) ≠ 1) from fun y => y rfl), List.append_nil] at h
      have m : 47 ∈ (if s = true then [45] else []) ++ A ++ 47 :: B := List.mem_append_right _ List.mem_cons_self
      rw [← h] at m
      rcases List.mem_append.mp m with z | z
      · split at z
        · exact absurd (List.mem_singleton.mp z) (by decide)
        · cases z
      · exact no47 (numL_digits _) z
    unfold textL at h
    rw [if_pos hD] at h
    have n1 : 47 ∉ (if frT t (digitsVal B) < 0 then [45] else []) ++ numL (frT t (digitsVal B)).natAbs := fun m => by
      rcases List.mem_append.mp m with z | z
      · split at z
        · exact absurd (List.mem_singleton.mp z) (by decide)
        · cases z
      · exact no47 (numL_digits _) z
    have n2 : 47 ∉ (if s = true then [45] else []) ++ A := fun m => by
      rcases List.mem_append.mp m with z | z
      · split at z
        · exact absurd (List.mem_singleton.mp z) (by decide)
        · cases z
      · exact no47 hA z
    obtain ⟨h1, h2⟩ := split_eq n1 n2 h
    obtain ⟨hs, hA2⟩ := sign_eq hA h1
    have va : digitsVal A = (frT t (digitsVal B)).natAbs := by rw [hA2, numL_val]
    have vb : digitsVal B = (frB t (digitsVal B)).natAbs := by
      have := numL_val (frB t (digitsVal B)).natAbs
      rw [h2] at this
      exact this
    have g1 : Int.gcd t (digitsVal B : Int) = 1 := by
      have hk : frB t (digitsVal B) = (digitsVal B : Int) := by omega
      rw [hk] at f2
      have := Int.eq_of_mul_eq_mul_left (a := (digitsVal B : Int)) (by omega) (f2.trans (Int.mul_one _).symm)
      omega
    refine ⟨(canon_iff hA).mp (by rw [va]; exact hA2.symm), (canon_iff hB).mp (by rw [vb]; exact h2), ?_, fun z => ?_, by rw [← hg]; exact g1⟩
    · omega
    · have : frT t (digitsVal B) < 0 := hs.mpr z.1
      omega
  · rintro ⟨cA, cB, b2, hz, g1⟩
    obtain ⟨e1, e2⟩ := low hbp (hg.trans g1)
    rw [e1, e2]
    unfold textL
    rw [if_pos (show (digitsVal B : Int) ≠ 1 by omega), ha, (canon_iff hA).mpr cA, show ((digitsVal B : Int)).natAbs = digitsVal B by omega, (canon_iff hB).mpr cB]
    have hs : (if t < 0 then [45] else []) = (if s = true then [45] else ([] : List Nat)) := by
      cases s with
      | true =>
        have : digitsVal A ≠ 0 := fun z => hz ⟨rfl, z⟩
        unfold sg at ht
        rw [if_pos rfl] at ht
        rw [if_pos (show t < 0 by omega), if_pos rfl]
      | false =>
        unfold sg at ht
        rw [if_neg (show ¬ (false = true) by decide)] at ht
        rw [if_neg (show ¬ t < 0 by omega), if_neg (show ¬ (false = true) by decide)]
    rw [hs]
/-- without a stroke -/
theorem nostroke {s : Bool} {A : List Nat} (hA : AllDigits A) :
    textL (sg s (digitsVal A)) 1 = (if s = true then [45] else []) ++ A ↔ Canon A = true ∧ ¬ (s = true ∧ digitsVal A = 0) := by
  generalize ht : (sg s (digitsVal A)) = t
  have ha : t.natAbs = digitsVal A := by rw [← ht]; exact abs_sgn s _
  unfold textL
  rw [if_neg (show ¬ ((1 : Int) ≠ 1) from fun y => y rfl), List.append_nil]
  constructor
  · intro h
    obtain ⟨hs, hA2⟩ := sign_eq hA h
    refine ⟨(canon_iff hA).mp (by rw [← ha]; exact hA2.symm), fun z => ?_⟩
    have := hs.mpr z.1
    omega
  · rintro ⟨cA, hz⟩
    rw [ha, (canon_iff hA).mpr cA]
    have hs : (if t < 0 then [45] else []) = (if s = true then [45] else ([] : List Nat)) := by
      cases s with
      | true =>
        have : digitsVal A ≠ 0 := fun z => hz ⟨rfl, z⟩
        unfold sg at ht
        rw [if_pos rfl] at ht
        rw [if_pos (show t < 0 by omega), if_pos rfl]
      | false =>
        unfold sg at ht
        rw [if_neg (show ¬ (false = true) by decide)] at ht
        rw [if_neg (show ¬ t < 0 by omega), if_neg (show ¬ (false = true) by decide)]
    rw [hs]
theorem bare_back (L : List Nat) : L = (if neg L = true then [45] else []) ++ bare L := by
  unfold bare
  by_cases h : neg L = true
  · obtain ⟨r, rfl⟩ := neg_cons h
    rw [if_pos h, if_pos h]
    rfl
  · rw [if_neg h, if_neg h]
    rfl
theorem pairP_none (s : Bool) (L : List Nat) (o : Option Nat) : pairP s L none o = none := by cases o <;> rfl
theorem pairP_none2 (s : Bool) (L : List Nat) (o : Option Nat) : pairP s L o none = none := by cases o <;> rfl
theorem pairL_none (s t : Bool) (o : Option Nat) : pairL s t none o = none := by cases o <;> rfl
theorem pairL_none2 (s t : Bool) (o : Option Nat) : pairL s t o none = none := by cases o <;> rfl
theorem read_same (L : List Nat) : readP L = readL L := by
  unfold readP readL
  obtain ⟨c1, c2⟩ := cut_bare L
  rw [← c1, ← c2]
  have hL := bare_back L
  cases hB : (cutAt (bare L)).2 with
  | none =>
    obtain ⟨e1, _⟩ := cutAt_none hB
    rw [e1]
    cases hA : fig (bare L) with
    | none => rw [numIn_none hA, pairP_none, pairL_none]
    | some a =>
      obtain ⟨_, _, hd, rfl⟩ := fig_some hA
      have hd := allDig hd
      rw [numIn_of hA]
      have key := nostroke (s := neg L) hd
      rw [← hL] at key
      have eP : pairP (neg L) L (some (digitsVal (bare L))) (botP none) = if textL (sg (neg L) (digitsVal (bare L))) 1 = L then some (sg (neg L) (digitsVal (bare L)), 1) else none := by
        show (if (1 : Nat) = 0 then none else if textL (frT (sg (neg L) (digitsVal (bare L))) 1) (frB (sg (neg L) (digitsVal (bare L))) 1) = L then some (frT (sg (neg L) (digitsVal (bare L))) 1, frB (sg (neg L) (digitsVal (bare L))) 1) else none) = _
        rw [if_neg (show ¬ (1 : Nat) = 0 by decide), frT_one, frB_one]
      rw [eP]
      by_cases cA : Canon (bare L) = true
      · rw [if_pos cA]
        have eL : pairL (neg L) (none : Option (List Nat)).isSome (some (digitsVal (bare L))) (botL none) = if (false = true ∧ 1 < 2) ∨ (neg L = true ∧ digitsVal (bare L) = 0) ∨ Int.gcd (digitsVal (bare L) : Int) ((1 : Nat) : Int) ≠ 1 then none else some (sg (neg L) (digitsVal (bare L)), 1) := rfl
        rw [eL]
        by_cases hz : neg L = true ∧ digitsVal (bare L) = 0
        · rw [if_neg (fun z => (key.mp z).2 hz), if_pos (.inr (.inl hz))]
        · rw [if_pos (key.mpr ⟨cA, hz⟩), if_neg]
          rintro (z | z | z)
          · exact Bool.noConfusion z.1
          · exact hz z
          · exact z (Int.gcd_one_right _)
      · rw [if_neg cA, pairL_none, if_neg (fun z => cA (key.mp z).1)]
  | some B =>
    obtain ⟨e1, n1⟩ := cutAt_some hB
    cases hA : fig (cutAt (bare L)).1 with
    | none => rw [numIn_none hA, pairP_none, pairL_none]
    | some a =>
      have eb : botP (some B) = fig B := rfl
      have el : botL (some B) = if 47 ∈ B then none else numIn B := rfl
      rw [eb, el]
      cases hF : fig B with
      | none =>
        rw [numIn_none hF, pairP_none2, show (if 47 ∈ B then none else (none : Option Nat)) = none by split <;> rfl, pairL_none2]
      | some b =>
        obtain ⟨_, _, hd, rfl⟩ := fig_some hA
        obtain ⟨_, _, hd2, rfl⟩ := fig_some hF
        have hd := allDig hd
        have hd2 := allDig hd2
        rw [numIn_of hA, numIn_of hF, if_neg (no47 hd2)]
        generalize hAA : (cutAt (bare L)).1 = A at *
        have eP : pairP (neg L) L (some (digitsVal A)) (some (digitsVal B)) = if digitsVal B = 0 then none else if textL (frT (sg (neg L) (digitsVal A)) (digitsVal B)) (frB (sg (neg L) (digitsVal A)) (digitsVal B)) = L then some (frT (sg (neg L) (digitsVal A)) (digitsVal B), frB (sg (neg L) (digitsVal A)) (digitsVal B)) else none := rfl
        rw [eP]
        have eL : pairL (neg L) (some B).isSome (some (digitsVal A)) (some (digitsVal B)) = if (true = true ∧ digitsVal B < 2) ∨ (neg L = true ∧ digitsVal A = 0) ∨ Int.gcd (digitsVal A : Int) (digitsVal B : Int) ≠ 1 then none else some (sg (neg L) (digitsVal A), (digitsVal B : Int)) := rfl
        by_cases hb : digitsVal B = 0
        · rw [if_pos hb]
          by_cases cA : Canon A = true
          · by_cases cB : Canon B = true
            · rw [if_pos cA, if_pos cB, eL, if_pos (.inl ⟨rfl, by omega⟩)]
            · rw [if_neg cB, pairL_none2]
          · rw [if_neg cA, pairL_none]
        · rw [if_neg hb]
          have key := stroke (s := neg L) hd hd2 hb
          rw [List.append_assoc, ← e1, ← hL] at key
          by_cases cA : Canon A = true
          · by_cases cB : Canon B = true
            · rw [if_pos cA, if_pos cB, eL]
              by_cases cc : 2 ≤ digitsVal B ∧ ¬ (neg L = true ∧ digitsVal A = 0) ∧ Int.gcd (digitsVal A : Int) (digitsVal B : Int) = 1
              · rw [if_pos (key.mpr ⟨cA, cB, cc.1, cc.2.1, cc.2.2⟩), if_neg]
                · obtain ⟨x1, x2⟩ := low (t := sg (neg L) (digitsVal A)) (b := (digitsVal B : Int)) (by omega) ((gcd_sgn _ _ _).trans cc.2.2)
                  rw [x1, x2]
                · rintro (z | z | z)
                  · have := z.2
                    omega
                  · exact cc.2.1 z
                  · exact z cc.2.2
              · rw [if_neg (fun z => cc (key.mp z).2.2), if_pos]
                apply Classical.byContradiction
                intro z
                refine cc ⟨?_, fun y => z (.inr (.inl y)), ?_⟩
                · apply Classical.byContradiction
                  intro y
                  exact z (.inl ⟨rfl, by omega⟩)
                · apply Classical.byContradiction
                  intro y
                  exact z (.inr (.inr y))
            · rw [if_neg cB, pairL_none2, if_neg (fun z => cB (key.mp z).2.1)]
          · rw [if_neg cA, pairL_none, if_neg (fun z => cA (key.mp z).1)]
/-- a share in lowest terms is read as it is written -/
theorem read_text {t d : Int} (hd : 0 < d) (g : Int.gcd t d = 1) (ht : t.natAbs < 10 ^ 12) (hd2 : d.natAbs < 10 ^ 12) : readP (textL t d) = some (t, d) := by
  have fg : ∀ n : Nat, n < 10 ^ 12 → fig (numL n) = some n := fun n h => by
    unfold fig
    rw [if_pos ⟨numL_ne n, numL_len (by decide) h, digAll (numL_digits n)⟩, numL_val]
  have es : sg (decide (t < 0)) t.natAbs = t := by
    unfold sg
    by_cases h : t < 0
    · rw [if_pos (decide_eq_true h)]; omega
    · rw [if_neg (fun z => h (of_decide_eq_true z))]; omega
  have cut1 : ∀ {x q : List Nat}, 47 ∉ x → cutAt (x ++ 47 :: q) = (x, some q) := by
    intro x q hx
    induction x with
    | nil => rfl
    | cons c r ih =>
      have hc : c ≠ 47 := fun z => hx (by rw [z]; exact List.mem_cons_self)
      show (if c = 47 then ([], some (r ++ 47 :: q)) else (c :: (cutAt (r ++ 47 :: q)).1, (cutAt (r ++ 47 :: q)).2)) = _
      rw [if_neg hc, ih (fun z => hx (List.mem_cons_of_mem _ z))]
  have cut0 : ∀ {x : List Nat}, 47 ∉ x → cutAt x = (x, none) := by
    intro x hx
    induction x with
    | nil => rfl
    | cons c r ih =>
      have hc : c ≠ 47 := fun z => hx (by rw [z]; exact List.mem_cons_self)
      show (if c = 47 then _ else _) = _
      rw [if_neg hc, ih (fun z => hx (List.mem_cons_of_mem _ z))]
  have nn : ∀ n : Nat, neg (numL n) = false := fun n => by
    cases h : neg (numL n) with
    | false => rfl
    | true =>
      obtain ⟨r, e⟩ := neg_cons h
      exact (no45 (numL_digits n) e).elim
  have hbare : ∀ q : List Nat, neg ((if t < 0 then [45] else []) ++ numL t.natAbs ++ q) = decide (t < 0) := fun q => by
    by_cases h : t < 0
    · rw [if_pos h, decide_eq_true h]
      rfl
    · rw [if_neg h, decide_eq_false h]
      have e := nn t.natAbs
      cases hA : numL t.natAbs with
      | nil => exact absurd hA (numL_ne _)
      | cons c r =>
        rw [hA] at e
        by_cases h5 : c = 45
        · rw [h5] at e; cases e
        · show neg (c :: (r ++ q)) = false
          unfold neg
          split
          · rename_i z
            cases z
            exact absurd rfl h5
          · rfl
  have b1 : bare ((if t < 0 then [45] else []) ++ numL t.natAbs) = numL t.natAbs := by
    have e := hbare []
    rw [List.append_nil] at e
    unfold bare
    rw [e]
    by_cases h : t < 0
    · rw [if_pos (decide_eq_true h), if_pos h]
      rfl
    · rw [if_neg (fun z => h (of_decide_eq_true z)), if_neg h]
      rfl
  have n1 : 47 ∉ (if t < 0 then [45] else []) ++ numL t.natAbs := fun m => by
    rcases List.mem_append.mp m with z | z
    · split at z
      · exact absurd (List.mem_singleton.mp z) (by decide)
      · cases z
    · exact no47 (numL_digits _) z
  obtain ⟨x1, x2⟩ := low hd g
  by_cases hd1 : d = 1
  · have eT : textL t d = (if t < 0 then [45] else []) ++ numL t.natAbs := by
      unfold textL
      rw [if_neg (show ¬ (d ≠ 1) from fun z => z hd1), List.append_nil]
    have eN := hbare []
    rw [List.append_nil] at eN
    unfold readP
    rw [eT, cut0 n1, eN]
    show pairP _ _ (fig (bare ((if t < 0 then [45] else []) ++ numL t.natAbs))) (some 1) = _
    rw [b1, fg _ ht]
    show (if (1 : Nat) = 0 then none else if textL (frT (sg (decide (t < 0)) t.natAbs) 1) (frB (sg (decide (t < 0)) t.natAbs) 1) = _ then some (frT (sg (decide (t < 0)) t.natAbs) 1, frB (sg (decide (t < 0)) t.natAbs) 1) else none) = _
    rw [if_neg (show ¬ (1 : Nat) = 0 by decide)]
    have hT : textL (frT (sg (decide (t < 0)) t.natAbs) 1) (frB (sg (decide (t < 0)) t.natAbs) 1) = (if t < 0 then [45] else []) ++ numL t.natAbs := by
      rw [es, frT_one, frB_one, ← eT, hd1]
    rw [if_pos hT, es, frT_one, frB_one, hd1]
  · have eT : textL t d = (if t < 0 then [45] else []) ++ numL t.natAbs ++ 47 :: numL d.natAbs := by
      unfold textL
      rw [if_pos hd1]
    have ed : ((d.natAbs : Nat) : Int) = d := by omega
    unfold readP
    rw [eT, cut1 n1, hbare]
    show pairP _ _ (fig (bare ((if t < 0 then [45] else []) ++ numL t.natAbs))) (fig (numL d.natAbs)) = _
    rw [b1, fg _ ht, fg _ hd2]
    show (if d.natAbs = 0 then none else if textL (frT (sg (decide (t < 0)) t.natAbs) (d.natAbs : Int)) (frB (sg (decide (t < 0)) t.natAbs) (d.natAbs : Int)) = _ then some (frT (sg (decide (t < 0)) t.natAbs) (d.natAbs : Int), frB (sg (decide (t < 0)) t.natAbs) (d.natAbs : Int)) else none) = _
    rw [if_neg (show ¬ d.natAbs = 0 by omega)]
    have hT : textL (frT (sg (decide (t < 0)) t.natAbs) (d.natAbs : Int)) (frB (sg (decide (t < 0)) t.natAbs) (d.natAbs : Int)) = (if t < 0 then [45] else []) ++ numL t.natAbs ++ 47 :: numL d.natAbs := by
      rw [es, ed, x1, x2, ← eT]
    rw [if_pos hT, es, ed, x1, x2]
end Nv

set_option maxRecDepth 100000
set_option maxHeartbeats 4000000
namespace Nv
open PySem PySem.Spec PyProof.Rows L2
section
variable {prog : Program} {w : World} {A : Around} {E : Value → Shared → Prop} {s : Shared}
/-- sep.join(reversed(a list)) from where the iterator stands -/
theorem join_rev {x : Str} {t : Tok} {it l : Addr} {items : Array Value} {ys : List Str} {Q : Value → Shared → Prop} (hh : A.handled = none) (hit : s.heap.IsRevIter it l ((items.size : Int) - 1)) (hl : s.heap.IsList l items) (hne : l ≠ it)
    (hn : items.size ≤ sizeLine) (hP : ∀ acc : Array Value, ItemsOf (fun i v => items[items.size - 1 - i]? = some v) acc items.size → StrsAre acc.toList ys) (hok : (ys.map (·.length)).sum + ys.length * x.length ≤ 16777216)
    (hq : ∀ (h' : Heap) (tk : Nat) (t' : Tok), (∀ b o, b ≠ it → s.heap.get? b = some o → h'.get? b = some o) → Q (.str (Txt.join x ys) t') { s with heap := h', toks := tk }) :
    wpAny (model prog w) A (call (.builtin "str.join") [.str x t, .ref it]) Q E s := by
  have kind : s.TypeIs (.ref it) "list_reverseiterator" := hit.typeIs
  have hh1 : A.in1.handled = none := hh
  refine wpAny_call (codeAny_call_builtin F.slot_str_join.plain F.entry_str_join (F.slot_str_join.check _ _ _ _ _ _ _ _ (typeIs_str _ _ _) (F.args_str_join_2 _ _) ?_))
  rw [join_tree_other]
  refine wpAny_bind (wpAny_typeOf kind ?_)
  show wpAny _ A.in1 ((pyIter (.ref it)).tryCatch _ >>= fun z => collect z >>= fun got => joinTail x got) _ _ s
  refine wpAny_bind (wpAny_tryCatch (wpAny_pyIter_revIter (l := l) (i := (items.size : Int) - 1) hit ?_))
  refine wpAny_bind (RT.collect_rev (A := A.in1) hh1 hit hl hne hn fun h' tk acc hk hacc => ?_)
  obtain ⟨ps, hps, ht⟩ := strsAre_values (hP acc hacc)
  subst ht
  rw [hps]
  have fits := joinOk_of hok
  unfold JoinOk at fits
  rw [Bool.not_eq_true'] at fits
  have gives : Gives (joinTail x (strValues ps)) (joinMade x ps) := by
    have g0 := gives_joinTail x ps fits
    cases ps with
    | nil => exact g0
    | cons p1 rest => cases rest <;> exact g0
  exact gives prog w A (wants Q E) _ (post_join ps ⟨joinFit_length fits, fun t' k => hq h' k t' hk⟩)
end
section
variable {X : Cx}
/-- sep.join(reversed(xs)), xs a list of texts -/
theorem pe_joinRev {o e : Expr} {to te : TE} {apos pos p pos2 : Pos} (hc : X.calm = true) (ho : PE X o to) (hg : Gl X "reversed") (hm : X.mg "reversed" = none) (he : PE X e te)
    (hs1 : starEach [.Call (.Name "reversed" p) [e] [] pos2] X.env = [(false, eval (.Call (.Name "reversed" p) [e] [] pos2) X.env)] := by rfl)
    (hs : starEach [e] X.env = (false, eval e X.env) :: starEach [] X.env := by rfl) (hbase : attributeBase o "join" X.env (eval o X.env) = eval o X.env := by rfl) (hline : (apos.endLine == pos.line) = true := by rfl) :
    PE X (.Call (.Attribute o "join" apos) [.Call (.Name "reversed" p) [e] [] pos2] [] pos) (fun σ H Q => to σ H fun x H1 => (∃ a, x = .str a) ∧ te σ H1 fun y H2 => ∃ (a : Str) (q : Addr) (ys : List Str),
      x = .str a ∧ y = .ref q ∧ SqL X.K H2 q (ys.map V.str) ∧ (ys.reverse.map (·.length)).sum + ys.reverse.length * a.length ≤ 16777216 ∧ Q (.str (Txt.join a ys.reverse)) H2) := by
  refine ⟨fun pins s σ H Q I h => ?_⟩
  refine PySem.Call_method1 hbase hs1 hline (thn (ho.run pins s σ H _ I h) fun v s1 hv => ?_)
  obtain ⟨x, H1, I1, r1, ⟨a, rfl⟩, q1⟩ := hv
  obtain ⟨t, rfl⟩ := _root_.id r1
  refine ⟨"str", _, F.plainAttrs_str, F.slot_str_join, F.type_str_join, typeIs_str _ _ _, (fun _ e => nomatch e), Calls.callWith_builtin rfl (Calls.evalArgs_plain (Calls.spliced_cons ?_))⟩
  refine Call_ (ld_blt I1 hg hm PyProof.Rows.boot_reversed (PyProof.Rows.callWith_type1 (args_cons (thn (he.run pins s1 σ H1 _ I1 q1) fun u s2 hu => args_nil ?_) hs) hs rfl))
  obtain ⟨y, H2, I2, r2, a', q, ys, ea, rfl, hq, hz, q3⟩ := hu
  cases ea
  obtain rfl : u = Value.ref q := r2
  obtain ⟨its, rv, pl, hsz⟩ := I2.list hq
  have lenI : its.length = ys.length := by rw [← rv.length, List.length_map]
  refine call_reversed_list pl.isList (Calls.spliced_nil ?_)
  have hl := pl.isList
  obtain ⟨ol, hol, _⟩ := id hl
  have hne : q ≠ s2.heap.objs.size := Nat.ne_of_lt (Heap.lt_size hol)
  have hn : its.toArray.size ≤ sizeLine := by rw [List.size_toArray, ← rv.length]; exact hsz
  refine join_rev (s := { s2 with heap := s2.heap.push (revObj q ((its.toArray.size : Int) - 1)) }) (I2.ok.hd hc) ⟨_, Heap.get?_push_size _ rfl, rfl, rfl⟩ (hl.push _) hne hn (fun acc hacc => ?_) hz (fun h' tk t' hk => ?_)
  · have vr := RT.vals_rev rv hacc
    rw [← List.map_reverse] at vr
    generalize acc.toList = L at vr
    generalize ys.reverse = zs at vr
    induction zs generalizing L with
    | nil => cases vr; exact .nil
    | cons z zs ih =>
      cases vr with
      | cons r rr =>
        obtain ⟨tt, rfl⟩ := r
        exact .cons z tt (ih _ rr)
  · refine ⟨.str _, H2, ?_, ⟨t', rfl⟩, q3⟩
    refine I2.kept (t' := tk) (h' := h') fun b o e => hk b o (Nat.ne_of_lt (Heap.lt_size e)) (Heap.get?_push_of_some _ e)
/-- thirteen ones -/
theorem op_ones : OpR X (binaryOp .Mult) (fun x y H Q => x = .str "1" ∧ y = .int 13 ∧ Q (.str (SX.S (List.replicate 13 49))) H) := by
  intro pins s σ H x y v u Q I rx ry h
  obtain ⟨rfl, rfl, q⟩ := h
  obtain ⟨t1, rfl⟩ := rx
  obtain ⟨t2, rfl⟩ := ry
  refine PySem.P.mul_str (x := "1") (n := 13) (by decide) (fun _ _ => by decide +kernel) (fun _ _ => by decide +kernel) ?_
  have e : (⟨(List.replicate (13 : Int).toNat (Str.ofString "1").cps).foldl (· ++ ·) #[]⟩ : Str) = SX.S (List.replicate 13 49) := by decide +kernel
  rw [if_neg (show ¬ (13 : Int) < 1 by decide), if_neg (show ¬ (((13 : Int) == 1 || (Str.ofString "1").length == 0) = true) by decide +kernel), e]
  exact ⟨by decide +kernel, .str (SX.S (List.replicate 13 49)), H, I.tok _, ⟨_, rfl⟩, q⟩
end
end Nv

set_option maxRecDepth 100000
set_option maxHeartbeats 4000000
namespace Nv
open PySem PySem.Spec PyProof.Rows L2 LamX
abbrev sBN : Stmt := inClass (topS 3) 0
abbrev sBS : Stmt := inClass (topS 2) 0
abbrev sShare : Stmt := topS 33
theorem scBN : FnScope ["self"] ["self"] (defScope sBN) := ⟨rfl, rfl, rfl, by decide +kernel, rfl, by decide +kernel, by decide +kernel⟩
theorem scBS : FnScope ["self"] ["self"] (defScope sBS) := ⟨rfl, rfl, rfl, by decide +kernel, rfl, by decide +kernel, by decide +kernel⟩
theorem scShare : FnScope ["top", "bottom", "divisor"] ["top", "bottom"] (defScope sShare) := ⟨rfl, rfl, rfl, by decide +kernel, rfl, by decide +kernel, by decide +kernel⟩
def spBN (C : Addr) (x : Str) : Sp := fun vs H Q _ => ∃ a : Addr, vs = [.ref a] ∧ H a = some (exo a C none) ∧ made a C x H Q
/-- what is known of the two classes: NeverError at CN (its __init__ at fN), ByNought at C (its __init__ at fI) -/
structure Errs (K : PySem.W.Frag) (mg : Str → Option Value) (x : Str) (CN C fN fI : Addr) : Prop where
  oex : OexC K C
  xf : XfC K C
  word : PySem.W.findIn K (.ref C) "word" = some none
  gC : mg x = some (.ref C)
  gN : mg "NeverError" = some (.ref CN)
  iC : PySem.W.findIn K (.ref C) "__init__" = some (some (.ref fI))
  tI : PySem.W.typeIn K (.ref fI) = some (.type "function")
  rd : ClX.CRead K CN (.type "type")
  cv : ClX.CVal K CN (.type "type") "__init__" (.ref fN) (.ref fN)
  kp : PySem.W.keepIn K (.ref fN) = true
  hit : PySem.W.exmOne K (.ref C) (.ref CN) = some true
section
variable {P : Program} {w : World} {K : PySem.W.Frag} {mg : Str → Option Value} {base : Heap} {CN C fN fI : Addr}
theorem ok_BN {f : Addr} {fd fdN : FuncData} (F : Fun K "__init__" "ByNought.__init__" sBN f fd) (R : Errs K mg "ByNought" CN C fN fI) (GN : FnOk P w K mg base CX0 1 fN fdN ["self", "word", "message"] (spNE K)) (bN : Binds K fdN ["self", "word", "message"] []) :
    FnOk P w K mg base CX0 2 f fd ["self"] (spBN C "ByNought") := by
  refine F.ok scBN (fun vs H Q E h => ?_) (fun cdv A outer s H vs Q E hr h => ?_)
  · obtain ⟨a, rfl, _⟩ := h
    rfl
  · obtain ⟨a, rfl, ha, q⟩ := h
    refine ⟨_, pss_one (ps_expr (pe_clsdef (pe_glob (v := .ref CN) (by rfl) R.gN rfl) R.rd R.cv R.kp GN hr bN .nil pass0 (pa_cons (pv 0) (pa_cons pe_str (pa_cons pe_str pa_nil))))), ?_⟩
    exact ⟨rfl, _, rfl, a, C, _, _, rfl, R.oex, R.word, ha, q⟩
theorem ok_BS {f : Addr} {fd fdN : FuncData} (F : Fun K "__init__" "BadShare.__init__" sBS f fd) (R : Errs K mg "BadShare" CN C fN fI) (GN : FnOk P w K mg base CX0 1 fN fdN ["self", "word", "message"] (spNE K)) (bN : Binds K fdN ["self", "word", "message"] []) :
    FnOk P w K mg base CX0 2 f fd ["self"] (spBN C "BadShare") := by
  refine F.ok scBS (fun vs H Q E h => ?_) (fun cdv A outer s H vs Q E hr h => ?_)
  · obtain ⟨a, rfl, _⟩ := h
    rfl
  · obtain ⟨a, rfl, ha, q⟩ := h
    refine ⟨_, pss_one (ps_expr (pe_clsdef (pe_glob (v := .ref CN) (by rfl) R.gN rfl) R.rd R.cv R.kp GN hr bN .nil pass0 (pa_cons (pv 0) (pa_cons pe_str (pa_cons pe_str pa_nil))))), ?_⟩
    exact ⟨rfl, _, rfl, a, C, _, _, rfl, R.oex, R.word, ha, q⟩
theorem up6 {n : Nat} (h : n < 2 ^ 6000) : n < 2 ^ 8000 := Nat.lt_of_lt_of_le h (Nat.pow_le_pow_right (by decide) (by decide))
/-- share(top, bottom) -/
def spShare (C : Addr) : Sp := fun vs H Q E => ∃ t b : Int, vs = [.int t, .int b] ∧ b.natAbs < 2 ^ 6000 ∧ (b ≠ 0 → newSh H Q (frT t b) (frB t b)) ∧
  (b = 0 → ∀ d H', Same H H' → H d = none → H' d = some (.xd (wordOf "ByNought")) → E (.ref C) (some d) H')
theorem ok_share {f : Addr} {fd fdI : FuncData} {dvs : List V} (F : FunD K "share" "share" (defArgs sShare) (defBody sShare) (defScope sShare) dvs [] f fd) (R : Errs K mg "ByNought" CN C fN fI)
    (GG : C8.Cal P w K mg base 1 "common_divisor" spPGcd []) (GI : FnOk P w K mg base CX0 2 fI fdI ["self"] (spBN C "ByNought")) (bI : Binds K fdI ["self"] []) : FnOk P w K mg base (L2N.CX P w) 4 f fd ["top", "bottom"] (spShare C) := by
  refine F.ok scShare (fun vs H Q E h => ?_) (fun cdv A outer s H vs Q E hr h => ?_)
  · obtain ⟨a, b, rfl, _⟩ := h
    rfl
  · obtain ⟨t, b, rfl, hb, q1, q0⟩ := h
    refine ⟨_, pss_cons (ps_if (pt_cmpR op_eq (pv 1) pe_int (nomark _)) (pss_one (L2N.ps_raise rfl (L2N.takes_of rfl rfl rfl rfl) (pmk_bareN R.oex R.iC R.tI GI hr bI pass0 (by rfl) R.gC))) pss_nil)
      (pss_cons (ps_set (i := 2) scShare.nd rfl (.inl rfl) (C8.pe_c GG hr (by decide) (by rfl) (pa_cons (pv 0) (pa_cons (pv 1) pa_nil))))
      (pss_cons (ps_if (pt_cmpR op_lt (pv 1) pe_int (nomark _)) (pss_one (ps_set (i := 2) scShare.nd rfl (.inl rfl) (pe_un un_neg (pv 2)))) pss_nil)
      (pss_one (ps_ret (pe_tup (pa_cons (pe_op op_div (pv 0) (pv 2)) (pa_cons (pe_op op_div (pv 1) (pv 2)) pa_nil))))))), ?_⟩
    refine ⟨_, rfl, rfl, _, rfl, ite2 (fun c => ?_) (fun c => ?_)⟩
    · have e : b = 0 := V.int.inj (of_decide_eq_true c)
      refine ⟨by decide, fun a na => ⟨a, rfl, upd_same, fun dx nx ne => ⟨rfl, dx, wordOf "ByNought", upd_same, ?_, ?_, ?_⟩⟩⟩
      · rw [upd_ne ne, upd_same]
      · rw [upd_ne ne] at nx
        exact nx
      · refine q0 e dx _ (fun z o hz => ?_) ?_ upd_same
        · have h1 : z ≠ a := ne_of_none hz na
          have h2 : z ≠ dx := fun y => by
            rw [upd_ne ne, ← y, hz] at nx
            cases nx
          rw [upd_ne h2, del_ne h1, upd_ne h1, upd_ne h2, upd_ne h1]
          exact hz
        · rw [upd_ne ne] at nx
          exact nx
    · have e : b ≠ 0 := fun z => c (by
        subst z
        exact decide_eq_true rfl)
      refine ⟨_, rfl, _, rfl, t, b, rfl, hb, ?_⟩
      have fin : ∀ d : Int, d = per t b → tRet (tTup (tCons (tOp (rI DivOk fun i j => .int (i.fdiv j)) (tVar 0) (tVar 2)) (tCons (tOp (rI DivOk fun i j => .int (i.fdiv j)) (tVar 1) (tVar 2)) tNil)))
          { nx := fun _ H' => Q .non H', rt := Q } [some (.int t), some (.int b), some (.int d)] H := fun d hd => by
        have ok : DivOk t d := ⟨by rw [hd]; exact per_ne t e, by rw [hd]; exact up6 (Nat.lt_of_le_of_lt (per_le t e) hb)⟩
        refine ⟨_, rfl, _, rfl, t, d, rfl, rfl, ok, _, rfl, _, rfl, b, d, rfl, rfl, ok, (by show 2 ≤ sizeLine; decide), fun p hp => ?_⟩
        rw [hd]
        exact (q1 e).at_ p hp
      refine ⟨_, rfl, b, 0, rfl, rfl, _, rfl, ite2 (fun c2 => ?_) (fun c2 => ?_)⟩
      · have l : b < 0 := of_decide_eq_true c2
        refine ⟨_, rfl, _, rfl, ?_⟩
        exact fin _ (by unfold per; rw [if_pos l])
      · have l : ¬ b < 0 := fun z => c2 (decide_eq_true z)
        exact fin _ (by unfold per; rw [if_neg l])

/-- a def that may raise, called by its name -/
structure CalX (P : Program) (w : World) (K : PySem.W.Frag) (mg : Str → Option Value) (base : Heap) (k : Nat) (x : Str) (sp : Sp) (dvs : List V) : Prop where
  ex : ∃ (f : Addr) (fd : FuncData) (ps : List Str) (ds : List Value), FnOk P w K mg base (L2N.CX P w) k f fd ps sp ∧ mg x = some (.ref f) ∧ PySem.W.keepIn K (.ref f) = true ∧ Binds K fd ps ds ∧ Vals dvs ds
section
variable {X : Cx} {k j : Nat} {x : Str} {sp : Sp} {dvs : List V} {e : Expr} {es : List Expr} {p pos : Pos} {t : TA} {E : XK}
theorem pe_cxE (c : CalX X.prog X.w X.K X.mg X.base k x sp dvs) (hr : Room j X.A) (hk : k ≤ j) (hx : Passes (L2N.CX X.prog X.w) X E) (hg : Gl X x) (ha : PA X (e :: es) t)
    (hdb : (x == ("__debug__" : Str)) = false := by decide) (he : starEach (e :: es) X.env = (false, eval e X.env) :: starEach es X.env := by rfl) (hpl : (backTo pos (starEach es X.env)).any (·.1) = false := by rfl) :
    PE X (.Call (.Name x p) (e :: es) [] pos) (tCall sp dvs E t) := by
  obtain ⟨f, fd, ps, ds, F, hm, kp, b, d⟩ := c.ex
  exact pe_call F (hr.mono hk) hg hm kp b d hx ha hdb he hpl
theorem pe_cx (c : CalX X.prog X.w X.K X.mg X.base k x sp dvs) (hr : Room j X.A) (hk : k ≤ j) (hg : Gl X x) (ha : PA X (e :: es) t)
    (hdb : (x == ("__debug__" : Str)) = false := by decide) (he : starEach (e :: es) X.env = (false, eval e X.env) :: starEach es X.env := by rfl) (hpl : (backTo pos (starEach es X.env)).any (·.1) = false := by rfl) :
    PE X (.Call (.Name x p) (e :: es) [] pos) (tCall sp dvs L2.E0 t) := pe_cxE c hr hk passLN hg ha hdb he hpl
end
/-! texts -/
theorem ofS (n : Nat) : Str.ofString (toString ((n : Nat) : Int)) = SX.S (TL.numL n) := SX.num_S n
theorem str_empty : Str.ofString "" = SX.S [] := by decide +kernel
theorem str_minus : Str.ofString "-" = SX.S [45] := by decide +kernel
theorem str_stroke : Str.ofString "/" = SX.S [47] := by decide +kernel
theorem log60 {i : Int} (h : i.natAbs < 10 ^ 60) : i.natAbs.log2 < 1920 := Nat.lt_trans (PySem.Flt.log2_lt_of (k := 200) (by decide) (Nat.lt_of_lt_of_le h (by decide))) (by decide)
abbrev sFig : Stmt := topS 34
abbrev sText : Stmt := topS 35
theorem scFig : FnScope ["number", "pieces", "piece"] ["number"] (defScope sFig) := ⟨rfl, rfl, rfl, by decide +kernel, rfl, by decide +kernel, by decide +kernel⟩
theorem scText : FnScope ["one", "top", "bottom", "text"] ["one"] (defScope sText) := ⟨rfl, rfl, rfl, by decide +kernel, rfl, by decide +kernel, by decide +kernel⟩
def spFig : Sp := fun vs H Q _ => ∃ i : Int, vs = [.int i] ∧ 0 ≤ i ∧ i.natAbs < 10 ^ 60 ∧ ∀ H', Same H H' → Q (.str (SX.S (TL.numL i.natAbs))) H'
def spText (K : PySem.W.Frag) : Sp := fun vs H Q _ => ∃ (p : Addr) (t d : Int), vs = [.ref p] ∧ SqT K H p [.int t, .int d] ∧ t.natAbs < 10 ^ 60 ∧ 0 < d ∧ d.natAbs < 10 ^ 60 ∧ ∀ H', Same H H' → Q (.str (SX.S (textL t d))) H'
/-- the names of the top that the program's texts are made with -/
structure Tops (mg : Str → Option Value) : Prop where
  piece : ∃ t, mg "PIECE" = some (.int (10 ^ 60) t)
  len : ∃ t, mg "PIECE_LENGTH" = some (.int 60 t)
  most : ∃ t, mg "MOST_FIGURES" = some (.int 12 t)
  figs : ∃ t, mg "FIGURES" = some (.str "0123456789" t)
  rev : mg "reversed" = none
  dvm : mg "divmod" = none
  any : mg "any" = none
section
variable {P : Program} {w : World} {K : PySem.W.Frag} {mg : Str → Option Value} {base : Heap} {CN C fN fI : Addr}
theorem ok_fig {f : Addr} {fd : FuncData} {k : Nat} (F : Fun K "figures_of" "figures_of" sFig f fd) (T : Blt mg) (Z : Tops mg) : FnOk P w K mg base CX0 (k + 1) f fd ["number"] spFig := by
  obtain ⟨t1, h1⟩ := Z.piece
  obtain ⟨t2, h2⟩ := Z.len
  refine F.ok scFig (fun vs H Q E h => ?_) (fun cdv A outer s H vs Q E hr h => ?_)
  · obtain ⟨i, rfl, _⟩ := h
    rfl
  · obtain ⟨i, rfl, i0, i1, q⟩ := h
    refine ⟨_, pss_cons (ps_set (i := 1) scFig.nd rfl (.inl rfl) (pe_lst pa_nil))
      (pss_cons (ps_while PassesOwn.never (pt_cmpR op_ge (pv 0) (pe_glob (v := .int (10 ^ 60)) (by rfl) h1 ⟨_, rfl⟩) (nomark _))
        (pss_cons (ps_asg (pe_callB call_divmod (by rfl) Z.dvm (by decide +kernel) (pa_cons (pv 0) (pa_cons (pe_glob (v := .int (10 ^ 60)) (by rfl) h1 ⟨_, rfl⟩) pa_nil))) (pg_tup rfl (pgs_cons (pg_name (i := 0) scFig.nd rfl (.inl rfl)) (pgs_cons (pg_name (i := 2) scFig.nd rfl (.inl rfl)) pgs_nil))))
        (pss_one (ps_expr (pe_bm PySem.F.plainAttrs_list PySem.F.slot_list_append PySem.F.type_list_append mt_append (pv 1) (pa_cons (pe_bm PySem.F.plainAttrs_str PySem.F.slot_str_zfill PySem.F.type_str_zfill mt_zfill (pe_callTy call_str_int (by rfl) T.str (by decide +kernel) (pa_cons (pv 2) pa_nil)) (pa_cons (pe_glob (v := .int 60) (by rfl) h2 ⟨_, rfl⟩) pa_nil)) pa_nil))))))
      (pss_cons (ps_expr (pe_bm PySem.F.plainAttrs_list PySem.F.slot_list_append PySem.F.type_list_append mt_append (pv 1) (pa_cons (pe_callTy call_str_int (by rfl) T.str (by decide +kernel) (pa_cons (pv 0) pa_nil)) pa_nil)))
      (pss_one (ps_ret (pe_joinRev rfl pe_str (by rfl) Z.rev (pv 1)))))), ?_⟩
    refine ⟨Nat.zero_le _, fun l nl => ?_⟩
    have s1 := same_new (o := .lst []) nl
    refine while_by (fun σ H' => σ = [some (.int i), some (.ref l), none] ∧ H' = upd H l (.lst [])) (fun _ _ => 0) ⟨rfl, rfl⟩ (fun σ H' hP => ?_) (fun σ H Q Q' hh hc => ?_)
    · obtain ⟨rfl, rfl⟩ := hP
      refine ⟨_, rfl, i, _, rfl, rfl, _, rfl, ite2 (fun c => ?_) (fun c => ?_)⟩
      · have z := of_decide_eq_true c
        have z2 : (10 : Int) ^ 60 = 1000000000000000000000000000000000000000000000000000000000000 := by decide
        have z3 : (10 : Nat) ^ 60 = 1000000000000000000000000000000000000000000000000000000000000 := by decide
        rw [z2] at z
        rw [z3] at i1
        omega
      · refine ⟨_, rfl, .inl ⟨rfl, _, SqL.of upd_same⟩, _, rfl, i, rfl, log60 i1, l, _, _, rfl, rfl, upd_same, (by show 0 < sizeLine; decide), ?_⟩
        have ei : Str.ofString (toString i) = SX.S (TL.numL i.natAbs) := by
          have : i = ((i.natAbs : Nat) : Int) := by omega
          rw [this]
          exact ofS _
        have ll : (TL.numL i.natAbs).length ≤ 60 := TL.numL_len (by decide) i1
        refine ⟨⟨_, rfl⟩, _, rfl, _, l, [Str.ofString (toString i)], rfl, rfl, SqL.of upd_same, ?_, ?_⟩
        · rw [ei]
          show ((SX.S (TL.numL i.natAbs)).length + 0) + 1 * (Str.ofString "").length ≤ 16777216
          rw [SX.S_len, str_empty, SX.S_len]
          show _ + 1 * 0 ≤ _
          omega
        · have ej : Txt.join (Str.ofString "") [Str.ofString (toString i)].reverse = SX.S (TL.numL i.natAbs) := by
            rw [ei, str_empty]
            exact SX.join_S [] [TL.numL i.natAbs]
          rw [ej]
          refine q _ (fun z o hz => ?_)
          have nz := ne_of_none hz nl
          rw [upd_ne nz, upd_ne nz]
          exact hz
    · obtain ⟨v, e1, a1, a2, e2, e3, k, e4, e5⟩ := hc
      exact ⟨v, e1, a1, a2, e2, e3, k, e4, hh _ _ e5⟩
theorem ok_text {f : Addr} {fd : FuncData} (F : Fun K "share_text" "share_text" sText f fd) (T : Blt mg) (GF : C8.Cal P w K mg base 1 "figures_of" spFig []) : FnOk P w K mg base CX0 2 f fd ["one"] (spText K) := by
  refine F.ok scText (fun vs H Q E h => ?_) (fun cdv A outer s H vs Q E hr h => ?_)
  · obtain ⟨p, t, d, rfl, _⟩ := h
    rfl
  · obtain ⟨p, t, d, rfl, hp, ht, d0, hd, q⟩ := h
    refine ⟨_, pss_cons (ps_asg (pv 0) (pg_tup rfl (pgs_cons (pg_name (i := 1) scText.nd rfl (.inl rfl)) (pgs_cons (pg_name (i := 2) scText.nd rfl (.inl rfl)) pgs_nil))))
      (pss_cons (ps_set (i := 3) scText.nd rfl (.inl rfl) (C8.pe_c GF hr (by decide) (by rfl) (pa_cons (pe_callB call_abs (by rfl) T.abs (by decide +kernel) (pa_cons (pv 1) pa_nil)) pa_nil)))
      (pss_cons (ps_if (pt_cmpR op_lt (pv 1) pe_int (nomark _)) (pss_one (ps_set (i := 3) scText.nd rfl (.inl rfl) (pe_op op_add_str pe_str (pv 3)))) pss_nil)
      (pss_cons (ps_if (pt_cmpR op_ne (pv 2) pe_int (nomark _)) (pss_one (ps_set (i := 3) scText.nd rfl (.inl rfl) (pe_op op_add_str (pe_op op_add_str (pv 3) pe_str) (C8.pe_c GF hr (by decide) (by rfl) (pa_cons (pv 2) pa_nil))))) pss_nil)
      (pss_one (ps_ret (pv 3)))))), ?_⟩
    have lt : (TL.numL t.natAbs).length ≤ 60 := TL.numL_len (by decide) ht
    have ld : (TL.numL d.natAbs).length ≤ 60 := TL.numL_len (by decide) hd
    have ea : (if t < 0 then -t else t).natAbs = t.natAbs := by split <;> omega
    refine ⟨_, rfl, p, _, rfl, hp, rfl, _, _, rfl, _, _, rfl, rfl, _, rfl, t, rfl, _, rfl, by split <;> omega, by rw [ea]; exact ht, fun H1 s1 => ?_⟩
    rw [ea]
    refine keepN (fun σ' H' => σ' = [some (.ref p), some (.int t), some (.int d), some (.str (SX.S ((if t < 0 then [45] else []) ++ TL.numL t.natAbs)))] ∧ H' = H1) (fun σ' H' hM => ?_) (fun rest => ?_)
    · obtain ⟨rfl, rfl⟩ := hM
      refine ⟨_, rfl, rfl, _, rfl, ite2 (fun c => ?_) (fun c => ?_)⟩
      · have e : d ≠ 1 := fun z => by
          rw [z, decide_eq_true rfl] at c
          cases c
        have l1 : ((if t < 0 then [45] else []) ++ TL.numL t.natAbs).length ≤ 61 := by
          rw [List.length_append]
          split
          · show 1 + _ ≤ _; omega
          · show 0 + _ ≤ _; omega
        refine ⟨_, rfl, _, _, rfl, rfl, ?_, _, rfl, d, rfl, by omega, hd, fun H2 s2 => ⟨_, _, rfl, rfl, ?_, _, rfl, ?_⟩⟩
        · rw [SX.S_len, str_stroke, SX.S_len, sizeLine_eq]
          show _ + 1 ≤ _
          omega
        · rw [str_stroke, SX.S_cat, SX.S_len, SX.S_len, List.length_append, sizeLine_eq]
          show _ + 1 + _ ≤ _
          omega
        · rw [str_stroke, SX.S_cat, SX.S_cat]
          have et : (if t < 0 then [45] else []) ++ TL.numL t.natAbs ++ [47] ++ TL.numL d.natAbs = textL t d := by
            unfold textL
            rw [if_pos e, List.append_assoc _ [47]]
            rfl
          rw [et]
          exact q _ (s1.trans s2)
      · have e : d = 1 := Classical.byContradiction fun z => c (by
          rw [decide_eq_false (fun y => z (V.int.inj y))]
          rfl)
        refine ⟨_, rfl, ?_⟩
        have et : (if t < 0 then [45] else []) ++ TL.numL t.natAbs = textL t d := by
          unfold textL
          rw [if_neg (show ¬ (d ≠ 1) from fun z => z e), List.append_nil]
        rw [et]
        exact q _ s1
    · refine ⟨_, rfl, t, 0, rfl, rfl, _, rfl, ite2 (fun c => ?_) (fun c => ?_)⟩
      · have e : t < 0 := of_decide_eq_true c
        refine ⟨_, rfl, _, _, rfl, rfl, ?_, ?_⟩
        · rw [str_minus, SX.S_len, SX.S_len, sizeLine_eq]
          show 1 + _ ≤ _
          omega
        · refine rest _ _ ⟨?_, rfl⟩
          rw [str_minus, SX.S_cat, if_pos e]
          rfl
      · have e : ¬ t < 0 := fun z => c (decide_eq_true z)
        refine rest _ _ ⟨?_, rfl⟩
        rw [if_neg e]
        rfl
end
section
end
end
end Nv

set_option maxRecDepth 100000
set_option maxHeartbeats 4000000
namespace Nv
open PySem PySem.Spec PyProof.Rows L2 LamX
abbrev sFigs : Stmt := topS 36
abbrev sRead : Stmt := topS 37
theorem scFigs : FnScope ["text", "sign"] ["text"] (defScope sFigs) := ⟨rfl, rfl, rfl, by decide +kernel, rfl, by decide +kernel, by decide +kernel⟩
/-- an error of class C with its word comes out -/
def raises (H : Hp) (E : XK) (C : Addr) (x : Str) : Prop := ∀ d H', Same H H' → H d = none → H' d = some (.xd (wordOf x)) → E (.ref C) (some d) H'
def figsL : List Nat := [48, 49, 50, 51, 52, 53, 54, 55, 56, 57]
theorem figs_eq : Str.ofString "0123456789" = SX.S figsL := by decide +kernel
theorem figs_in (c : Nat) : decide (c ∈ figsL) = isDig c := by
  unfold isDig figsL
  rw [← Bool.decide_and]
  refine decide_eq_decide.mpr ?_
  simp only [List.mem_cons, List.not_mem_nil, or_false]
  omega
theorem any_not (L : List Nat) : (L.map fun c => !isDig c).any id = !(L.all isDig) := by
  induction L with
  | nil => rfl
  | cons c L ih =>
    rw [List.map_cons, List.any_cons, List.all_cons, ih]
    cases isDig c <;> rfl
theorem one_S (c : Nat) : (⟨#[c]⟩ : Str) = SX.S [c] := rfl
def spFigs (C : Addr) : Sp := fun vs H Q E => ∃ L : List Nat, vs = [.str (SX.S L)] ∧ L.length ≤ 1000 ∧ (∀ a, fig L = some a → ∀ H', Same H H' → Q (.int (a : Nat)) H') ∧ (fig L = none → raises H E C "BadShare")
section
variable {P : Program} {w : World} {K : PySem.W.Frag} {mg : Str → Option Value} {base : Heap} {CN C fN fI : Addr}
theorem raises.same {H H1 : Hp} {E : XK} {x : Str} (s : Same H H1) (q : raises H E C x) : raises H1 E C x := fun d H' s' n e => q d H' (s.trans s') (s.free n) e
/-- the raising of an error without arguments -/
theorem raise_bare {H : Hp} {E : XK} {x : Str} (q : raises H E C x) : ([] : List V).length ≤ 1000 ∧ ∀ a, H a = none → spBN C x (.ref a :: ([] ++ [])) (upd H a (exo a C none))
    (fun v H2 => v = .non ∧ ∃ (d : Addr) (fs : List (Str × V)), H2 a = some (exo a C (some d)) ∧ H2 d = some (exd d fs) ∧ H d = none ∧ E (.ref C) (some d) (upd (del H2 a) d (.xd fs))) (fun _ _ _ => False) := by
  refine ⟨by decide, fun a na => ⟨a, rfl, upd_same, fun dx nx ne => ⟨rfl, dx, wordOf x, upd_same, ?_, ?_, ?_⟩⟩⟩
  · rw [upd_ne ne, upd_same]
  · rw [upd_ne ne] at nx
    exact nx
  · refine q dx _ (fun z o hz => ?_) ?_ upd_same
    · have h1 : z ≠ a := ne_of_none hz na
      have h2 : z ≠ dx := fun y => by
        rw [upd_ne ne, ← y, hz] at nx
        cases nx
      rw [upd_ne h2, del_ne h1, upd_ne h1, upd_ne h2, upd_ne h1]
      exact hz
    · rw [upd_ne ne] at nx
      exact nx
theorem ok_figs {f : Addr} {fd fdI : FuncData} (F : Fun K "read_figures" "read_figures" sFigs f fd) (T : Blt mg) (Z : Tops mg) (R : Errs K mg "BadShare" CN C fN fI)
    (GI : FnOk P w K mg base CX0 2 fI fdI ["self"] (spBN C "BadShare")) (bI : Binds K fdI ["self"] []) : FnOk P w K mg base (L2N.CX P w) 4 f fd ["text"] (spFigs C) := by
  obtain ⟨t1, h1⟩ := Z.most
  obtain ⟨t2, h2⟩ := Z.figs
  refine Fun.okN F scFigs (fun vs H Q E h => ?_) (fun cdv A outer s H vs Q E hr h => ?_)
  · obtain ⟨L, rfl, _⟩ := h
    rfl
  · obtain ⟨L, rfl, hl0, q1, q0⟩ := h
    have hl : (SX.S L).length ≤ sizeLine := by rw [SX.S_len, sizeLine_eq]; omega
    refine ⟨_, pss_cons (ps_if (PW.pt (pw_or (pt_cmpR op_eq (pv 0) pe_str (nomark _)) (pw_or1 (pt_cmpR op_gt (pe_callB call_len_str (by rfl) T.len PySem.boot_len (pa_cons (pv 0) pa_nil)) (pe_glob (v := .int 12) (by rfl) h1 ⟨_, rfl⟩) (nomark _)))))
        (pss_one (L2N.ps_raise rfl (L2N.takes_of rfl rfl rfl rfl) (pmk_bareN R.oex R.iC R.tI GI hr bI pass0 (by rfl) R.gC))) pss_nil)
      (pss_cons (ps_if (pt_val (pe_callB (cr_any rfl) (by rfl) Z.any (by decide +kernel) (pa_cons (pe_lc (own := [("sign", 1)]) (g := gName 1) (tt := tYes) rfl scFigs.nd (pi_str (pv 0))
              (blkOk_by (N := ["text", "sign"]) (sc := defScope sFigs) (by decide +kernel)) (fun _ _ _ _ _ => pg_name (i := 1) scFigs.nd rfl (Or.inl rfl)) (fun _ _ _ _ _ => pts_nil)
              (fun _ _ _ _ _ => pe_cmpR op_notIn_sign (pv 1) (pe_glob (v := .str "0123456789") (by rfl) h2 ⟨_, rfl⟩) (by rfl))) pa_nil)))
        (pss_one (L2N.ps_raise rfl (L2N.takes_of rfl rfl rfl rfl) (pmk_bareN R.oex R.iC R.tI GI hr bI pass0 (by rfl) R.gC))) pss_nil)
      (pss_one (ps_ret (pe_callTy call_int_str (by rfl) T.int (by decide +kernel) (pa_cons (pv 0) pa_nil))))), ?_⟩
    refine ⟨_, rfl, rfl, _, rfl, ite2 (fun c => ?_) (fun c => ?_)⟩
    · have e : L = [] := by
        have z := V.str.inj (of_decide_eq_true c)
        rw [str_empty] at z
        exact congrArg TL.tl z
      refine iteT (raise_bare (q0 ?_))
      rw [e]
      rfl
    · have e : L ≠ [] := fun z => c (by
        rw [z, str_empty]
        exact decide_eq_true rfl)
      refine ⟨_, rfl, _, rfl, hl, _, 12, rfl, rfl, _, rfl, ite2 (fun c2 => ?_) (fun c2 => ?_)⟩
      · have z := of_decide_eq_true c2
        rw [SX.S_len] at z
        refine raise_bare (q0 ?_)
        unfold fig
        exact if_neg fun y => by omega
      · have l12 : L.length ≤ 12 := by
          have z : ¬ (12 : Int) < ((SX.S L).length : Int) := fun z => c2 (decide_eq_true z)
          rw [SX.S_len] at z
          omega
        refine ⟨_, rfl, _, rfl, fun D hD => ?_⟩
        refine lc_it (walk_str (z := SX.S L)) (fun i H' => Same H H' ∧ H' D = some (.lst (((L.take i).map fun c => !isDig c).map V.bl))) ⟨same_new hD, upd_same⟩ (fun _ _ _ _ => trivial) (fun i x H1 H2 hi hP hY => ?_) (fun H' hP => ?_)
        · obtain ⟨s1, eD⟩ := hP
          obtain ⟨rfl, c0, hc0, rfl⟩ := hY
          have hc1 : L[i]? = some c0 := by simpa [SX.S] using hc0
          refine ⟨rfl, yes_if ⟨_, rfl, c0, _, rfl, rfl, _, eD, ?_, ?_, ?_⟩⟩
          · rw [List.length_map, List.length_map, List.length_take]
            exact small1000 (by omega)
          · exact fun z o hz => by
              rw [upd_ne (ne_of_none hz hD)]
              exact s1 _ _ hz
          · rw [upd_same, List.take_add_one, hc1, List.map_append, List.map_append]
            have ee : (!decide (c0 ∈ (Str.ofString "0123456789").cps.toList)) = !isDig c0 := by
              rw [figs_eq]
              exact congrArg (fun z => !z) (figs_in c0)
            rw [ee]
            rfl
        · obtain ⟨s1, eD⟩ := hP
          have sz : (SX.S L).cps.size = L.length := SX.S_len L
          rw [sz, List.take_length] at eD
          refine ⟨D, _, rfl, SqL.of eD, ?_⟩
          rw [any_not]
          refine ⟨_, rfl, ite2 (fun c3 => ?_) (fun c3 => ?_)⟩
          · refine raise_bare ((q0 ?_).same s1)
            unfold fig
            refine if_neg fun y => ?_
            rw [y.2.2] at c3
            cases c3
          · have ad : L.all isDig = true := by
              cases hA : L.all isDig with
              | true => rfl
              | false => rw [hA] at c3; exact absurd rfl c3
            refine ⟨_, rfl, _, _, rfl, SX.int_S (a := L) ad e (by omega), by rw [SX.S_len]; omega, ?_⟩
            refine q1 _ ?_ _ s1
            unfold fig
            exact if_pos ⟨e, l12, ad⟩
end
end Nv

set_option maxRecDepth 100000
set_option maxHeartbeats 4000000
namespace Nv
open PySem PySem.Spec PyProof.Rows L2 LamX
theorem scRead : FnScope ["text", "above", "slash", "below", "below_nought", "top", "bottom", "told"] ["text"] (defScope sRead) := ⟨rfl, rfl, rfl, by decide +kernel, rfl, by decide +kernel, by decide +kernel⟩
theorem starts_neg (p : List Nat) : Txt.startswith (SX.S p) (Str.ofString "-") = neg p := by
  have h : (Txt.startswith (SX.S p) (SX.S [45]) = true) ↔ neg p = true := by
    have a := TL.at_iff (x := SX.S p) (y := SX.S [45]) (by show [45] ≠ []; decide) 0
    have b : Txt.startswith (SX.S p) (SX.S [45]) = true ↔ StrLaws.At (SX.S p) (SX.S [45]) (SX.S p).length 0 := by
      unfold Txt.startswith StrLaws.At
      rw [Bool.and_eq_true, decide_eq_true_eq]
    rw [b, a]
    show (p.take 1 == [45]) = true ↔ _
    cases p with
    | nil => exact ⟨fun z => (nomatch z), fun z => (nomatch z)⟩
    | cons c r =>
      show ([c] == [45]) = true ↔ _
      rw [beq_iff_eq]
      constructor
      · intro z
        cases z
        rfl
      · intro z
        obtain ⟨r', e⟩ := neg_cons z
        cases e
        rfl
  rw [str_minus]
  cases h1 : neg p with
  | true => exact h.mpr h1
  | false =>
    cases h2 : Txt.startswith (SX.S p) (SX.S [45]) with
    | false => rfl
    | true => rw [h.mp h2] at h1; cases h1
def slashL (o : Option (List Nat)) : List Nat := if o.isSome = true then [47] else []
theorem part_cut (L : List Nat) : Txt.partition (SX.S L) (Str.ofString "/") = (SX.S (cutAt L).1, SX.S (slashL (cutAt L).2), SX.S ((cutAt L).2.getD [])) := by
  rw [str_stroke]
  cases h : (cutAt L).2 with
  | none =>
    obtain ⟨e, n⟩ := cutAt_none h
    rw [e]
    exact SX.partition_none (by decide) (TL.par_none1 n)
  | some q =>
    obtain ⟨e, n⟩ := cutAt_some h
    have z := SX.partition_some (a := (cutAt L).1 ++ ([47] ++ q)) (b := [47]) (by decide) (SX.par_head (sep := []) q n)
    have e' : L = (cutAt L).1 ++ ([47] ++ q) := e
    rw [← e'] at z
    exact z
theorem cut_len (L : List Nat) : (cutAt L).1.length ≤ L.length ∧ ((cutAt L).2.getD []).length ≤ L.length := by
  cases h : (cutAt L).2 with
  | none =>
    obtain ⟨e, n⟩ := cutAt_none h
    rw [e]
    exact ⟨Nat.le_refl _, Nat.zero_le _⟩
  | some q =>
    obtain ⟨e, n⟩ := cutAt_some h
    have l : L.length = (cutAt L).1.length + (1 + q.length) := by
      conv => lhs; rw [e]
      rw [List.length_append, List.length_cons]
      omega
    constructor
    · omega
    · show q.length ≤ _
      omega
theorem bare_len (L : List Nat) : (bare L).length ≤ L.length := by
  unfold bare
  split
  · rw [List.length_drop]; omega
  · exact Nat.le_refl _
theorem val_lt : ∀ (n : Nat) (A : List Nat), A.length = n → NumText.AllDigits A → NumText.digitsVal A < 10 ^ n := by
  intro n
  induction n with
  | zero =>
    intro A h _
    rw [List.length_eq_zero_iff.mp h]
    decide
  | succ n ih =>
    intro A h hd
    have hne : A ≠ [] := fun z => by rw [z] at h; cases h
    obtain ⟨B, c, rfl⟩ : ∃ B c, A = B ++ [c] := ⟨A.dropLast, A.getLast hne, (List.dropLast_concat_getLast hne).symm⟩
    rw [val_snoc]
    have hc := hd c (List.mem_append_right _ (List.mem_singleton.mpr rfl))
    have := ih B (by rw [List.length_append] at h; simpa using h) (fun x hx => hd x (List.mem_append_left _ hx))
    rw [Nat.pow_succ]
    omega
theorem fig_lt {A : List Nat} {a : Nat} (h : fig A = some a) : a < 10 ^ 12 := by
  obtain ⟨_, l, d, e⟩ := fig_some h
  rw [e]
  exact Nat.lt_of_lt_of_le (val_lt _ A rfl (allDig d)) (Nat.pow_le_pow_right (by decide) l)
theorem lt60 {t : Int} (h : t.natAbs < 10 ^ 12) : t.natAbs < 10 ^ 60 := Nat.lt_of_lt_of_le h (Nat.pow_le_pow_right (by decide) (by decide))
def spRead (C : Addr) : Sp := fun vs H Q E => ∃ L : List Nat, vs = [.str (SX.S L)] ∧ L.length ≤ 1000 ∧ (∀ t d, readP L = some (t, d) → newSh H Q t d) ∧ (readP L = none → raises H E C "BadShare")
theorem newSh.same {H H1 : Hp} {Q : VK} {t b : Int} (s : Same H H1) (q : newSh H Q t b) : newSh H1 Q t b := fun p H' s' n e => q p H' (s.trans s') (s.free n) e
section
variable {P : Program} {w : World} {K : PySem.W.Frag} {mg : Str → Option Value} {base : Heap} {CN C C2 fN fI : Addr}
theorem ok_read {f : Addr} {fd fdI : FuncData} (F : Fun K "read_share" "read_share" sRead f fd) (R : Errs K mg "BadShare" CN C fN fI)
    (GI : FnOk P w K mg base CX0 2 fI fdI ["self"] (spBN C "BadShare")) (bI : Binds K fdI ["self"] [])
    (GF : CalX P w K mg base 4 "read_figures" (spFigs C) []) (GS : CalX P w K mg base 4 "share" (spShare C2) []) (GT : C8.Cal P w K mg base 2 "share_text" (spText K) []) :
    FnOk P w K mg base (L2N.CX P w) 5 f fd ["text"] (spRead C) := by
  refine Fun.okN F scRead (fun vs H Q E h => ?_) (fun cdv A outer s H vs Q E hr h => ?_)
  · obtain ⟨L, rfl, _⟩ := h
    rfl
  · obtain ⟨L, rfl, hl0, q1, q0⟩ := h
    have hl : (SX.S L).length ≤ sizeLine := by rw [SX.S_len, sizeLine_eq]; omega
    refine ⟨_, pss_cons (ps_asg (pe_partition (pv 0) pe_str) (pg_tup rfl (pgs_cons (pg_name (i := 1) scRead.nd rfl (.inl rfl)) (pgs_cons (pg_name (i := 2) scRead.nd rfl (.inl rfl)) (pgs_cons (pg_name (i := 3) scRead.nd rfl (.inl rfl)) pgs_nil)))))
      (pss_cons (ps_set (i := 4) scRead.nd rfl (.inl rfl) (pe_m1 PySem.F.slot_str_startswith PySem.F.type_str_startswith mt_startswith (pv 1) pe_str))
      (pss_cons (ps_set (i := 5) scRead.nd rfl (.inl rfl) (pe_cxE GF hr (by decide) (L2N.passes_call (L2N.takes_of rfl rfl rfl rfl) (fun _ _ _ _ z => z)) (by rfl) (pa_cons (pe_ifExp (pt_val (pv 4)) (pe_slice C8.sl_txt (pv 1) (po_some pe_int) po_none) (pv 1)) pa_nil)))
      (pss_cons (ps_set (i := 6) scRead.nd rfl (.inl rfl) (pe_ifExp (pt_truth (pv 2) (fun _ => rfl)) (pe_cxE GF hr (by decide) (L2N.passes_call (L2N.takes_of rfl rfl rfl rfl) (fun _ _ _ _ z => z)) (by rfl) (pa_cons (pv 3) pa_nil)) pe_int))
      (pss_cons (ps_if (pt_cmpR op_eq (pv 6) pe_int (nomark _)) (pss_one (L2N.ps_raise rfl (L2N.takes_of rfl rfl rfl rfl) (pmk_bareN R.oex R.iC R.tI GI (hr.mono (by decide)) bI pass0 (by rfl) R.gC))) pss_nil)
      (pss_cons (ps_set (i := 7) scRead.nd rfl (.inl rfl) (pe_cxE GS hr (by decide) (L2N.passes_call (L2N.takes_of rfl rfl rfl rfl) (fun _ _ _ _ z => z)) (by rfl) (pa_cons (pe_ifExp (pt_val (pv 4)) (pe_un un_neg (pv 5)) (pv 5)) (pa_cons (pv 6) pa_nil))))
      (pss_cons (ps_if (pt_cmpR op_ne (C8.pe_c GT hr (by decide) (by rfl) (pa_cons (pv 7) pa_nil)) (pv 0) (nomark _)) (pss_one (L2N.ps_raise rfl (L2N.takes_of rfl rfl rfl rfl) (pmk_bareN R.oex R.iC R.tI GI (hr.mono (by decide)) bI pass0 (by rfl) R.gC))) pss_nil)
      (pss_one (ps_ret (pv 7))))))))), ?_⟩
    refine ⟨_, rfl, ⟨_, rfl⟩, _, _, rfl, rfl, by decide, hl, fun p0 n0 => ?_⟩
    rw [part_cut]
    have s0 := same_new (o := .tup [.str (SX.S (cutAt L).1), .str (SX.S (slashL (cutAt L).2)), .str (SX.S ((cutAt L).2.getD []))]) n0
    obtain ⟨l1, l2⟩ := cut_len L
    refine ⟨p0, _, rfl, SqT.of upd_same, rfl, _, _, rfl, _, _, rfl, _, _, rfl, rfl, ?_⟩
    refine ⟨_, rfl, ⟨_, rfl⟩, _, _, rfl, rfl, ?_⟩
    rw [starts_neg, neg_cut]
    have hbr : bare (cutAt L).1 = if neg L = true then (cutAt L).1.drop 1 else (cutAt L).1 := by
      unfold bare
      rw [neg_cut]
    have lb : (bare (cutAt L).1).length ≤ 1000 := Nat.le_trans (bare_len _) (by omega)
    have none1 : fig (bare (cutAt L).1) = none → readP L = none := fun z => by
      unfold readP
      rw [z, pairP_none]
    have none2 : botP (cutAt L).2 = none → readP L = none := fun z => by
      unfold readP
      rw [z, pairP_none2]
    refine keepN (fun σ' H' => ∃ a : Nat, σ' = [some (.str (SX.S L)), some (.str (SX.S (cutAt L).1)), some (.str (SX.S (slashL (cutAt L).2))), some (.str (SX.S ((cutAt L).2.getD []))), some (.bl (neg L)), some (.int a), none, none] ∧ Same H H' ∧ fig (bare (cutAt L).1) = some a) (fun σ' H' hM => ?_) (fun rest => ?_)
    · obtain ⟨a, rfl, s1, ha⟩ := hM
      refine keep (fun σ' H' => ∃ b : Nat, σ' = [some (.str (SX.S L)), some (.str (SX.S (cutAt L).1)), some (.str (SX.S (slashL (cutAt L).2))), some (.str (SX.S ((cutAt L).2.getD []))), some (.bl (neg L)), some (.int a), some (.int b), none] ∧ Same H H' ∧ botP (cutAt L).2 = some b ∧ b < 10 ^ 12) (fun σ' H' hM => ?_) (fun rest => ?_)
      · obtain ⟨b, rfl, s2, hb, lb2⟩ := hM
        refine ⟨_, rfl, rfl, _, rfl, ite2 (fun c => ?_) (fun c => ?_)⟩
        · have e : (b : Int) = 0 := V.int.inj (of_decide_eq_true c)
          refine raise_bare ((q0 ?_).same s2)
          unfold readP
          rw [ha, hb]
          exact if_pos (by omega)
        · have e : (b : Int) ≠ 0 := fun z => c (by
            rw [z]
            exact decide_eq_true rfl)
          have e' : b ≠ 0 := by omega
          refine keepN (fun σ' H' => ∃ pt : Addr, σ' = [some (.str (SX.S L)), some (.str (SX.S (cutAt L).1)), some (.str (SX.S (slashL (cutAt L).2))), some (.str (SX.S ((cutAt L).2.getD []))), some (.bl (neg L)), some (.int a), some (.int b), some (.ref pt)] ∧ Same H H' ∧ H pt = none ∧ H' pt = some (.tup [.int (frT (sg (neg L) a) b), .int (frB (sg (neg L) a) b)])) (fun σ' H' hM => ?_) (fun rest => ?_)
          · obtain ⟨pt, rfl, s3, np, ep⟩ := hM
            have lA := fig_lt ha
            have t12 : (frT (sg (neg L) a) b).natAbs < 10 ^ 12 := Nat.lt_of_le_of_lt (frT_le _ e) (by rw [abs_sgn]; exact lA)
            have b12 : (frB (sg (neg L) a) b).natAbs < 10 ^ 12 := Nat.lt_of_le_of_lt (frB_le _ e) (by omega)
            refine ⟨_, rfl, pt, _, _, rfl, SqT.of ep, lt60 t12, frB_pos _ e, lt60 b12, fun H4 s4 => ?_⟩
            refine ⟨_, rfl, rfl, _, rfl, ite2 (fun c2 => ?_) (fun c2 => ?_)⟩
            · have ne : textL (frT (sg (neg L) a) b) (frB (sg (neg L) a) b) ≠ L := fun z => by
                rw [z, decide_eq_true rfl] at c2
                cases c2
              refine raise_bare ((q0 ?_).same (s3.trans s4))
              unfold readP
              rw [ha, hb]
              show (if b = 0 then none else if _ then _ else _) = none
              rw [if_neg e', if_neg ne]
            · have eq : textL (frT (sg (neg L) a) b) (frB (sg (neg L) a) b) = L := Classical.byContradiction fun z => c2 (by
                rw [decide_eq_false (fun y => z (congrArg TL.tl (V.str.inj y)))]
                rfl)
              refine ⟨_, rfl, q1 _ _ ?_ pt _ (s3.trans s4) np (s4 _ _ ep)⟩
              unfold readP
              rw [ha, hb]
              show (if b = 0 then none else if _ then _ else _) = _
              rw [if_neg e', if_pos eq]
          · have fin : ∀ (t : Int) (Qk : VK), t = sg (neg L) a → (∀ (pt : Addr) (H4 : Hp), Same H H4 → H pt = none → H4 pt = some (.tup [.int (frT (sg (neg L) a) b), .int (frB (sg (neg L) a) b)]) → Qk (.ref pt) H4) → spShare C2 ([.int t, .int b] ++ []) H' Qk E := fun t Qk et k => by
              subst et
              refine ⟨_, _, rfl, ?_, fun _ pt H4 s4 n4 e4 => k pt H4 (s2.trans s4) (s2.free n4) e4, fun z => absurd z e⟩
              exact Nat.lt_of_lt_of_le (by omega : (b : Int).natAbs < 10 ^ 12) (Nat.le_trans (show 10 ^ 12 ≤ 2 ^ 45 by decide) (Nat.pow_le_pow_right (by decide) (by decide)))
            have rest' : ∀ (pt : Addr) (H4 : Hp), Same H H4 → H pt = none → H4 pt = some (.tup [.int (frT (sg (neg L) a) b), .int (frB (sg (neg L) a) b)]) → _ := fun pt H4 s4 n4 e4 => rest _ H4 ⟨pt, rfl, s4, n4, e4⟩
            refine ⟨_, rfl, _, rfl, ite2 (fun c3 => ?_) (fun c3 => ?_)⟩
            · refine ⟨_, rfl, a, rfl, _, rfl, fin _ _ ?_ rest'⟩
              unfold sg
              rw [if_pos c3]
            · refine ⟨_, rfl, _, rfl, fin _ _ ?_ rest'⟩
              unfold sg
              rw [if_neg c3]
      · cases ho : (cutAt L).2 with
        | none =>
          rw [ho] at rest
          refine ⟨_, rfl, _, ⟨?_, rfl⟩, iteF (rest _ _ ⟨1, rfl, s1, rfl, by decide⟩)⟩
          decide
        | some B =>
          rw [ho] at rest l2 none2
          refine ⟨_, rfl, _, ⟨?_, rfl⟩, iteT ⟨_, rfl, B, rfl, Nat.le_trans l2 hl0, fun b hb H4 s4 => rest _ _ ⟨b, rfl, s1.trans s4, hb, fig_lt hb⟩, fun z => (q0 (none2 z)).same s1⟩⟩
          show 1 ≤ sizeLine
          decide
    · refine ⟨_, rfl, _, rfl, ite2 (fun c => ?_) (fun c => ?_)⟩
      · refine ⟨_, rfl, _, rfl, _, rfl, ?_, bare (cutAt L).1, ?_, lb, fun a ha H' s' => rest _ _ ⟨a, rfl, s0.trans s', ha⟩, fun z => (q0 (none1 z)).same s0⟩
        · show (SX.S (cutAt L).1).length ≤ sizeLine
          rw [SX.S_len, sizeLine_eq]
          omega
        · rw [hbr, if_pos c]
          exact congrArg (fun z => [V.str z]) (SX.slice_from (by decide))
      · refine ⟨_, rfl, bare (cutAt L).1, ?_, lb, fun a ha H' s' => rest _ _ ⟨a, rfl, s0.trans s', ha⟩, fun z => (q0 (none1 z)).same s0⟩
        rw [hbr, if_neg c]
        rfl
end
end Nv

set_option maxRecDepth 100000
set_option maxHeartbeats 8000000
namespace Nv
open PySem PySem.Spec PyProof.Rows L2 LamX
theorem text_len {t d : Int} (ht : t.natAbs < 10 ^ 12) (hd : d.natAbs < 10 ^ 12) : (textL t d).length ≤ 26 := by
  have lt : (TL.numL t.natAbs).length ≤ 12 := TL.numL_len (by decide) ht
  have ld : (TL.numL d.natAbs).length ≤ 12 := TL.numL_len (by decide) hd
  unfold textL
  rw [List.length_append, List.length_append]
  have h1 : (if t < 0 then [45] else [] : List Nat).length ≤ 1 := by split <;> decide
  have h2 : (if d ≠ 1 then 47 :: TL.numL d.natAbs else [] : List Nat).length ≤ 13 := by
    split
    · rw [List.length_cons]; omega
    · decide
  omega
/-! the writing -/
def Op.lev : Op → Nat
  | .times => 2
  | _ => 1
def Op.sgn : Op → List Nat
  | .plus => [32, 43, 32]
  | .less => [32, 45, 32]
  | .times => [42]
def AT.bind : AT → Nat
  | .two _ o _ _ => o.lev
  | .un _ _ => 3
  | _ => 4
def inB (x : List Nat) : List Nat := 40 :: (x ++ [41])
def AT.wrL : AT → Bool → List Nat
  | .le _ x, _ => x.cps.toList
  | .sh _ _ t d, f => if f = true ∨ 0 ≤ t then textL t d else inB (textL t d)
  | .un _ A, _ => 126 :: (if A.bind < 3 then inB (A.wrL true) else A.wrL false)
  | .two _ o A B, f => (if A.bind < o.lev then inB (A.wrL true) else A.wrL f) ++ o.sgn ++ (if B.bind < o.lev + 1 then inB (B.wrL true) else B.wrL false)
def AT.heldL (A : AT) (k : Nat) (f : Bool) : List Nat := if A.bind < k then inB (A.wrL true) else A.wrL f
theorem inB_len (x : List Nat) : (inB x).length = x.length + 2 := by
  unfold inB
  rw [List.length_cons, List.length_append]
  rfl
theorem wr_len : ∀ {T : AT}, T.Ok → ∀ f, (T.wrL f).length ≤ 40 * T.count
  | .le _ x, ok, f => by
    have h : x.length ≤ 6 := (show Small x from ok).hi
    show x.cps.toList.length ≤ 40
    have : x.cps.toList.length = x.length := Array.length_toList
    omega
  | .sh _ _ t d, ok, f => by
    have ok : ShOk t d := ok
    have l := text_len ok.top (show d.natAbs < 10 ^ 12 by have := ok.bot; have := ok.pos; omega)
    show (if f = true ∨ 0 ≤ t then textL t d else inB (textL t d)).length ≤ 40
    split
    · omega
    · rw [inB_len]; omega
  | .un _ A, ok, f => by
    have h1 := wr_len (T := A) ok true
    have h2 := wr_len (T := A) ok false
    show (126 :: (if A.bind < 3 then inB (A.wrL true) else A.wrL false)).length ≤ 40 * (1 + A.count)
    rw [List.length_cons]
    split
    · rw [inB_len]; omega
    · omega
  | .two _ o A B, ok, f => by
    have a1 := wr_len (T := A) ok.1 true
    have a2 := wr_len (T := A) ok.1 f
    have b1 := wr_len (T := B) ok.2 true
    have b2 := wr_len (T := B) ok.2 false
    have s : o.sgn.length ≤ 3 := by cases o <;> decide
    show ((if A.bind < o.lev then inB (A.wrL true) else A.wrL f) ++ o.sgn ++ (if B.bind < o.lev + 1 then inB (B.wrL true) else B.wrL false)).length ≤ 40 * (1 + A.count + B.count)
    rw [List.length_append, List.length_append]
    have ha : (if A.bind < o.lev then inB (A.wrL true) else A.wrL f).length ≤ 40 * A.count + 2 := by
      split
      · rw [inB_len]; omega
      · omega
    have hb : (if B.bind < o.lev + 1 then inB (B.wrL true) else B.wrL false).length ≤ 40 * B.count + 2 := by
      split
      · rw [inB_len]; omega
      · omega
    omega
theorem str_open : Str.ofString "(" = SX.S [40] := by decide +kernel
theorem str_shut : Str.ofString ")" = SX.S [41] := by decide +kernel
theorem str_wave : Str.ofString "~" = SX.S [126] := by decide +kernel
theorem AT.In.items {H : Hp} : ∀ {T : AT}, T.In H → H T.at_ = some (.tup T.items)
  | .sh _ _ _ _, h => h.1
  | .le _ _, h => h
  | .two _ _ _ _, h => h.1
  | .un _ _, h => h.1
theorem if_f {b : Bool} {A B : Prop} (h : b = false) (q : B) : if b = true then A else B := by
  rw [h]
  exact q
theorem eE : Str.empty = SX.S [] := by decide +kernel
theorem if_t {b : Bool} {A B : Prop} (h : b = true) (q : A) : if b = true then A else B := by
  rw [h]
  exact q
end Nv

set_option maxRecDepth 100000
set_option maxHeartbeats 8000000
namespace Nv
open PySem PySem.Spec PyProof.Rows L2 LamX
abbrev sBnd : Stmt := topS 81
theorem scBnd : FnScope ["_law_term"] ["_law_term"] (defScope sBnd) := ⟨rfl, rfl, rfl, by decide +kernel, rfl, by decide +kernel, by decide +kernel⟩
theorem upd_twice {H : Hp} {x : Addr} {o u : HO} : upd (upd H x o) x u = upd H x u := by
  funext a
  by_cases z : a = x
  · rw [z, upd_same, upd_same]
  · rw [upd_ne z, upd_ne z, upd_ne z]
theorem bnd_at (x : Str) (n : Nat) (h : ((valV (mergeK [] [(Sum.inr (Str.ofString "plus"), V.int 1), (Sum.inr (Str.ofString "less"), .int 1), (Sum.inr (Str.ofString "times"), .int 2), (Sum.inr (Str.ofString "undo"), .int 3)]) (Sum.inr x : Key)).getD (.int 4)) = .int (n : Int)) :
    ((valV (mergeK [] [(Sum.inr (Str.ofString "plus"), V.int 1), (Sum.inr (Str.ofString "less"), .int 1), (Sum.inr (Str.ofString "times"), .int 2), (Sum.inr (Str.ofString "undo"), .int 3)]) (Sum.inr x : Key)).getD (.int 4)) = .int (n : Int) := h
def spBnd : Sp := fun vs H Q _ => ∃ T : AT, vs = [T.v] ∧ T.In H ∧ ∀ H', Same H H' → Q (.int (T.bind : Int)) H'
section
variable {P : Program} {w : World} {K : PySem.W.Frag} {mg : Str → Option Value} {base : Heap}
theorem ok_bnd {f : Addr} {fd : FuncData} {k : Nat} (F : Fun K "_law_bind" "_law_bind" sBnd f fd) : FnOk P w K mg base CX0 (k + 1) f fd ["_law_term"] spBnd := by
  refine F.ok scBnd (fun vs H Q E h => ?_) (fun cdv A outer s H vs Q E hr h => ?_)
  · obtain ⟨T, rfl, _⟩ := h
    rfl
  · obtain ⟨T, rfl, hin, q⟩ := h
    refine ⟨_, pss_one (ps_ret (pe_dget2 (hu_of hr) (pe_disp (pps_cons pe_str pe_int (pps_cons pe_str pe_int (pps_cons pe_str pe_int (pps_cons pe_str pe_int pps_nil)))) (by rfl) (by rfl) (fun z => by cases z) (by decide)) (pe_ix ix_tup (pv 0) pe_int (fun _ _ => rfl)) pe_int ⟨rfl, rfl, rfl, rfl⟩)), ?_⟩
    intro p np
    have s1 := same_new (o := .dK []) np
    refine ⟨upd_same, [(Sum.inr "plus", .int 1), (Sum.inr "less", .int 1), (Sum.inr "times", .int 2), (Sum.inr "undo", .int 3)], rfl, by decide, p, rfl, .inl ⟨_, .inl upd_same⟩, ?_⟩
    rw [upd_twice]
    have s2 := same_new (o := .dK (mergeK [] [(Sum.inr (Str.ofString "plus"), V.int 1), (Sum.inr (Str.ofString "less"), .int 1), (Sum.inr (Str.ofString "times"), .int 2), (Sum.inr (Str.ofString "undo"), .int 3)])) np
    refine ⟨_, rfl, T.at_, _, 0, .str T.word, rfl, rfl, SqT.of (s2 _ _ hin.items), atI_nat (j := 0) rfl, _, DGet.k (k := Sum.inr T.word) upd_same, ?_⟩
    have e : ((valV (mergeK [] [(Sum.inr (Str.ofString "plus"), V.int 1), (Sum.inr (Str.ofString "less"), .int 1), (Sum.inr (Str.ofString "times"), .int 2), (Sum.inr (Str.ofString "undo"), .int 3)]) (Sum.inr T.word : Key)).getD (.int 4)) = .int (T.bind : Int) := by
      cases T with
      | two p o A B =>
        cases o
        · exact bnd_at "plus" 1 (by decide +kernel)
        · exact bnd_at "less" 1 (by decide +kernel)
        · exact bnd_at "times" 2 (by decide +kernel)
      | un p A => exact bnd_at "undo" 3 (by decide +kernel)
      | le p x => exact bnd_at "letter" 4 (by decide +kernel)
      | sh p q t d => exact bnd_at "share" 4 (by decide +kernel)
    rw [e]
    exact q _ s2
end
end Nv

set_option maxRecDepth 100000
set_option maxHeartbeats 8000000
namespace Nv
open PySem PySem.Spec PyProof.Rows L2 LamX
/-! the reading, as a machine over signs -/
inductive Wd where
  | br
  | op (o : Op)
  | undo
def Wd.word : Wd → Str
  | .br => "("
  | .op o => o.word
  | .undo => "undo"
def Wd.lev : Wd → Nat
  | .br => 0
  | .op o => o.lev
  | .undo => 3
inductive Lf where
  | sh (t d : Int)
  | le (x : Str)
inductive Pc where
  | lf (l : Lf)
  | op (w : Wd)
inductive Tk where
  | opn
  | sht
  | wav
  | lf (l : Lf)
  | op (o : Op)
def Op.chr : Op → Nat
  | .plus => 43
  | .less => 45
  | .times => 42
def Lf.chars : Lf → List Nat
  | .sh t d => textL t d
  | .le x => x.cps.toList
def Lf.Ok : Lf → Prop
  | .sh t d => ShOk t d
  | .le x => Small x
def Tk.chars : Tk → List Nat
  | .opn => [40]
  | .sht => [41]
  | .wav => [126]
  | .lf l => l.chars
  | .op o => [o.chr]
structure RS where
  st : Bool
  D : List Pc
  W : List Wd
  br : Nat
  fr : Bool
def settle (k : Nat) : List Pc → List Wd → List Pc × List Wd
  | D, [] => (D, [])
  | D, w :: W => if k ≤ w.lev then settle k (D ++ [.op w]) W else (D, w :: W)
def Lf.neg : Lf → Bool
  | .sh t _ => decide (t < 0)
  | _ => false
def RS.step : Tk → RS → Option RS
  | .opn, ⟨false, D, W, br, _⟩ => if br < 12 then some ⟨false, D, .br :: W, br + 1, true⟩ else none
  | .wav, ⟨false, D, W, br, _⟩ => some ⟨false, D, .undo :: W, br, false⟩
  | .lf l, ⟨false, D, W, br, fr⟩ => if l.neg = true → fr = true then some ⟨true, D ++ [.lf l], W, br, false⟩ else none
  | .sht, ⟨true, D, W, br, fr⟩ => if 0 < br then (match settle 1 D W with
    | (D2, .br :: W2) => some ⟨true, D2, W2, br - 1, fr⟩
    | _ => none) else none
  | .op o, ⟨true, D, W, br, fr⟩ => some ⟨false, (settle o.lev D W).1, .op o :: (settle o.lev D W).2, br, fr⟩
  | _, _ => none
def RS.run : List Tk → RS → Option RS
  | [], s => some s
  | k :: ks, s => (s.step k).bind (RS.run ks)
def TopLt (k : Nat) : List Wd → Prop
  | [] => True
  | w :: _ => w.lev < k
theorem settle_pass {k : Nat} : ∀ {P : List Wd} {W : List Wd} {D : List Pc}, (∀ w ∈ P, k ≤ w.lev) → TopLt k W → settle k D (P ++ W) = (D ++ P.map .op, W)
  | [], [], D, _, _ => by
    show (D, _) = _
    simp
  | [], w :: W, D, _, h => by
    show (if k ≤ w.lev then settle k (D ++ [.op w]) W else (D, w :: W)) = _
    have h : w.lev < k := h
    rw [if_neg (by omega)]
    simp
  | p :: P, W, D, hp, h => by
    show (if k ≤ p.lev then settle k (D ++ [.op p]) (P ++ W) else _) = _
    rw [if_pos (hp p List.mem_cons_self), settle_pass (fun w hw => hp w (List.mem_cons_of_mem _ hw)) h]
    simp
def brk (l : List Tk) : List Tk := .opn :: (l ++ [.sht])
def AT.tks : AT → Bool → List Tk
  | .le _ x, _ => [.lf (.le x)]
  | .sh _ _ t d, f => if f = true ∨ 0 ≤ t then [.lf (.sh t d)] else brk [.lf (.sh t d)]
  | .un _ A, _ => .wav :: (if A.bind < 3 then brk (A.tks true) else A.tks false)
  | .two _ o A B, f => (if A.bind < o.lev then brk (A.tks true) else A.tks f) ++ .op o :: (if B.bind < o.lev + 1 then brk (B.tks true) else B.tks false)
def AT.post : AT → List Pc
  | .le _ x => [.lf (.le x)]
  | .sh _ _ t d => [.lf (.sh t d)]
  | .un _ A => A.post ++ [.op .undo]
  | .two _ o A B => A.post ++ B.post ++ [.op (.op o)]
/-- how deep its brackets go -/
def AT.nst : AT → Bool → Nat
  | .le _ _, _ => 0
  | .sh _ _ t _, f => if f = true ∨ 0 ≤ t then 0 else 1
  | .un _ A, _ => if A.bind < 3 then 1 + A.nst true else A.nst false
  | .two _ o A B, f => max (if A.bind < o.lev then 1 + A.nst true else A.nst f) (if B.bind < o.lev + 1 then 1 + B.nst true else B.nst false)
theorem Op.lev_le (o : Op) : 1 ≤ o.lev ∧ o.lev ≤ 2 := by cases o <;> decide
theorem AT.bind_pos : ∀ T : AT, 1 ≤ T.bind
  | .two _ o _ _ => o.lev_le.1
  | .un _ _ => by show 1 ≤ 3; omega
  | .le _ _ => by show 1 ≤ 4; omega
  | .sh _ _ _ _ => by show 1 ≤ 4; omega
/-- what reading a reckoning's signs does -/
def Reads (T : AT) (f : Bool) : Prop := ∀ (D : List Pc) (W : List Wd) (br : Nat) (fr : Bool) (ks : List Tk), (f = true → fr = true) → (T.bind ≤ 2 → TopLt T.bind W) → br + T.nst f ≤ 12 →
  ∃ (P : List Wd) (Q : List Pc) (fr2 : Bool), RS.run (T.tks f ++ ks) ⟨false, D, W, br, fr⟩ = RS.run ks ⟨true, D ++ Q, P ++ W, br, fr2⟩ ∧ (∀ w ∈ P, T.bind ≤ w.lev) ∧ Q ++ P.map .op = T.post
theorem reads_brk {T : AT} (h : Reads T true) (D : List Pc) (W : List Wd) (br : Nat) (fr : Bool) (ks : List Tk) (hb : br + (1 + T.nst true) ≤ 12) : ∃ fr2, RS.run (brk (T.tks true) ++ ks) ⟨false, D, W, br, fr⟩ = RS.run ks ⟨true, D ++ T.post, W, br, fr2⟩ := by
  obtain ⟨P, Q, fr2, e, hP, hQ⟩ := h D (.br :: W) (br + 1) true (.sht :: ks) (fun _ => rfl) (fun _ => T.bind_pos) (by omega)
  refine ⟨fr2, ?_⟩
  have e1 : RS.run (brk (T.tks true) ++ ks) ⟨false, D, W, br, fr⟩ = RS.run (T.tks true ++ .sht :: ks) ⟨false, D, .br :: W, br + 1, true⟩ := by
    show ((if br < 12 then some (⟨false, D, .br :: W, br + 1, true⟩ : RS) else none).bind (RS.run ((T.tks true ++ [.sht]) ++ ks))) = _
    rw [if_pos (by omega), List.append_assoc]
    rfl
  rw [e1, e]
  have s := settle_pass (k := 1) (P := P) (W := .br :: W) (D := D ++ Q) (fun w hw => Nat.le_trans T.bind_pos (hP w hw)) (show 0 < 1 by decide)
  show ((if 0 < br + 1 then (match settle 1 (D ++ Q) (P ++ .br :: W) with
    | (D2, .br :: W2) => some (⟨true, D2, W2, br + 1 - 1, fr2⟩ : RS)
    | _ => none) else none).bind (RS.run ks)) = _
  rw [if_pos (by omega), s, List.append_assoc, hQ]
  rfl
theorem reads : ∀ (T : AT) (f : Bool), Reads T f
  | .le p x, f => fun D W br fr ks hf ht hb => ⟨[], [.lf (.le x)], false, rfl, fun _ h => (nomatch h), rfl⟩
  | .sh p q t d, f => fun D W br fr ks hf ht hb => by
    by_cases c : f = true ∨ 0 ≤ t
    · refine ⟨[], [.lf (.sh t d)], false, ?_, fun _ h => (nomatch h), rfl⟩
      show RS.run ((if f = true ∨ 0 ≤ t then [.lf (.sh t d)] else brk [.lf (.sh t d)]) ++ ks) _ = _
      rw [if_pos c]
      show ((if (decide (t < 0) = true → fr = true) then some (⟨true, D ++ [.lf (.sh t d)], W, br, false⟩ : RS) else none).bind (RS.run ks)) = _
      rw [if_pos (fun z => c.elim hf (fun y => absurd (of_decide_eq_true z) (by omega)))]
      rfl
    · have hn : (AT.sh p q t d).nst f = 1 := if_neg c
      rw [hn] at hb
      refine ⟨[], [.lf (.sh t d)], false, ?_, fun _ h => (nomatch h), rfl⟩
      show RS.run ((if f = true ∨ 0 ≤ t then [.lf (.sh t d)] else brk [.lf (.sh t d)]) ++ ks) _ = _
      rw [if_neg c]
      show ((if br < 12 then some (⟨false, D, .br :: W, br + 1, true⟩ : RS) else none).bind (RS.run ([.lf (.sh t d), .sht] ++ ks))) = _
      rw [if_pos (by omega)]
      show ((if (decide (t < 0) = true → true = true) then some (⟨true, D ++ [.lf (.sh t d)], .br :: W, br + 1, false⟩ : RS) else none).bind (RS.run (.sht :: ks))) = _
      rw [if_pos (fun _ => rfl)]
      show ((if 0 < br + 1 then some (⟨true, D ++ [.lf (.sh t d)], W, br + 1 - 1, false⟩ : RS) else none).bind (RS.run ks)) = _
      rw [if_pos (by omega)]
      rfl
  | .un p A, f => fun D W br fr ks hf ht hb => by
    have hb : br + (if A.bind < 3 then 1 + A.nst true else A.nst false) ≤ 12 := hb
    have e0 : RS.run ((AT.un p A).tks f ++ ks) ⟨false, D, W, br, fr⟩ = RS.run ((if A.bind < 3 then brk (A.tks true) else A.tks false) ++ ks) ⟨false, D, .undo :: W, br, false⟩ := rfl
    rw [e0]
    by_cases c : A.bind < 3
    · rw [if_pos c] at hb
      rw [if_pos c]
      obtain ⟨fr2, e⟩ := reads_brk (reads A true) D (.undo :: W) br false ks hb
      exact ⟨[.undo], A.post, fr2, e, fun w hw => by rw [List.mem_singleton.mp hw]; exact Nat.le_refl 3, rfl⟩
    · rw [if_neg c] at hb
      rw [if_neg c]
      obtain ⟨P, Q, fr2, e, hP, hQ⟩ := reads A false D (.undo :: W) br false ks (fun z => nomatch z) (fun z => absurd z (by omega)) hb
      refine ⟨P ++ [.undo], Q, fr2, ?_, fun w hw => ?_, ?_⟩
      · rw [e, List.append_assoc]
        rfl
      · rcases List.mem_append.mp hw with h | h
        · exact Nat.le_trans (show 3 ≤ A.bind by omega) (hP w h)
        · rw [List.mem_singleton.mp h]; exact Nat.le_refl 3
      · rw [List.map_append, ← List.append_assoc, hQ]
        rfl
  | .two p o A B, f => fun D W br fr ks hf ht hb => by
    have lo := o.lev_le
    have ht : TopLt o.lev W := ht lo.2
    have hb : br + max (if A.bind < o.lev then 1 + A.nst true else A.nst f) (if B.bind < o.lev + 1 then 1 + B.nst true else B.nst false) ≤ 12 := hb
    have hbA : br + (if A.bind < o.lev then 1 + A.nst true else A.nst f) ≤ 12 := Nat.le_trans (Nat.add_le_add_left (Nat.le_max_left _ _) _) hb
    have hbB : br + (if B.bind < o.lev + 1 then 1 + B.nst true else B.nst false) ≤ 12 := Nat.le_trans (Nat.add_le_add_left (Nat.le_max_right _ _) _) hb
    have e0 : (AT.two p o A B).tks f ++ ks = (if A.bind < o.lev then brk (A.tks true) else A.tks f) ++ (.op o :: ((if B.bind < o.lev + 1 then brk (B.tks true) else B.tks false) ++ ks)) := by
      show ((if A.bind < o.lev then brk (A.tks true) else A.tks f) ++ .op o :: (if B.bind < o.lev + 1 then brk (B.tks true) else B.tks false)) ++ ks = _
      rw [List.append_assoc]
      rfl
    rw [e0]
    have first : ∃ fr2, RS.run ((if A.bind < o.lev then brk (A.tks true) else A.tks f) ++ (.op o :: ((if B.bind < o.lev + 1 then brk (B.tks true) else B.tks false) ++ ks))) ⟨false, D, W, br, fr⟩ =
        RS.run ((if B.bind < o.lev + 1 then brk (B.tks true) else B.tks false) ++ ks) ⟨false, D ++ A.post, .op o :: W, br, fr2⟩ := by
      by_cases c : A.bind < o.lev
      · rw [if_pos c] at hbA
        rw [if_pos c]
        obtain ⟨fr2, e⟩ := reads_brk (reads A true) D W br fr (.op o :: ((if B.bind < o.lev + 1 then brk (B.tks true) else B.tks false) ++ ks)) hbA
        refine ⟨fr2, ?_⟩
        rw [e]
        have s := settle_pass (k := o.lev) (P := []) (W := W) (D := D ++ A.post) (fun _ h => nomatch h) ht
        show RS.run _ ⟨false, (settle o.lev (D ++ A.post) ([] ++ W)).1, .op o :: (settle o.lev (D ++ A.post) ([] ++ W)).2, br, fr2⟩ = _
        rw [s, List.map_nil, List.append_nil]
      · rw [if_neg c] at hbA
        rw [if_neg c]
        obtain ⟨P, Q, fr2, e, hP, hQ⟩ := reads A f D W br fr (.op o :: ((if B.bind < o.lev + 1 then brk (B.tks true) else B.tks false) ++ ks)) hf (fun _ => by
          cases W with
          | nil => trivial
          | cons w W => exact Nat.lt_of_lt_of_le (show w.lev < o.lev from ht) (by omega)) hbA
        refine ⟨fr2, ?_⟩
        rw [e]
        have s := settle_pass (k := o.lev) (P := P) (W := W) (D := D ++ Q) (fun w hw => Nat.le_trans (by omega) (hP w hw)) ht
        show RS.run _ ⟨false, (settle o.lev (D ++ Q) (P ++ W)).1, .op o :: (settle o.lev (D ++ Q) (P ++ W)).2, br, fr2⟩ = _
        rw [s, List.append_assoc, hQ]
    obtain ⟨fr2, e1⟩ := first
    rw [e1]
    by_cases c : B.bind < o.lev + 1
    · rw [if_pos c] at hbB
      rw [if_pos c]
      obtain ⟨fr3, e⟩ := reads_brk (reads B true) (D ++ A.post) (.op o :: W) br fr2 ks hbB
      refine ⟨[.op o], A.post ++ B.post, fr3, ?_, fun w hw => by rw [List.mem_singleton.mp hw]; exact Nat.le_refl _, rfl⟩
      rw [e, List.append_assoc]
      rfl
    · rw [if_neg c] at hbB
      rw [if_neg c]
      obtain ⟨P, Q, fr3, e, hP, hQ⟩ := reads B false (D ++ A.post) (.op o :: W) br fr2 ks (fun z => nomatch z) (fun _ => show o.lev < B.bind by omega) hbB
      refine ⟨P ++ [.op o], A.post ++ Q, fr3, ?_, fun w hw => ?_, ?_⟩
      · rw [e, List.append_assoc, List.append_assoc]
        rfl
      · rcases List.mem_append.mp hw with h | h
        · exact Nat.le_trans (show o.lev ≤ B.bind by omega) (hP w h)
        · rw [List.mem_singleton.mp h]; exact Nat.le_refl _
      · rw [List.map_append, ← List.append_assoc, List.append_assoc A.post, hQ]
        rfl
theorem nst_le : ∀ (T : AT) (f : Bool), (T.bind ≤ 2 → 2 * T.nst f ≤ T.count) ∧ 2 * T.nst f ≤ T.count + 1
  | .le _ _, f => ⟨fun z => absurd z (by show ¬ 4 ≤ 2; omega), by show 2 * 0 ≤ _; omega⟩
  | .sh p q t d, f => ⟨fun z => absurd z (by show ¬ 4 ≤ 2; omega), by
      show 2 * (if f = true ∨ 0 ≤ t then 0 else 1) ≤ 1 + 1
      split <;> omega⟩
  | .un _ A, f => ⟨fun z => absurd z (by show ¬ 3 ≤ 2; omega), by
      have h1 := nst_le A true
      have h2 := nst_le A false
      show 2 * (if A.bind < 3 then 1 + A.nst true else A.nst false) ≤ 1 + A.count + 1
      split
      · have := h1.1 (by omega)
        omega
      · omega⟩
  | .two _ o A B, f => by
      have a1 := nst_le A true
      have a2 := nst_le A f
      have b1 := nst_le B true
      have b2 := nst_le B false
      have lo := o.lev_le
      have pa : 1 ≤ A.count := A.count_pos
      have pb : 1 ≤ B.count := B.count_pos
      have hA : 2 * (if A.bind < o.lev then 1 + A.nst true else A.nst f) ≤ 1 + A.count + B.count := by
        split
        · have := a1.1 (by omega)
          omega
        · omega
      have hB : 2 * (if B.bind < o.lev + 1 then 1 + B.nst true else B.nst false) ≤ 1 + A.count + B.count := by
        split
        · have := b1.1 (by omega)
          omega
        · omega
      have m : 2 * max (if A.bind < o.lev then 1 + A.nst true else A.nst f) (if B.bind < o.lev + 1 then 1 + B.nst true else B.nst false) ≤ 1 + A.count + B.count := by
        generalize (if A.bind < o.lev then 1 + A.nst true else A.nst f) = u at hA ⊢
        generalize (if B.bind < o.lev + 1 then 1 + B.nst true else B.nst false) = v at hB ⊢
        omega
      exact ⟨fun _ => m, Nat.le_succ_of_le m⟩
end Nv

set_option maxRecDepth 100000
set_option maxHeartbeats 8000000
namespace Nv
open PySem PySem.Spec PyProof.Rows L2 LamX
/-! texts of signs, with blanks ahead of each and behind the last -/
def blk (n : Nat) : List Nat := List.replicate n 32
def rend : List (Nat × Tk) → Nat → List Nat
  | [], e => blk e
  | (b, k) :: r, e => blk b ++ (k.chars ++ rend r e)
theorem rend_app : ∀ (A B : List (Nat × Tk)) (e : Nat), rend (A ++ B) e = rend A 0 ++ rend B e
  | [], B, e => rfl
  | (b, k) :: A, B, e => by
    show blk b ++ (k.chars ++ rend (A ++ B) e) = (blk b ++ (k.chars ++ rend A 0)) ++ rend B e
    rw [rend_app A B e]
    simp
/-- signs with no blanks but the given one ahead of the first -/
def bkB (b : Nat) (l : List (Nat × Tk)) : List (Nat × Tk) := (b, .opn) :: (l ++ [(0, .sht)])
def Op.sp : Op → Nat
  | .times => 0
  | _ => 1
def AT.bks : AT → Bool → Nat → List (Nat × Tk)
  | .le _ x, _, b => [(b, .lf (.le x))]
  | .sh _ _ t d, f, b => if f = true ∨ 0 ≤ t then [(b, .lf (.sh t d))] else bkB b [(0, .lf (.sh t d))]
  | .un _ A, _, b => (b, .wav) :: (if A.bind < 3 then bkB 0 (A.bks true 0) else A.bks false 0)
  | .two _ o A B, f, b => (if A.bind < o.lev then bkB b (A.bks true 0) else A.bks f b) ++ (o.sp, .op o) :: (if B.bind < o.lev + 1 then bkB o.sp (B.bks true 0) else B.bks false o.sp)
theorem bkB_tk (b : Nat) (l : List (Nat × Tk)) : (bkB b l).map (·.2) = brk (l.map (·.2)) := by
  simp [bkB, brk]
theorem bks_tks : ∀ (T : AT) (f : Bool) (b : Nat), (T.bks f b).map (·.2) = T.tks f
  | .le _ x, f, b => rfl
  | .sh p q t d, f, b => by
    show (if f = true ∨ 0 ≤ t then [(b, Tk.lf (.sh t d))] else bkB b [(0, .lf (.sh t d))]).map (·.2) = if f = true ∨ 0 ≤ t then [.lf (.sh t d)] else brk [.lf (.sh t d)]
    split
    · rfl
    · rw [bkB_tk]; rfl
  | .un _ A, f, b => by
    show Tk.wav :: (if A.bind < 3 then bkB 0 (A.bks true 0) else A.bks false 0).map (·.2) = .wav :: (if A.bind < 3 then brk (A.tks true) else A.tks false)
    split
    · rw [bkB_tk, bks_tks A]
    · rw [bks_tks A]
  | .two _ o A B, f, b => by
    show ((if A.bind < o.lev then bkB b (A.bks true 0) else A.bks f b) ++ (o.sp, Tk.op o) :: (if B.bind < o.lev + 1 then bkB o.sp (B.bks true 0) else B.bks false o.sp)).map (·.2) = (if A.bind < o.lev then brk (A.tks true) else A.tks f) ++ .op o :: (if B.bind < o.lev + 1 then brk (B.tks true) else B.tks false)
    rw [List.map_append, List.map_cons]
    have h1 : (if A.bind < o.lev then bkB b (A.bks true 0) else A.bks f b).map (·.2) = (if A.bind < o.lev then brk (A.tks true) else A.tks f) := by
      split
      · rw [bkB_tk, bks_tks A]
      · rw [bks_tks A]
    have h2 : (if B.bind < o.lev + 1 then bkB o.sp (B.bks true 0) else B.bks false o.sp).map (·.2) = (if B.bind < o.lev + 1 then brk (B.tks true) else B.tks false) := by
      split
      · rw [bkB_tk, bks_tks B]
      · rw [bks_tks B]
    rw [h1, h2]
theorem bkB_rend (b : Nat) (l : List (Nat × Tk)) : rend (bkB b l) 0 = blk b ++ inB (rend l 0) := by
  show blk b ++ ([40] ++ rend (l ++ [(0, .sht)]) 0) = _
  rw [rend_app]
  rfl
theorem bks_rend : ∀ (T : AT) (f : Bool) (b : Nat), rend (T.bks f b) 0 = blk b ++ T.wrL f
  | .le _ x, f, b => by
    show blk b ++ (x.cps.toList ++ []) = blk b ++ x.cps.toList
    rw [List.append_nil]
  | .sh p q t d, f, b => by
    show rend (if f = true ∨ 0 ≤ t then [(b, Tk.lf (.sh t d))] else bkB b [(0, .lf (.sh t d))]) 0 = blk b ++ (if f = true ∨ 0 ≤ t then textL t d else inB (textL t d))
    split
    · show blk b ++ (textL t d ++ []) = _
      rw [List.append_nil]
    · rw [bkB_rend]
      show blk b ++ inB ([] ++ (textL t d ++ [])) = _
      rw [List.nil_append, List.append_nil]
  | .un _ A, f, b => by
    show blk b ++ ([126] ++ rend (if A.bind < 3 then bkB 0 (A.bks true 0) else A.bks false 0) 0) = blk b ++ (126 :: (if A.bind < 3 then inB (A.wrL true) else A.wrL false))
    split
    · rw [bkB_rend, bks_rend A]
      rfl
    · rw [bks_rend A]
      rfl
  | .two _ o A B, f, b => by
    show rend ((if A.bind < o.lev then bkB b (A.bks true 0) else A.bks f b) ++ (o.sp, Tk.op o) :: (if B.bind < o.lev + 1 then bkB o.sp (B.bks true 0) else B.bks false o.sp)) 0 =
      blk b ++ ((if A.bind < o.lev then inB (A.wrL true) else A.wrL f) ++ o.sgn ++ (if B.bind < o.lev + 1 then inB (B.wrL true) else B.wrL false))
    rw [rend_app]
    have h1 : rend (if A.bind < o.lev then bkB b (A.bks true 0) else A.bks f b) 0 = blk b ++ (if A.bind < o.lev then inB (A.wrL true) else A.wrL f) := by
      split
      · rw [bkB_rend, bks_rend A]
        rfl
      · rw [bks_rend A]
    have h2 : rend (if B.bind < o.lev + 1 then bkB o.sp (B.bks true 0) else B.bks false o.sp) 0 = blk o.sp ++ (if B.bind < o.lev + 1 then inB (B.wrL true) else B.wrL false) := by
      split
      · rw [bkB_rend, bks_rend B]
        rfl
      · rw [bks_rend B]
    have h3 : rend ((o.sp, Tk.op o) :: (if B.bind < o.lev + 1 then bkB o.sp (B.bks true 0) else B.bks false o.sp)) 0 = o.sgn ++ (if B.bind < o.lev + 1 then inB (B.wrL true) else B.wrL false) := by
      show blk o.sp ++ ([o.chr] ++ rend (if B.bind < o.lev + 1 then bkB o.sp (B.bks true 0) else B.bks false o.sp) 0) = _
      rw [h2]
      cases o <;> rfl
    rw [h1, h3, List.append_assoc, List.append_assoc]
/-! what comes behind a leaf -/
def Stops (R : List Nat) : Prop := ∀ c, R.head? = some c → c = 32 ∨ c = 41 ∨ c = 42 ∨ c = 43 ∨ c = 45
theorem stops_rend {r : List (Nat × Tk)} {e : Nat} {S F : RS} (st : S.st = true) (h : RS.run (r.map (·.2)) S = some F) : Stops (rend r e) := by
  intro c hc
  match r, h, hc with
  | [], _, hc =>
    have hc : (blk e).head? = some c := hc
    cases e with
    | zero => cases hc
    | succ n => cases hc; exact .inl rfl
  | (b + 1, k) :: r, _, hc =>
    have hc : (32 :: (blk b ++ (k.chars ++ rend r e))).head? = some c := hc
    cases hc
    exact .inl rfl
  | (0, k) :: r, h, hc =>
    have h : (S.step k).bind (RS.run (r.map (·.2))) = some F := h
    have hc : (k.chars ++ rend r e).head? = some c := hc
    obtain ⟨s, D, W, br, fr⟩ := S
    cases (show s = true from st)
    cases k with
    | opn => cases h
    | wav => cases h
    | lf l => cases h
    | sht => cases hc; exact .inr (.inl rfl)
    | op o => cases o <;> cases hc <;> decide
/-- its leaves are as they must be -/
def TkOk : Tk → Prop
  | .lf l => l.Ok
  | _ => True
theorem ok_brk {l : List Tk} (h : ∀ k ∈ l, TkOk k) : ∀ k ∈ brk l, TkOk k := fun k hk => by
  rcases List.mem_cons.mp hk with rfl | hk
  · trivial
  · rcases List.mem_append.mp hk with hk | hk
    · exact h k hk
    · rw [List.mem_singleton.mp hk]; trivial
theorem tks_ok : ∀ {T : AT}, T.Ok → ∀ f, ∀ k ∈ T.tks f, TkOk k
  | .le _ x, ok, f => fun k hk => by rw [List.mem_singleton.mp hk]; exact ok
  | .sh p q t d, ok, f => fun k hk => by
    have hk : k ∈ (if f = true ∨ 0 ≤ t then [Tk.lf (.sh t d)] else brk [.lf (.sh t d)]) := hk
    have h1 : ∀ k ∈ [Tk.lf (.sh t d)], TkOk k := fun k hk => by rw [List.mem_singleton.mp hk]; exact ok
    split at hk
    · exact h1 k hk
    · exact ok_brk h1 k hk
  | .un _ A, ok, f => fun k hk => by
    have hk : k ∈ Tk.wav :: (if A.bind < 3 then brk (A.tks true) else A.tks false) := hk
    rcases List.mem_cons.mp hk with rfl | hk
    · trivial
    · split at hk
      · exact ok_brk (tks_ok (T := A) ok true) k hk
      · exact tks_ok (T := A) ok false k hk
  | .two _ o A B, ok, f => fun k hk => by
    have hk : k ∈ (if A.bind < o.lev then brk (A.tks true) else A.tks f) ++ Tk.op o :: (if B.bind < o.lev + 1 then brk (B.tks true) else B.tks false) := hk
    rcases List.mem_append.mp hk with hk | hk
    · split at hk
      · exact ok_brk (tks_ok ok.1 true) k hk
      · exact tks_ok ok.1 f k hk
    · rcases List.mem_cons.mp hk with rfl | hk
      · trivial
      · split at hk
        · exact ok_brk (tks_ok ok.2 true) k hk
        · exact tks_ok ok.2 false k hk
/-- all of a reckoning is read -/
theorem run_all (T : AT) (h : T.nst true ≤ 12) : ∃ P Q fr, RS.run (T.tks true) ⟨false, [], [], 0, true⟩ = some ⟨true, Q, P, 0, fr⟩ ∧ settle 1 Q P = (T.post, []) := by
  obtain ⟨P, Q, fr, e, hP, hQ⟩ := reads T true [] [] 0 true [] (fun _ => rfl) (fun _ => trivial) (by omega)
  rw [List.append_nil] at e
  refine ⟨P, Q, fr, ?_, ?_⟩
  · rw [e, List.append_nil]
    rfl
  · have := settle_pass (k := 1) (P := P) (W := []) (D := Q) (fun w hw => Nat.le_trans T.bind_pos (hP w hw)) trivial
    rw [List.append_nil] at this
    rw [this, hQ]
/-- and within two brackets more -/
theorem run_two (T : AT) (h : T.nst true ≤ 10) : ∃ fr, RS.run (brk (brk (T.tks true))) ⟨false, [], [], 0, true⟩ = some ⟨true, T.post, [], 0, fr⟩ := by
  obtain ⟨fr, e⟩ := reads_brk (reads T true) [] [.br] 1 true [.sht] (by omega)
  refine ⟨fr, ?_⟩
  show RS.run (brk (T.tks true) ++ [.sht]) ⟨false, [], [.br], 1, true⟩ = _
  rw [e]
  rfl
end Nv

set_option maxRecDepth 100000
set_option maxHeartbeats 8000000
namespace Nv
open PySem PySem.Spec PyProof.Rows L2 LamX
/-! counting a sign -/
section
open StrLaws Builtin Builtin.Str
theorem chain_count (x : Str) (c : Nat) : ∀ (cuts : List Nat) (a f : Nat), ChainG x ⟨#[c]⟩ x.length a cuts f → (∀ k, f ≤ k → ¬ At x ⟨#[c]⟩ x.length k) → cuts.length = (x.cps.toList.drop a).count c
  | [], a, f, h, hn => by
    have e : f = a := h
    subst e
    refine (List.count_eq_zero.mpr fun hm => ?_).symm
    by_cases l : f ≤ x.length
    · have := part_free x c f x.length (Nat.le_refl _) fun k h1 _ => hn k h1
      rw [strSub_toList] at this
      refine this ?_
      rw [List.take_of_length_le (by rw [List.length_drop]; exact Nat.le_refl _)]
      exact hm
    · rw [List.drop_eq_nil_of_le (show x.cps.toList.length ≤ f by show x.cps.toList.length ≤ f; rw [Array.length_toList]; show x.length ≤ f; omega)] at hm
      cases hm
  | d :: r, a, f, h, hn => by
    obtain ⟨h1, h2, h3, h4⟩ := h
    have h4 : ChainG x ⟨#[c]⟩ x.length (d + 1) r f := h4
    have ih := chain_count x c r (d + 1) f h4 hn
    have l1 : d + 1 ≤ x.length := h2.1
    have fr := part_free x c a d (by omega) h3
    rw [strSub_toList] at fr
    have hd : x.cps.toList[d]? = some c := (subAt_one x c d).mp h2
    have e1 : x.cps.toList.drop a = (x.cps.toList.drop a).take (d - a) ++ x.cps.toList.drop d := by
      conv => lhs; rw [← List.take_append_drop (d - a) (x.cps.toList.drop a)]
      rw [List.drop_drop, show a + (d - a) = d by omega]
    have e2 : x.cps.toList.drop d = c :: x.cps.toList.drop (d + 1) := by
      have lt : d < x.cps.toList.length := by rw [Array.length_toList]; exact l1
      rw [List.drop_eq_getElem_cons lt]
      rw [List.getElem?_eq_getElem lt] at hd
      rw [Option.some.inj hd]
    rw [e1, List.count_append, List.count_eq_zero.mpr fr, e2, List.count_cons_self, ← ih, List.length_cons]
    omega
theorem count_S (L : List Nat) (c : Nat) : (occurrences (SX.S L) ⟨#[c]⟩ 0 (SX.S L).length ((SX.S L).length + 1)).length = L.count c := by
  obtain ⟨f, h1, h2⟩ := occ_tight (SX.S L) ⟨#[c]⟩ (Nat.le_refl 1)
  rw [chain_count (SX.S L) c _ 0 f h1 h2, List.drop_zero]
end
/-! how deep the brackets are -/
def dep (L : List Nat) : Int := (L.count 40 : Int) - (L.count 41 : Int)
theorem dep_app (A B : List Nat) : dep (A ++ B) = dep A + dep B := by
  unfold dep
  rw [List.count_append, List.count_append]
  omega
theorem dep_none {L : List Nat} (h : ∀ c ∈ L, c ≠ 40 ∧ c ≠ 41) : dep L = 0 := by
  unfold dep
  rw [List.count_eq_zero.mpr fun z => (h _ z).1 rfl, List.count_eq_zero.mpr fun z => (h _ z).2 rfl]
  rfl
theorem dep_inB (L : List Nat) : dep (inB L) = dep L := by
  show dep ([40] ++ (L ++ [41])) = _
  rw [dep_app, dep_app]
  show (1 : Int) + (dep L + (-1)) = dep L
  omega
/-! leaves -/
theorem text_chars {t d : Int} : ∀ c ∈ textL t d, c = 45 ∨ c = 47 ∨ (48 ≤ c ∧ c ≤ 57) := fun c hc => by
  unfold textL at hc
  rcases List.mem_append.mp hc with hc | hc
  · rcases List.mem_append.mp hc with hc | hc
    · split at hc
      · exact .inl (List.mem_singleton.mp hc)
      · cases hc
    · exact .inr (.inr (TL.numL_digits _ c hc))
  · split at hc
    · rcases List.mem_cons.mp hc with rfl | hc
      · exact .inr (.inl rfl)
      · exact .inr (.inr (TL.numL_digits _ c hc))
    · cases hc
theorem abc_eq : (Str.ofString "abcdefghijklmnopqrstuvwxyz").cps.toList = List.range' 97 26 := by decide +kernel
theorem small_chars {x : Str} (h : Small x) : ∀ c ∈ x.cps.toList, 97 ≤ c ∧ c ≤ 122 := fun c hc => by
  have := h.all c hc
  rw [abc_eq, List.mem_range'_1] at this
  omega
theorem leaf_chars {l : Lf} (h : l.Ok) : ∀ c ∈ l.chars, c = 45 ∨ c = 47 ∨ (48 ≤ c ∧ c ≤ 57) ∨ (97 ≤ c ∧ c ≤ 122) := fun c hc => by
  cases l with
  | sh t d =>
    rcases text_chars c hc with h | h | h
    · exact .inl h
    · exact .inr (.inl h)
    · exact .inr (.inr (.inl h))
  | le x => exact .inr (.inr (.inr (small_chars h c hc)))
theorem leaf_ne {l : Lf} (h : l.Ok) : l.chars ≠ [] := by
  cases l with
  | sh t d =>
    show textL t d ≠ []
    intro z
    unfold textL at z
    have := List.append_eq_nil_iff.mp (List.append_eq_nil_iff.mp z).1
    exact TL.numL_ne _ this.2
  | le x =>
    intro z
    have h1 : 1 ≤ x.length := (show Small x from h).lo
    have h2 : x.cps.toList = [] := z
    have : x.cps.toList.length = x.length := Array.length_toList
    rw [h2] at this
    simp at this
    omega
/-! texts that are loosened -/
def mk (c : Nat) : Bool := decide (c = 43 ∨ c = 42 ∨ c = 126 ∨ c = 40 ∨ c = 41)
inductive Loo : Bool → List Nat → List Nat → Prop
  | nil (m : Bool) : Loo m [] []
  | cons (m : Bool) (c k : Nat) (L X : List Nat) (h : k = 0 ∨ mk c = true ∨ m = true) (r : Loo (mk c) L X) : Loo m (c :: L) (blk k ++ c :: X)
def lastM : Bool → List Nat → Bool
  | m, [] => m
  | _, c :: L => lastM (mk c) L
theorem Loo.inv {m : Bool} {c : Nat} {L Y : List Nat} (h : Loo m (c :: L) Y) : ∃ (k : Nat) (X : List Nat), Y = blk k ++ c :: X ∧ (k = 0 ∨ mk c = true ∨ m = true) ∧ Loo (mk c) L X := by
  cases h with
  | cons _ _ k _ X h r => exact ⟨k, X, rfl, h, r⟩
theorem Loo.snoc {c k : Nat} : ∀ {L : List Nat} {m : Bool} {X : List Nat}, Loo m L X → (k = 0 ∨ mk c = true ∨ lastM m L = true) → Loo m (L ++ [c]) (X ++ (blk k ++ [c]))
  | [], m, Y, r, h => by
    cases r
    exact Loo.cons m c k [] [] h (.nil _)
  | a :: L, m, Y, h, h2 => by
    obtain ⟨j, X, rfl, h, r⟩ := h.inv
    have := Loo.snoc (L := L) r h2
    rw [List.append_assoc]
    exact Loo.cons m a j (L ++ [c]) (X ++ (blk k ++ [c])) h this
theorem lastM_snoc (c : Nat) : ∀ (L : List Nat) (m : Bool), lastM m (L ++ [c]) = mk c
  | [], m => rfl
  | a :: L, m => lastM_snoc c L (mk a)
theorem blk_add (a b : Nat) : blk a ++ blk b = blk (a + b) := List.replicate_append_replicate
theorem loo_blk : ∀ (b : Nat) {m : Bool} {R X : List Nat}, Loo m (blk b ++ R) X → ∃ (b' : Nat) (X' : List Nat) (m' : Bool), X = blk b' ++ X' ∧ Loo m' R X'
  | 0, m, R, X, h => ⟨0, X, m, rfl, h⟩
  | b + 1, m, R, X, h => by
    have h : Loo m (32 :: (blk b ++ R)) X := h
    obtain ⟨k, X, rfl, h, r⟩ := h.inv
    · obtain ⟨b', X', m', rfl, r'⟩ := loo_blk b r
      refine ⟨k + 1 + b', X', m', ?_, r'⟩
      rw [show k + 1 + b' = k + (1 + b') by omega, ← blk_add, ← blk_add, List.append_assoc, List.append_assoc]
      rfl
theorem loo_leaf : ∀ {cs : List Nat} (hc : ∀ c ∈ cs, mk c = false) {R X : List Nat}, Loo false (cs ++ R) X → ∃ (X' : List Nat) (m' : Bool), X = cs ++ X' ∧ Loo m' R X'
  | [], _, R, X, h => ⟨X, false, rfl, h⟩
  | c :: cs, hc, R, X, h => by
    have h : Loo false (c :: (cs ++ R)) X := h
    have hm := hc c List.mem_cons_self
    obtain ⟨k, X, rfl, h, r⟩ := h.inv
    · have k0 : k = 0 := by
        rcases h with h | h | h
        · exact h
        · rw [hm] at h; cases h
        · cases h
      subst k0
      rw [hm] at r
      obtain ⟨X', m', rfl, r'⟩ := loo_leaf (fun z hz => hc z (List.mem_cons_of_mem _ hz)) r
      exact ⟨X', m', rfl, r'⟩
theorem loo_tk {k : Tk} (ok : TkOk k) {m : Bool} {R X : List Nat} (h : Loo m (k.chars ++ R) X) : ∃ (b : Nat) (X' : List Nat) (m' : Bool), X = blk b ++ (k.chars ++ X') ∧ Loo m' R X' := by
  have one : ∀ c, k.chars = [c] → ∃ (b : Nat) (X' : List Nat) (m' : Bool), X = blk b ++ (k.chars ++ X') ∧ Loo m' R X' := fun c e => by
    rw [e] at h ⊢
    have h : Loo m (c :: R) X := h
    obtain ⟨k, X, rfl, h, r⟩ := h.inv
    exact ⟨k, X, _, rfl, r⟩
  cases k with
  | opn => exact one 40 rfl
  | sht => exact one 41 rfl
  | wav => exact one 126 rfl
  | op o => exact one o.chr rfl
  | lf l =>
    have hm : ∀ c ∈ l.chars, mk c = false := fun c hc => decide_eq_false (by
      have := leaf_chars ok c hc
      omega)
    have ne := leaf_ne ok
    show ∃ (b : Nat) (X' : List Nat) (m' : Bool), X = blk b ++ (l.chars ++ X') ∧ Loo m' R X'
    have h : Loo m (l.chars ++ R) X := h
    generalize l.chars = cs at hm ne h ⊢
    cases cs with
    | nil => exact absurd rfl ne
    | cons c cs =>
      have h : Loo m (c :: (cs ++ R)) X := h
      obtain ⟨k, X, rfl, h, r⟩ := h.inv
      · rw [hm c List.mem_cons_self] at r
        obtain ⟨X', m', rfl, r'⟩ := loo_leaf (fun z hz => hm z (List.mem_cons_of_mem _ hz)) r
        exact ⟨k, X', m', rfl, r'⟩
theorem loo_rend : ∀ {bs : List (Nat × Tk)} {e : Nat} {m : Bool} {X : List Nat}, (∀ k ∈ bs.map (·.2), TkOk k) → Loo m (rend bs e) X → ∃ (bs' : List (Nat × Tk)) (e' : Nat), X = rend bs' e' ∧ bs'.map (·.2) = bs.map (·.2)
  | [], e, m, X, _, h => by
    have h : Loo m (blk e ++ []) X := by rw [List.append_nil]; exact h
    obtain ⟨b', X', m', rfl, r⟩ := loo_blk e h
    cases X' with
    | cons => cases r
    | nil =>
    refine ⟨[], b', ?_, rfl⟩
    rw [List.append_nil]
    rfl
  | (b, k) :: bs, e, m, X, ok, h => by
    obtain ⟨b1, X1, m1, rfl, h1⟩ := loo_blk b h
    obtain ⟨b2, X2, m2, rfl, h2⟩ := loo_tk (ok k List.mem_cons_self) h1
    obtain ⟨bs', e', rfl, eq⟩ := loo_rend (fun z hz => ok z (List.mem_cons_of_mem _ hz)) h2
    refine ⟨(b1 + b2, k) :: bs', e', ?_, ?_⟩
    · rw [← List.append_assoc, blk_add]
      rfl
    · rw [List.map_cons, eq]
      rfl
/-! brackets in a written text -/
theorem dep_leaf {l : Lf} (h : l.Ok) : dep l.chars = 0 := dep_none fun c hc => by
  have := leaf_chars h c hc
  omega
theorem dep_sgn (o : Op) : dep o.sgn = 0 := by cases o <;> decide
theorem dep_wr : ∀ {T : AT}, T.Ok → ∀ f, dep (T.wrL f) = 0
  | .le _ x, ok, f => dep_leaf (l := .le x) ok
  | .sh _ _ t d, ok, f => by
    have z := dep_leaf (l := .sh t d) ok
    show dep (if f = true ∨ 0 ≤ t then textL t d else inB (textL t d)) = 0
    split
    · exact z
    · rw [dep_inB]; exact z
  | .un _ A, ok, f => by
    show dep ([126] ++ (if A.bind < 3 then inB (A.wrL true) else A.wrL false)) = 0
    rw [dep_app, show dep [126] = 0 by decide]
    split
    · rw [dep_inB, dep_wr (T := A) ok]; rfl
    · rw [dep_wr (T := A) ok]; rfl
  | .two _ o A B, ok, f => by
    show dep ((if A.bind < o.lev then inB (A.wrL true) else A.wrL f) ++ o.sgn ++ (if B.bind < o.lev + 1 then inB (B.wrL true) else B.wrL false)) = 0
    rw [dep_app, dep_app, dep_sgn]
    have h1 : dep (if A.bind < o.lev then inB (A.wrL true) else A.wrL f) = 0 := by
      split
      · rw [dep_inB, dep_wr ok.1]
      · rw [dep_wr ok.1]
    have h2 : dep (if B.bind < o.lev + 1 then inB (B.wrL true) else B.wrL false) = 0 := by
      split
      · rw [dep_inB, dep_wr ok.2]
      · rw [dep_wr ok.2]
    rw [h1, h2]
    rfl
def Deep (L : List Nat) (n : Nat) : Prop := ∃ i, i ≤ L.length ∧ (n : Int) ≤ dep (L.take i)
theorem deep_0 (L : List Nat) : Deep L 0 := ⟨0, Nat.zero_le _, by rw [List.take_zero]; decide⟩
theorem deep_left {A B : List Nat} {n : Nat} (h : Deep A n) : Deep (A ++ B) n := by
  obtain ⟨i, hi, h⟩ := h
  refine ⟨i, by rw [List.length_append]; omega, ?_⟩
  rw [List.take_append_of_le_length hi]
  exact h
theorem deep_right {A B : List Nat} {n : Nat} (z : dep A = 0) (h : Deep B n) : Deep (A ++ B) n := by
  obtain ⟨i, hi, h⟩ := h
  refine ⟨A.length + i, by rw [List.length_append]; omega, ?_⟩
  rw [List.take_length_add_append, dep_app, z]
  omega
theorem deep_inB {A : List Nat} {n : Nat} (h : Deep A n) : Deep (inB A) (1 + n) := by
  obtain ⟨i, hi, h⟩ := h
  refine ⟨1 + i, by rw [inB_len]; omega, ?_⟩
  have e : (inB A).take (1 + i) = [40] ++ A.take i := by
    show ([40] ++ (A ++ [41])).take (([40] : List Nat).length + i) = _
    rw [List.take_length_add_append, List.take_append_of_le_length hi]
  rw [e, dep_app, show dep [40] = 1 by decide]
  omega
theorem deep_wr : ∀ {T : AT}, T.Ok → ∀ f, Deep (T.wrL f) (T.nst f)
  | .le _ x, ok, f => deep_0 _
  | .sh _ _ t d, ok, f => by
    show Deep (if f = true ∨ 0 ≤ t then textL t d else inB (textL t d)) (if f = true ∨ 0 ≤ t then 0 else 1)
    split
    · exact deep_0 _
    · exact deep_inB (n := 0) (deep_0 _)
  | .un _ A, ok, f => by
    show Deep ([126] ++ (if A.bind < 3 then inB (A.wrL true) else A.wrL false)) (if A.bind < 3 then 1 + A.nst true else A.nst false)
    refine deep_right (by decide) ?_
    split
    · exact deep_inB (deep_wr (T := A) ok true)
    · exact deep_wr (T := A) ok false
  | .two _ o A B, ok, f => by
    show Deep ((if A.bind < o.lev then inB (A.wrL true) else A.wrL f) ++ o.sgn ++ (if B.bind < o.lev + 1 then inB (B.wrL true) else B.wrL false)) (max (if A.bind < o.lev then 1 + A.nst true else A.nst f) (if B.bind < o.lev + 1 then 1 + B.nst true else B.nst false))
    have z1 : dep ((if A.bind < o.lev then inB (A.wrL true) else A.wrL f) ++ o.sgn) = 0 := by
      rw [dep_app, dep_sgn]
      split
      · rw [dep_inB, dep_wr ok.1]; rfl
      · rw [dep_wr ok.1]; rfl
    have h1 : Deep (if A.bind < o.lev then inB (A.wrL true) else A.wrL f) (if A.bind < o.lev then 1 + A.nst true else A.nst f) := by
      split
      · exact deep_inB (deep_wr ok.1 true)
      · exact deep_wr ok.1 f
    have h2 : Deep (if B.bind < o.lev + 1 then inB (B.wrL true) else B.wrL false) (if B.bind < o.lev + 1 then 1 + B.nst true else B.nst false) := by
      split
      · exact deep_inB (deep_wr ok.2 true)
      · exact deep_wr ok.2 false
    rcases Nat.le_total (if A.bind < o.lev then 1 + A.nst true else A.nst f) (if B.bind < o.lev + 1 then 1 + B.nst true else B.nst false) with l | l
    · rw [Nat.max_eq_right l]
      exact deep_right z1 h2
    · rw [Nat.max_eq_left l]
      exact deep_left (deep_left h1)
end Nv

set_option maxRecDepth 100000
set_option maxHeartbeats 4000000
/-! what is asked of a test may be weakened -/
namespace Nv
open PySem PySem.Spec PyProof.Rows L2
structure MonE (t : TE) : Prop where
  m : ∀ σ H (Q Q' : VK), (∀ v H1, Q v H1 → Q' v H1) → t σ H Q → t σ H Q'
structure MonT (t : TT) : Prop where
  m : ∀ σ H (Q Q' : Bool → Hp → Prop), (∀ v H1, Q v H1 → Q' v H1) → t σ H Q → t σ H Q'
structure MonA (t : TA) : Prop where
  m : ∀ σ H (Q Q' : List V → Hp → Prop), (∀ v H1, Q v H1 → Q' v H1) → t σ H Q → t σ H Q'
structure MonR (r : R2) : Prop where
  m : ∀ x y H (Q Q' : VK), (∀ v H1, Q v H1 → Q' v H1) → r x y H Q → r x y H Q'
theorem mon_var {i : Nat} : MonE (tVar i) := ⟨fun σ H Q Q' h ⟨v, e, q⟩ => ⟨v, e, h _ _ q⟩⟩
theorem mon_c {v : V} : MonE (tC v) := ⟨fun σ H Q Q' h q => h _ _ q⟩
theorem mon_fld {K : PySem.W.Frag} {t : TE} {f : Str} (a : MonE t) : MonE (tFld K t f) := ⟨fun σ H Q Q' h q => a.m σ H _ _ (fun v H1 ⟨p, C, dx, fs, u, e1, e2, e3, e4, e5, q⟩ => ⟨p, C, dx, fs, u, e1, e2, e3, e4, e5, h _ _ q⟩) q⟩
theorem mon_op {r : R2} {ta tb : TE} (a : MonE ta) (b : MonE tb) (c : MonR r) : MonE (tOp r ta tb) := ⟨fun σ H Q Q' h q => a.m σ H _ _ (fun v H1 q => b.m σ H1 _ _ (fun v2 H2 q => c.m _ _ _ _ _ h q) q) q⟩
theorem mon_test {t : TE} (a : MonE t) : MonT (tTest t) := ⟨fun σ H Q Q' h q => a.m σ H _ _ (fun v H1 ⟨k, e, q⟩ => ⟨k, e, h _ _ q⟩) q⟩
theorem mon_b {t : TE} (a : MonE t) : MonT (tB t) := ⟨fun σ H Q Q' h q => a.m σ H _ _ (fun v H1 ⟨k, e, q⟩ => ⟨k, e, h _ _ q⟩) q⟩
theorem mon_and {t u : TT} (a : MonT t) (b : MonT u) : MonT (tAnd t u) := ⟨fun σ H Q Q' h q => a.m σ H _ _ (fun v H1 q => by
  cases v with
  | true => exact b.m σ H1 _ _ h q
  | false => exact h _ _ q) q⟩
theorem mon_or {t u : TT} (a : MonT t) (b : MonT u) : MonT (tOr t u) := ⟨fun σ H Q Q' h q => a.m σ H _ _ (fun v H1 q => by
  cases v with
  | true => exact h _ _ q
  | false => exact b.m σ H1 _ _ h q) q⟩
theorem mon_not {t : TT} (a : MonT t) : MonT (tNot t) := ⟨fun σ H Q Q' h q => a.m σ H _ _ (fun v H1 q => h _ _ q) q⟩
theorem mon_truth {K : PySem.W.Frag} {t : TE} (a : MonE t) : MonT (fun σ H Q => t σ H fun x H' => ∃ k, TruV K x H' k ∧ Q k H') := ⟨fun σ H Q Q' h q => a.m σ H _ _ (fun v H1 ⟨k, e, q⟩ => ⟨k, e, h _ _ q⟩) q⟩
theorem mon_un {r : V → Hp → VK → Prop} {ta : TE} (a : MonE ta) (c : ∀ x H (Q Q' : VK), (∀ v H1, Q v H1 → Q' v H1) → r x H Q → r x H Q') : MonE (tUn r ta) := ⟨fun σ H Q Q' h q => a.m σ H _ _ (fun v H1 q => c _ _ _ _ h q) q⟩
theorem mon_nil : MonA tNil := ⟨fun σ H Q Q' h q => h _ _ q⟩
theorem mon_cons {ta : TE} {tr : TA} (a : MonE ta) (b : MonA tr) : MonA (tCons ta tr) := ⟨fun σ H Q Q' h q => a.m σ H _ _ (fun v H1 q => b.m σ H1 _ _ (fun v2 H2 q => h _ _ q) q) q⟩
theorem mon_cb {r : List V → Hp → VK → Prop} {t : TA} (a : MonA t) (c : ∀ x H (Q Q' : VK), (∀ v H1, Q v H1 → Q' v H1) → r x H Q → r x H Q') : MonE (tCB r t) := ⟨fun σ H Q Q' h q => a.m σ H _ _ (fun v H1 q => c _ _ _ _ h q) q⟩
theorem mon_meth {C : Addr} {m : Str} {sp : Sp} {dvs : List V} {E : XK} {ta : TE} {t : TA} (a : MonE ta) (b : MonA t) (c : ∀ x H (Q Q' : VK), (∀ v H1, Q v H1 → Q' v H1) → sp x H Q E → sp x H Q' E) : MonE (tMeth C m sp dvs E ta t) :=
  ⟨fun σ H Q Q' h q => a.m σ H _ _ (fun v H1 ⟨p, dx, fs, e1, e2, e3, q⟩ => ⟨p, dx, fs, e1, e2, e3, b.m σ H1 _ _ (fun v2 H2 q => c _ _ _ _ h q) q⟩) q⟩
end Nv

set_option maxRecDepth 100000
set_option maxHeartbeats 8000000
namespace Nv
open PySem PySem.Spec PyProof.Rows L2 LamX
theorem putF_len (f : Str) (v : V) : ∀ fs : List (Str × V), (putF f v fs).length ≤ fs.length + 1
  | [] => Nat.le_refl _
  | (g, x) :: r => by
    unfold putF
    split
    · simp
    · have := putF_len f v r
      simp only [List.length_cons]
      omega
theorem pe_fldK (K : PySem.W.Frag) {X : Cx} {e : Expr} {f : Str} {pos : Pos} {ta : TE} (he : PE X e ta) (hb : attributeBase e f X.env (eval e X.env) = eval e X.env) (hK : X.K = K := by rfl) : PE X (.Attribute e f pos) (tFld K ta f) := by
  subst hK
  exact pe_fld he hb
theorem upd_id {H : Hp} {x : Addr} {o : HO} (h : H x = some o) : upd H x o = H := by
  funext a
  by_cases z : a = x
  · rw [z, upd_same, h]
  · rw [upd_ne z]
/-- a method of the class, with its promise -/
structure MetC (P : Program) (w : World) (K : PySem.W.Frag) (mg : Str → Option Value) (base : Heap) (C : Addr) (k : Nat) (m : Str) (ps : List Str) (sp : Sp) (f : Addr) (fd : FuncData) : Prop where
  me : Meth K C m f
  ok : FnOk P w K mg base CX0 k f fd ps sp
  bi : Binds K fd ps []
abbrev sRIni : Stmt := inClass (topS 60) 0
abbrev sREnd : Stmt := inClass (topS 60) 1
abbrev sRRun : Stmt := inClass (topS 60) 2
theorem scRIni : FnScope ["self", "text", "named"] ["self", "text", "named"] (defScope sRIni) := ⟨rfl, rfl, rfl, by decide +kernel, rfl, by decide +kernel, by decide +kernel⟩
theorem scREnd : FnScope ["self"] ["self"] (defScope sREnd) := ⟨rfl, rfl, rfl, by decide +kernel, rfl, by decide +kernel, by decide +kernel⟩
theorem scRRun : FnScope ["self", "signs", "start", "last"] ["self", "signs", "start"] (defScope sRRun) := ⟨rfl, rfl, rfl, by decide +kernel, rfl, by decide +kernel, by decide +kernel⟩
/-- the fields of a reading -/
def fs7 (t : Str) (nm : Bool) (i : Nat) (d w : Addr) (br : Nat) (fr : Bool) : List (Str × V) :=
  [("text", .str t), ("named", .bl nm), ("spot", .int (i : Int)), ("done", .ref d), ("waiting", .ref w), ("brackets", .int (br : Int)), ("fresh", .bl fr)]
/-- what of the class is asked -/
structure RdC (K : PySem.W.Frag) (C : Addr) : Prop where
  cl : Cls K C
  nT : NoAttr K C "text"
  nN : NoAttr K C "named"
  nS : NoAttr K C "spot"
  nD : NoAttr K C "done"
  nW : NoAttr K C "waiting"
  nB : NoAttr K C "brackets"
  nF : NoAttr K C "fresh"
/-- how many stand ahead that are such -/
def lenW (p : Nat → Bool) : List Nat → Nat
  | [] => 0
  | c :: r => if p c = true then lenW p r + 1 else 0
theorem lenW_le (p : Nat → Bool) : ∀ L : List Nat, lenW p L ≤ L.length
  | [] => Nat.le_refl _
  | c :: r => by
    unfold lenW
    have := lenW_le p r
    split
    · rw [List.length_cons]; omega
    · exact Nat.zero_le _
theorem lenW_in (p : Nat → Bool) : ∀ (L : List Nat) (j : Nat), j < lenW p L → ∃ c, L[j]? = some c ∧ p c = true
  | [], j, h => absurd h (Nat.not_lt_zero _)
  | c :: r, j, h => by
    unfold lenW at h
    split at h
    · rename_i hc
      cases j with
      | zero => exact ⟨c, rfl, hc⟩
      | succ j => exact lenW_in p r j (by omega)
    · exact absurd h (Nat.not_lt_zero _)
theorem lenW_out (p : Nat → Bool) : ∀ (L : List Nat) (c : Nat), L[lenW p L]? = some c → p c = false
  | [], c, h => by cases h
  | a :: r, c, h => by
    unfold lenW at h
    split at h
    · exact lenW_out p r c h
    · rename_i hc
      cases h
      exact Bool.eq_false_iff.mpr hc
theorem lenW_all {p : Nat → Bool} : ∀ {A R : List Nat}, (∀ c ∈ A, p c = true) → (∀ c, R.head? = some c → p c = false) → lenW p (A ++ R) = A.length
  | [], [], _, _ => rfl
  | [], c :: R, _, h => by
    show lenW p (c :: R) = 0
    unfold lenW
    rw [h c rfl]
    rfl
  | a :: A, R, hA, h => by
    show lenW p (a :: (A ++ R)) = _
    unfold lenW
    rw [hA a List.mem_cons_self, if_pos rfl, lenW_all (fun c hc => hA c (List.mem_cons_of_mem _ hc)) h]
    rfl
def isBl (c : Nat) : Bool := c == 32
theorem cut_S {L : List Nat} {a b : Nat} (h : b ≤ L.length) : cutS (SX.S L) (some (a : Int)) (some (b : Int)) = SX.S ((L.drop a).take (b - a)) := by
  unfold cutS
  have e1 : HT.sIx (SX.S L).length (SX.S L).length (some (b : Int)) = b := by
    rw [SX.S_len, HT.sIx_nat]
    omega
  by_cases h2 : a ≤ L.length
  · have e2 : HT.sIx (SX.S L).length 0 (some (a : Int)) = a := by
      rw [SX.S_len, HT.sIx_nat]
      omega
    rw [e1, e2]
  · have e2 : HT.sIx (SX.S L).length 0 (some (a : Int)) = L.length := by
      rw [SX.S_len, HT.sIx_nat]
      omega
    rw [e1, e2, show b - L.length = 0 by omega, show b - a = 0 by omega, List.take_zero, List.take_zero]
def spRIni (C : Addr) : Sp := fun vs H Q _ => ∃ (x dx : Addr) (t : Str) (nm : Bool), vs = [.ref x, .str t, .bl nm] ∧ H x = some (.ins C dx []) ∧ ∀ (d w : Addr) (H' : Hp), d ≠ w → H d = none → H w = none → (∀ a o, a ≠ x → H a = some o → H' a = some o) → H' x = some (.ins C dx (fs7 t nm 0 d w 0 true)) → H' d = some (.lst []) → H' w = some (.lst []) → Q .non H'
def spREnd (C : Addr) : Sp := fun vs H Q _ => ∃ (x dx : Addr) (L : List Nat) (nm : Bool) (i : Nat) (d w : Addr) (br : Nat) (fr : Bool), vs = [.ref x] ∧ H x = some (.ins C dx (fs7 (SX.S L) nm i d w br fr)) ∧ i ≤ L.length ∧ L.length ≤ 100000 ∧
  Q (.bl (decide (i + lenW isBl (L.drop i) = L.length))) (upd H x (.ins C dx (fs7 (SX.S L) nm (i + lenW isBl (L.drop i)) d w br fr)))
def inS (z : Str) (c : Nat) : Bool := decide (c ∈ z.cps.toList)
def spRRun (C : Addr) : Sp := fun vs H Q _ => ∃ (x dx : Addr) (z : Str) (s : Nat) (L : List Nat) (nm : Bool) (i : Nat) (d w : Addr) (br : Nat) (fr : Bool), vs = [.ref x, .str z, .int (s : Int)] ∧ H x = some (.ins C dx (fs7 (SX.S L) nm i d w br fr)) ∧ s ≤ L.length ∧ L.length ≤ 100000 ∧
  ∀ p, H p = none → Q (.ref p) (upd H p (.tup [.str (SX.S ((L.drop s).take (lenW (inS z) (L.drop s)))), .int ((s + lenW (inS z) (L.drop s) : Nat) : Int)]))
section
variable {P : Program} {w : World} {K : PySem.W.Frag} {mg : Str → Option Value} {base : Heap}
theorem ok_rini {f C : Addr} {fd : FuncData} {k : Nat} (F : Fun K "__init__" "Reading.__init__" sRIni f fd) (T : RdC K C) : FnOk P w K mg base CX0 (k + 1) f fd ["self", "text", "named"] (spRIni C) := by
  refine F.ok scRIni (fun vs H Q E h => ?_) (fun cdv A outer s H vs Q E hr h => ?_)
  · obtain ⟨x, dx, t, nm, rfl, _⟩ := h
    rfl
  · obtain ⟨x, dx, t, nm, rfl, hx, q⟩ := h
    refine ⟨_, pss_cons (ps_fld (pv 0) (pv 1) rfl) (pss_cons (ps_fld (pv 0) (pv 2) rfl) (pss_cons (ps_fld (pv 0) pe_int rfl) (pss_cons (ps_fld (pv 0) (pe_lst pa_nil) rfl) (pss_cons (ps_fld (pv 0) (pe_lst pa_nil) rfl) (pss_cons (ps_fld (pv 0) pe_int rfl) (pss_one (ps_fld (pv 0) pe_bl rfl))))))), ?_⟩
    refine ⟨_, rfl, _, rfl, x, C, dx, _, rfl, hx, T.cl, T.nT, (by decide), ?_⟩
    refine ⟨_, rfl, _, rfl, x, C, dx, _, rfl, upd_same, T.cl, T.nN, (by show 1 < 1000; decide), ?_⟩
    refine ⟨_, rfl, x, C, dx, _, rfl, upd_same, T.cl, T.nS, (by show 2 < 1000; decide), ?_⟩
    rw [upd_twice, upd_twice]
    refine ⟨Nat.zero_le _, fun d nd => ?_⟩
    have ndx : d ≠ x := fun z => by rw [z, upd_same] at nd; cases nd
    have nd0 : H d = none := by rw [upd_ne ndx] at nd; exact nd
    refine ⟨_, rfl, x, C, dx, _, rfl, by rw [upd_ne ndx.symm, upd_same], T.cl, T.nD, (by show 3 < 1000; decide), ?_⟩
    refine ⟨Nat.zero_le _, fun y ny => ?_⟩
    have nyx : y ≠ x := fun z => by rw [z, upd_same] at ny; cases ny
    rw [upd_ne nyx] at ny
    have nyd : y ≠ d := fun z => by rw [z, upd_same] at ny; cases ny
    rw [upd_ne nyd, upd_ne nyx] at ny
    refine ⟨_, rfl, x, C, dx, _, rfl, by rw [upd_ne nyx.symm, upd_same], T.cl, T.nW, (by show 4 < 1000; decide), ?_⟩
    refine ⟨_, rfl, x, C, dx, _, rfl, upd_same, T.cl, T.nB, (by show 5 < 1000; decide), ?_⟩
    refine ⟨_, rfl, x, C, dx, _, rfl, upd_same, T.cl, T.nF, (by show 6 < 1000; decide), ?_⟩
    rw [upd_twice, upd_twice]
    refine q d y _ nyd.symm nd0 ny (fun a o na ha => ?_) upd_same ?_ ?_
    · rw [upd_ne na, upd_ne (ne_of_none ha ny), upd_ne na, upd_ne (ne_of_none ha nd0), upd_ne na]
      exact ha
    · rw [upd_ne ndx, upd_ne nyd.symm, upd_ne ndx, upd_same]
    · rw [upd_ne nyx, upd_same]
/-- where the reading stands -/
def spotOf (x : Addr) (H : Hp) : Nat := match H x with
  | some (.ins _ _ [_, _, (_, .int i), _, _, _, _]) => i.toNat
  | _ => 0
theorem ok_rend {f C : Addr} {fd : FuncData} {k : Nat} (F : Fun K "ended" "Reading.ended" sREnd f fd) (T : RdC K C) (B : Blt mg) : FnOk P w K mg base CX0 (k + 1) f fd ["self"] (spREnd C) := by
  refine F.ok scREnd (fun vs H Q E h => ?_) (fun cdv A outer s H vs Q E hr h => ?_)
  · obtain ⟨x, dx, L, nm, i, d, y, br, fr, rfl, _⟩ := h
    rfl
  · obtain ⟨x, dx, L, nm, i, d, y, br, fr, rfl, hx, hi, hL, q⟩ := h
    refine ⟨_, pss_cons (ps_while PassesOwn.never (PW.pt (pw_and (pt_cmpR op_lt (pe_fldK K (pv 0) rfl) (pe_callB call_len_str (by rfl) B.len PySem.boot_len (pa_cons (pe_fldK K (pv 0) rfl) pa_nil)) (nomark _))
          (pw_and1 (pt_cmpR op_eq (pe_item_str (pe_fldK K (pv 0) rfl) (pe_fldK K (pv 0) rfl) (fun _ _ => rfl)) pe_str (nomark _)))))
        (pss_one (ps_fldaug (pv 0) pe_int in_add)))
      (pss_one (ps_ret (pe_cmpR op_eq (pe_fldK K (pv 0) rfl) (pe_callB call_len_str (by rfl) B.len PySem.boot_len (pa_cons (pe_fldK K (pv 0) rfl) pa_nil)) (nomark _)))), ?_⟩
    have lb := lenW_le isBl (L.drop i)
    rw [List.length_drop] at lb
    have hlen : (SX.S L).length ≤ sizeLine := by rw [SX.S_len, sizeLine_eq]; omega
    refine while_by (fun σ H' => ∃ j, i ≤ j ∧ j ≤ i + lenW isBl (L.drop i) ∧ σ = [some (.ref x)] ∧ H' = upd H x (.ins C dx (fs7 (SX.S L) nm j d y br fr))) (fun _ H' => L.length - spotOf x H') ⟨i, Nat.le_refl _, Nat.le_add_right _ _, rfl, (upd_id hx).symm⟩ (fun σ H' hP => ?_) (MonT.m ?_)
    · obtain ⟨j, l1, l2, rfl, rfl⟩ := hP
      refine ⟨_, rfl, x, C, dx, _, _, rfl, upd_same, T.cl, T.nS, rfl, _, rfl, x, C, dx, _, _, rfl, upd_same, T.cl, T.nT, rfl, _, rfl, hlen, _, _, rfl, rfl, _, rfl, ite2 (fun c => ?_) (fun c => ?_)⟩
      · have c := of_decide_eq_true c
        rw [SX.S_len] at c
        have jl : j < L.length := by omega
        obtain ⟨ch, hch⟩ : ∃ ch, L[j]? = some ch := ⟨_, List.getElem?_eq_getElem jl⟩
        have hcp : (SX.S L).cps[(j : Int).toNat]? = some ch := by
          rw [Int.toNat_natCast]
          simpa [SX.S] using hch
        refine ⟨_, rfl, x, C, dx, _, _, rfl, upd_same, T.cl, T.nT, rfl, _, rfl, x, C, dx, _, _, rfl, upd_same, T.cl, T.nS, rfl, _, _, ch, rfl, rfl, by omega, by omega, by rw [SX.S_len]; exact c, hcp, rfl, _, rfl, ?_⟩
        have hd : (L.drop i)[j - i]? = some ch := by rw [List.getElem?_drop, show i + (j - i) = j by omega]; exact hch
        rcases Nat.lt_or_eq_of_le l2 with l3 | l3
        · obtain ⟨c2, e2, e3⟩ := lenW_in isBl (L.drop i) (j - i) (by omega)
          rw [hd] at e2
          cases e2
          have e32 : ch = 32 := eq_of_beq e3
          subst e32
          refine ifP rfl ?_
          refine ⟨_, rfl, x, C, dx, _, _, rfl, upd_same, T.cl, T.nS, rfl, _, _, rfl, rfl, dx, _, upd_same, (by show 7 < 1000; decide), ?_⟩
          rw [upd_twice]
          refine ⟨⟨j + 1, by omega, by omega, rfl, rfl⟩, ?_⟩
          show L.length - spotOf x (upd H x (.ins C dx (fs7 (SX.S L) nm (j + 1) d y br fr))) < L.length - spotOf x (upd H x (.ins C dx (fs7 (SX.S L) nm j d y br fr)))
          unfold spotOf
          rw [upd_same, upd_same]
          show L.length - ((j + 1 : Nat) : Int).toNat < L.length - ((j : Nat) : Int).toNat
          omega
        · have e3 := lenW_out isBl (L.drop i) ch (by rw [show lenW isBl (L.drop i) = j - i by omega]; exact hd)
          have ne : ch ≠ 32 := fun z => by rw [z] at e3; cases e3
          refine ifN (fun z => ne ?_) ?_
          · have := V.str.inj z
            have e4 : (⟨#[ch]⟩ : Str) = SX.S [32] := this.trans (by decide +kernel)
            have := congrArg TL.tl e4
            exact List.head_eq_of_cons_eq this
          · refine ⟨_, rfl, x, C, dx, _, _, rfl, upd_same, T.cl, T.nS, rfl, _, rfl, x, C, dx, _, _, rfl, upd_same, T.cl, T.nT, rfl, _, rfl, hlen, rfl, ?_⟩
            rw [l3, SX.S_len]
            rw [l3] at jl
            have e5 : decide (V.int ((i + lenW isBl (L.drop i) : Nat) : Int) = V.int ((L.length : Nat) : Int)) = decide (i + lenW isBl (L.drop i) = L.length) := by
              refine decide_eq_decide.mpr ⟨fun z => ?_, fun z => by rw [z]⟩
              have := V.int.inj z
              omega
            rw [e5]
            exact q
      · have c : ¬ ((j : Int) < ((SX.S L).length : Int)) := fun z => c (decide_eq_true z)
        rw [SX.S_len] at c
        have je : j = L.length := by omega
        have le : i + lenW isBl (L.drop i) = L.length := by omega
        refine ⟨_, rfl, x, C, dx, _, _, rfl, upd_same, T.cl, T.nS, rfl, _, rfl, x, C, dx, _, _, rfl, upd_same, T.cl, T.nT, rfl, _, rfl, hlen, rfl, ?_⟩
        rw [SX.S_len, je]
        rw [le] at q
        have e5 : decide (V.int ((L.length : Nat) : Int) = V.int ((L.length : Nat) : Int)) = decide (L.length = L.length) := by
          rw [decide_eq_true rfl, decide_eq_true rfl]
        rw [e5]
        exact q
    · exact mon_and (mon_test (mon_op (mon_fld mon_var) (mon_cb (mon_cons (mon_fld mon_var) mon_nil) (fun x H Q Q' h ⟨z, e1, e2, q⟩ => ⟨z, e1, e2, h _ _ q⟩)) ⟨fun x y H Q Q' h ⟨i, j, e1, e2, q⟩ => ⟨i, j, e1, e2, h _ _ q⟩⟩))
        (mon_test (mon_op (mon_op (mon_fld mon_var) (mon_fld mon_var) ⟨fun x y H Q Q' h ⟨z, i, c, e1, e2, e3, e4, e5, e6, q⟩ => ⟨z, i, c, e1, e2, e3, e4, e5, e6, h _ _ q⟩⟩) mon_c ⟨fun x y H Q Q' h ⟨e, q⟩ => ⟨e, h _ _ q⟩⟩))
theorem ok_rrun {f C : Addr} {fd : FuncData} {k : Nat} (F : Fun K "run" "Reading.run" sRRun f fd) (T : RdC K C) (B : Blt mg) : FnOk P w K mg base CX0 (k + 1) f fd ["self", "signs", "start"] (spRRun C) := by
  refine F.ok scRRun (fun vs H Q E h => ?_) (fun cdv A outer s H vs Q E hr h => ?_)
  · obtain ⟨x, dx, z, s, L, nm, i, d, y, br, fr, rfl, _⟩ := h
    rfl
  · obtain ⟨x, dx, z, s, L, nm, i, d, y, br, fr, rfl, hx, hs, hL, q⟩ := h
    refine ⟨_, pss_cons (ps_set (i := 3) scRRun.nd rfl (.inl rfl) (pv 2))
      (pss_cons (ps_while PassesOwn.never (PW.pt (pw_and (pt_cmpR op_lt (pv 3) (pe_callB call_len_str (by rfl) B.len PySem.boot_len (pa_cons (pe_fldK K (pv 0) rfl) pa_nil)) (nomark _))
          (pw_and1 (pt_cmpR op_in_sign (pe_item_str (pe_fldK K (pv 0) rfl) (pv 3) (fun _ _ => rfl)) (pv 1) (by rfl)))))
        (pss_one (ps_aug (i := 3) scRRun.nd rfl (.inl rfl) pe_int ip_add)))
      (pss_one (ps_ret (pe_tup (pa_cons (pe_slice sl_str (pe_fldK K (pv 0) rfl) (po_some (pv 2)) (po_some (pv 3))) (pa_cons (pv 3) pa_nil)))))), ?_⟩
    have lb := lenW_le (inS z) (L.drop s)
    rw [List.length_drop] at lb
    have hlen : (SX.S L).length ≤ sizeLine := by rw [SX.S_len, sizeLine_eq]; omega
    refine ⟨_, rfl, ?_⟩
    refine while_by (fun σ H' => ∃ j : Nat, s ≤ j ∧ j ≤ s + lenW (inS z) (L.drop s) ∧ σ = [some (.ref x), some (.str z), some (.int (s : Int)), some (.int (j : Int))] ∧ H' = H) (fun σ _ => match σ with
        | [_, _, _, some (.int j)] => L.length - j.toNat
        | _ => 0) ⟨s, Nat.le_refl _, Nat.le_add_right _ _, rfl, rfl⟩ (fun σ H' hP => ?_) (MonT.m ?_)
    · obtain ⟨j, l1, l2, rfl, rfl⟩ := hP
      have fin : j = s + lenW (inS z) (L.drop s) → tRet (tTup (tCons (tSl rSlS (tFld K (tVar 0) "text") (tPart (tVar 2)) (tPart (tVar 3))) (tCons (tVar 3) tNil))) { nx := fun _ H' => Q .non H', rt := Q } [some (.ref x), some (.str z), some (.int (s : Int)), some (.int (j : Int))] H' := fun e => by
        refine ⟨_, rfl, x, C, dx, _, _, rfl, hx, T.cl, T.nT, rfl, _, rfl, _, rfl, _, rfl, _, rfl, _, rfl, hlen, _, rfl, (by show 2 ≤ sizeLine; decide), fun p np => ?_⟩
        rw [cut_S (by omega), show j - s = lenW (inS z) (L.drop s) by omega, e]
        exact q p np
      refine ⟨_, rfl, _, rfl, x, C, dx, _, _, rfl, hx, T.cl, T.nT, rfl, _, rfl, hlen, _, _, rfl, rfl, _, rfl, ite2 (fun c => ?_) (fun c => ?_)⟩
      · have c := of_decide_eq_true c
        rw [SX.S_len] at c
        have jl : j < L.length := by omega
        obtain ⟨ch, hch⟩ : ∃ ch, L[j]? = some ch := ⟨_, List.getElem?_eq_getElem jl⟩
        have hcp : (SX.S L).cps[(j : Int).toNat]? = some ch := by
          rw [Int.toNat_natCast]
          simpa [SX.S] using hch
        have hd : (L.drop s)[j - s]? = some ch := by rw [List.getElem?_drop, show s + (j - s) = j by omega]; exact hch
        refine ⟨_, rfl, x, C, dx, _, _, rfl, hx, T.cl, T.nT, rfl, _, rfl, _, _, ch, rfl, rfl, by omega, by omega, by rw [SX.S_len]; exact c, hcp, _, rfl, ch, z, rfl, rfl, _, rfl, ?_⟩
        rcases Nat.lt_or_eq_of_le l2 with l3 | l3
        · obtain ⟨c2, e2, e3⟩ := lenW_in (inS z) (L.drop s) (j - s) (by omega)
          rw [hd] at e2
          cases e2
          refine if_t e3 ?_
          refine ⟨_, rfl, _, _, rfl, rfl, ⟨j + 1, by omega, by omega, rfl, rfl⟩, ?_⟩
          show L.length - ((j : Int) + 1).toNat < L.length - ((j : Nat) : Int).toNat
          omega
        · have e3 := lenW_out (inS z) (L.drop s) ch (by rw [show lenW (inS z) (L.drop s) = j - s by omega]; exact hd)
          exact if_f e3 (fin l3)
      · have c : ¬ ((j : Int) < ((SX.S L).length : Int)) := fun z => c (decide_eq_true z)
        rw [SX.S_len] at c
        exact fin (by omega)
    · exact mon_and (mon_test (mon_op mon_var (mon_cb (mon_cons (mon_fld mon_var) mon_nil) (fun x H Q Q' h ⟨z, e1, e2, q⟩ => ⟨z, e1, e2, h _ _ q⟩)) ⟨fun x y H Q Q' h ⟨i, j, e1, e2, q⟩ => ⟨i, j, e1, e2, h _ _ q⟩⟩))
        (mon_test (mon_op (mon_op (mon_fld mon_var) mon_var ⟨fun x y H Q Q' h ⟨z, i, c, e1, e2, e3, e4, e5, e6, q⟩ => ⟨z, i, c, e1, e2, e3, e4, e5, e6, h _ _ q⟩⟩) mon_var ⟨fun x y H Q Q' h ⟨c, z, e1, e2, q⟩ => ⟨c, z, e1, e2, h _ _ q⟩⟩))
end
end Nv

set_option maxRecDepth 100000
set_option maxHeartbeats 8000000
namespace Nv
open PySem PySem.Spec PyProof.Rows L2 LamX
theorem fitLine {n : Nat} (h : n ≤ 1000000) : n < sizeLine := by rw [sizeLine_eq]; omega
/-- a piece that is done -/
def PcAt (H : Hp) (v : V) : Pc → Prop
  | .lf (.sh t d) => ∃ p q, v = .ref p ∧ H p = some (.tup [.str "share", .ref q]) ∧ H q = some (.tup [.int t, .int d])
  | .lf (.le x) => ∃ p, v = .ref p ∧ H p = some (.tup [.str "letter", .str x])
  | .op w => ∃ p, v = .ref p ∧ H p = some (.tup [.str w.word])
theorem PcAt.keep {H H' : Hp} (k : TupKeep H H') {v : V} : ∀ {c : Pc}, PcAt H v c → PcAt H' v c
  | .lf (.sh t d), ⟨p, q, e, h1, h2⟩ => ⟨p, q, e, k _ _ h1, k _ _ h2⟩
  | .lf (.le x), ⟨p, e, h1⟩ => ⟨p, e, k _ _ h1⟩
  | .op w, ⟨p, e, h1⟩ => ⟨p, e, k _ _ h1⟩
def wdV (w : Wd) : V := .str w.word
/-- a reading as it stands in memory -/
structure RdAt (C x dx d w : Addr) (L : List Nat) (H : Hp) (i : Nat) (S : RS) : Prop where
  ins : H x = some (.ins C dx (fs7 (SX.S L) false i d w S.br S.fr))
  ne : d ≠ w
  ds : ∃ ds, H d = some (.lst ds) ∧ Paired (PcAt H) ds S.D
  ws : H w = some (.lst (S.W.reverse.map wdV))
  len : S.D.length + S.W.length ≤ i
  hi : i ≤ L.length
  hL : L.length ≤ 100000
/-- but for the reading's own things all stays -/
def Mov (x d w : Addr) (H H' : Hp) : Prop := ∀ a o, a ≠ x → a ≠ d → a ≠ w → H a = some o → H' a = some o
theorem Mov.refl {x d w : Addr} {H : Hp} : Mov x d w H H := fun _ _ _ _ _ h => h
theorem Mov.trans {x d w : Addr} {H H1 H2 : Hp} (a : Mov x d w H H1) (b : Mov x d w H1 H2) : Mov x d w H H2 := fun p o n1 n2 n3 h => b p o n1 n2 n3 (a p o n1 n2 n3 h)
theorem Same.mov {x d w : Addr} {H H' : Hp} (s : Same H H') : Mov x d w H H' := fun p o _ _ _ h => s p o h
theorem mov_x {x d w : Addr} {H : Hp} {o : HO} : Mov x d w H (upd H x o) := fun p _ n1 _ _ h => by rw [upd_ne n1]; exact h
theorem mov_d {x d w : Addr} {H : Hp} {o : HO} : Mov x d w H (upd H d o) := fun p _ _ n2 _ h => by rw [upd_ne n2]; exact h
theorem mov_w {x d w : Addr} {H : Hp} {o : HO} : Mov x d w H (upd H w o) := fun p _ _ _ n3 h => by rw [upd_ne n3]; exact h
section
variable {C x dx d w : Addr} {L : List Nat} {H : Hp} {i : Nat} {S : RS}
theorem RdAt.nxd (R : RdAt C x dx d w L H i S) : x ≠ d := fun z => by
  obtain ⟨ds, h, _⟩ := R.ds
  rw [← z, R.ins] at h
  cases h
theorem RdAt.nxw (R : RdAt C x dx d w L H i S) : x ≠ w := fun z => by
  have h := R.ws
  rw [← z, R.ins] at h
  cases h
theorem RdAt.tk (R : RdAt C x dx d w L H i S) {H' : Hp} (m : Mov x d w H H') : TupKeep H H' := fun a xs h => m a _ (fun z => by rw [z, R.ins] at h; cases h) (fun z => by
  obtain ⟨ds, hd, _⟩ := R.ds
  rw [z, hd] at h
  cases h) (fun z => by rw [z, R.ws] at h; cases h) h
theorem RdAt.same (R : RdAt C x dx d w L H i S) {H' : Hp} (s : Same H H') : RdAt C x dx d w L H' i S := by
  obtain ⟨h1, h2, ⟨ds, h3, h4⟩, h5, h6, h7, h8⟩ := R
  exact ⟨s _ _ h1, h2, ⟨ds, s _ _ h3, Paired.imp' (fun _ _ z => z.keep (Same.tk s)) h4⟩, s _ _ h5, h6, h7, h8⟩
/-- the instance is stored to -/
theorem RdAt.setX (R : RdAt C x dx d w L H i S) {j : Nat} {T : RS} (hD : T.D = S.D) (hW : T.W = S.W) (hj : i ≤ j) (hl : j ≤ L.length) : RdAt C x dx d w L (upd H x (.ins C dx (fs7 (SX.S L) false j d w T.br T.fr))) j T := by
  have n1 := R.nxd
  have n2 := R.nxw
  have k : TupKeep H (upd H x (.ins C dx (fs7 (SX.S L) false j d w T.br T.fr))) := R.tk mov_x
  obtain ⟨h1, h2, ⟨ds, h3, h4⟩, h5, h6, h7, h8⟩ := R
  refine ⟨upd_same, h2, ⟨ds, by rw [upd_ne n1.symm]; exact h3, ?_⟩, ?_, by rw [hD, hW]; omega, hl, h8⟩
  · rw [hD]
    exact Paired.imp' (fun _ _ z => z.keep k) h4
  · rw [hW, upd_ne n2.symm]
    exact h5
end
/-- the tables of the reading -/
structure Dct2 (K : PySem.W.Frag) (w : World) (mg : Str → Option Value) (dH dW : Addr) : Prop where
  gH : mg "HOLDS" = some (.ref dH)
  gW : mg "WORDS" = some (.ref dW)
  gB : ∃ t, mg "BRACKET" = some (.str "(" t)
  hold : ∀ x : Wd, KDct K w dH x.word (.int (x.lev : Int))
  wrd : ∀ o : Op, KDct K w dW (SX.S [o.chr]) (.str o.word)
  kd : ∃ es n, KDict K w dW es n
abbrev sRSet : Stmt := inClass (topS 60) 8
theorem scRSet : FnScope ["self", "least"] ["self", "least"] (defScope sRSet) := ⟨rfl, rfl, rfl, by decide +kernel, rfl, by decide +kernel, by decide +kernel⟩
def lenOf (w : Addr) (H : Hp) : Nat := match H w with
  | some (.lst xs) => xs.length
  | _ => 0
def RS.put (S : RS) (p : List Pc × List Wd) : RS := { S with D := p.1, W := p.2 }
def spRSet (C : Addr) : Sp := fun vs H Q _ => ∃ (x dx d w : Addr) (L : List Nat) (i : Nat) (S : RS) (k : Nat), vs = [.ref x, .int (k : Int)] ∧ RdAt C x dx d w L H i S ∧
  ∀ H', Mov x d w H H' → RdAt C x dx d w L H' i (S.put (settle k S.D S.W)) → Q .non H'
section
variable {P : Program} {w0 : World} {K : PySem.W.Frag} {mg : Str → Option Value} {base : Heap} {dH dW : Addr}
theorem ok_rset {f C : Addr} {fd : FuncData} {k : Nat} (F : Fun K "settle" "Reading.settle" sRSet f fd) (T : RdC K C) (D2 : Dct2 K w0 mg dH dW) : FnOk P w0 K mg base CX0 (k + 1) f fd ["self", "least"] (spRSet C) := by
  refine F.ok scRSet (fun vs H Q E h => ?_) (fun cdv A outer s H vs Q E hr h => ?_)
  · obtain ⟨x, dx, d, w, L, i, S, m, rfl, _⟩ := h
    rfl
  · obtain ⟨x, dx, d, w, L, i, S, m, rfl, R, q⟩ := h
    refine ⟨_, pss_one (ps_while PassesOwn.never (PW.pt (pw_and (pt_truth (pe_fldK K (pv 0) rfl) (by intro _; rfl)) (pw_and1 (pt_cmpR op_ge (pe_ix ix_kdict (pe_glob (v := .ref dH) (by rfl) D2.gH rfl) (pe_ix ix_list (pe_fldK K (pv 0) rfl) (pe_un un_neg pe_int) (fun _ _ => rfl)) (fun _ _ => rfl)) (pv 1) (nomark _)))))
        (pss_one (ps_expr (pe_bm PySem.F.plainAttrs_list PySem.F.slot_list_append PySem.F.type_list_append mt_append (pe_fldK K (pv 0) rfl) (pa_cons (pe_tup (pa_cons (pe_bm0 PySem.F.plainAttrs_list PySem.F.slot_list_pop PySem.F.type_list_pop mt_pop (pe_fldK K (pv 0) rfl)) pa_nil)) pa_nil))))), ?_⟩
    refine while_by (fun σ H' => ∃ D W, σ = [some (.ref x), some (.int (m : Int))] ∧ Mov x d w H H' ∧ RdAt C x dx d w L H' i (S.put (D, W)) ∧ settle m D W = settle m S.D S.W) (fun _ H' => lenOf w H') ⟨S.D, S.W, rfl, Mov.refl, R, rfl⟩ (fun σ H1 hP => ?_) (MonT.m ?_)
    · obtain ⟨D, W, rfl, mv, R1, es⟩ := hP
      have fin : settle m D W = (D, W) → Q .non H1 := fun e => q H1 mv (by rw [← es, e]; exact R1)
      refine ⟨_, rfl, x, C, dx, _, _, rfl, R1.ins, T.cl, T.nW, rfl, _, .inl ⟨_, SqL.of R1.ws, rfl⟩, ?_⟩
      cases W with
      | nil => exact iteF (iteF (fin rfl))
      | cons v W =>
        have ew : H1 w = some (.lst (W.reverse.map wdV ++ [wdV v])) := by
          have := R1.ws
          rw [show (S.put (D, v :: W)).W = v :: W from rfl, List.reverse_cons, List.map_append] at this
          exact this
        rw [show (S.put (D, v :: W)).W = v :: W from rfl, List.reverse_cons, List.map_append, show (!(W.reverse.map wdV ++ [v].map wdV).isEmpty) = true by simp]
        refine iteT ⟨_, rfl, x, C, dx, _, _, rfl, R1.ins, T.cl, T.nW, rfl, 1, rfl, w, _, _, wdV v, rfl, rfl, SqL.of ew, atI_last _ _, dH, v.word, _, rfl, rfl, D2.hold v, _, rfl, _, _, rfl, rfl, _, rfl, ?_⟩
        by_cases c : m ≤ v.lev
        · have e1 : settle m D (v :: W) = settle m (D ++ [.op v]) W := if_pos c
          refine ifP (by omega) ?_
          obtain ⟨ds, hds, pds⟩ := R1.ds
          have hlen := R1.len
          have hi := R1.hi
          have hL := R1.hL
          have ld := Paired.length pds
          rw [show (S.put (D, v :: W)).D = D from rfl] at ld hlen pds
          rw [show (S.put (D, v :: W)).W = v :: W from rfl, List.length_cons] at hlen
          refine ⟨_, rfl, x, C, dx, _, _, rfl, R1.ins, T.cl, T.nD, rfl, .inl ⟨rfl, _, SqL.of hds⟩, _, rfl, x, C, dx, _, _, rfl, R1.ins, T.cl, T.nW, rfl, .inl ⟨rfl, _, SqL.of ew⟩, w, _, wdV v, rfl, rfl, ew, by simp, (by show 1 ≤ sizeLine; decide), fun p np => ?_⟩
          rw [List.dropLast_concat]
          have npw : p ≠ w := fun z => by rw [z, upd_same] at np; cases np
          have np1 : H1 p = none := by rw [upd_ne npw] at np; exact np
          have npd : p ≠ d := fun z => by rw [z, hds] at np1; cases np1
          have npx : p ≠ x := fun z => by rw [z, R1.ins] at np1; cases np1
          have ed : upd (upd H1 w (.lst (W.reverse.map wdV))) p (.tup [wdV v]) d = some (.lst ds) := by
            rw [upd_ne npd.symm, upd_ne R1.ne]
            exact hds
          refine ⟨d, ds, _, rfl, rfl, ed, fitLine (by omega), ?_⟩
          have mv1 : Mov x d w H1 (upd (upd (upd H1 w (.lst (W.reverse.map wdV))) p (.tup [wdV v])) d (.lst (ds ++ [.ref p]))) := fun a o n1 n2 n3 h => by
            rw [upd_ne n2, upd_ne (ne_of_none h np1), upd_ne n3]
            exact h
          refine ⟨⟨D ++ [.op v], W, rfl, mv.trans mv1, ⟨?_, R1.ne, ⟨ds ++ [.ref p], upd_same, ?_⟩, ?_, ?_, hi, hL⟩, by rw [← e1]; exact es⟩, ?_⟩
          · rw [upd_ne R1.nxd, upd_ne npx.symm, upd_ne R1.nxw]
            exact R1.ins
          · refine Paired.snoc' ⟨p, rfl, ?_⟩ (Paired.imp' (fun _ _ z => z.keep (R1.tk mv1)) pds)
            rw [upd_ne npd, upd_same]
            rfl
          · rw [upd_ne R1.ne.symm, upd_ne npw.symm, upd_same]
            rfl
          · show (D ++ [Pc.op v]).length + W.length ≤ i
            rw [List.length_append, List.length_singleton]
            omega
          · unfold lenOf
            rw [upd_ne R1.ne.symm, upd_ne npw.symm, upd_same, ew]
            show (W.reverse.map wdV).length < (W.reverse.map wdV ++ [wdV v]).length
            simp
        · refine ifN (fun z => c (by omega)) ?_
          exact fin (if_neg c)
    · exact mon_and (mon_truth (mon_fld mon_var)) (mon_test (mon_op (mon_op mon_c (mon_op (mon_fld mon_var) (mon_un mon_c (fun x H Q Q' h ⟨i, e, q⟩ => ⟨i, e, h _ _ q⟩)) ⟨fun x y H Q Q' h ⟨p, xs, i, v, e1, e2, e3, e4, q⟩ => ⟨p, xs, i, v, e1, e2, e3, e4, h _ _ q⟩⟩) ⟨fun x y H Q Q' h ⟨p, z, v, e1, e2, e3, q⟩ => ⟨p, z, v, e1, e2, e3, h _ _ q⟩⟩) mon_var ⟨fun x y H Q Q' h ⟨i, j, e1, e2, q⟩ => ⟨i, j, e1, e2, h _ _ q⟩⟩))
end
end Nv

set_option maxRecDepth 100000
set_option maxHeartbeats 8000000
namespace Nv
open PySem PySem.Spec PyProof.Rows L2 L2H LamX
abbrev sBTm : Stmt := inClass (topS 5) 0
abbrev sBTx : Stmt := inClass (topS 7) 0
theorem scBTm : FnScope ["self", "flaw"] ["self", "flaw"] (defScope sBTm) := ⟨rfl, rfl, rfl, by decide +kernel, rfl, by decide +kernel, by decide +kernel⟩
theorem scBTx : FnScope ["self", "at"] ["self", "at"] (defScope sBTx) := ⟨rfl, rfl, rfl, by decide +kernel, rfl, by decide +kernel, by decide +kernel⟩
/-- the fields of BadTerm and of BadText -/
def flawOf (x : Str) : List (Str × V) := (Str.ofString "flaw", .str x) :: wordOf "BadTerm"
def atOf (i : Int) : List (Str × V) := (Str.ofString "at", .int i) :: wordOf "BadText"
/-- an exception with a field: v its value, fs its fields -/
def madeF (a C : Addr) (fs : List (Str × V)) (H : Hp) (Q : VK) : Prop := H a = some (exo a C none) ∧ ∀ dx H', H dx = none → dx ≠ a → (∀ z, z ≠ a → z ≠ dx → H' z = H z) → H' a = some (exo a C (some dx)) → H' dx = some (exd dx fs) → Q .non H'
def spBTm (C : Addr) : Sp := fun vs H Q _ => ∃ (a : Addr) (x : Str), vs = [.ref a, .str x] ∧ x.length ≤ 100 ∧ madeF a C (flawOf x) H Q
def spBTx (C : Addr) : Sp := fun vs H Q _ => ∃ (a : Addr) (i : Nat), vs = [.ref a, .int (i : Int)] ∧ i ≤ 200000 ∧ madeF a C (atOf (i : Int)) H Q
/-- what is known of such a class: NeverError at CN (its __init__ at fN), the class at C (its __init__ at fI) -/
structure ErrF (K : PySem.W.Frag) (mg : Str → Option Value) (x fld : Str) (CN C fN fI : Addr) : Prop where
  oex : OexC K C
  xf : XfC K C
  word : PySem.W.findIn K (.ref C) "word" = some none
  fld : PySem.W.findIn K (.ref C) fld = some none
  gC : mg x = some (.ref C)
  gN : mg "NeverError" = some (.ref CN)
  iC : PySem.W.findIn K (.ref C) "__init__" = some (some (.ref fI))
  tI : PySem.W.typeIn K (.ref fI) = some (.type "function")
  rd : ClX.CRead K CN (.type "type")
  cv : ClX.CVal K CN (.type "type") "__init__" (.ref fN) (.ref fN)
  kp : PySem.W.keepIn K (.ref fN) = true
theorem row_fits {i : Int} (h : i.natAbs.log2 < 1920) : (Str.ofString (toString i)).length ≤ 1921 := by
  have e := PySem.int_text_length_le (k := 1920) (by decide) h
  rw [PySem.ofString_length]
  omega
theorem small_log {i : Nat} (h : i ≤ 200000) : (i : Int).natAbs.log2 < 1920 := Nat.lt_trans (PySem.Flt.log2_lt_of (k := 18) (by decide) (Nat.lt_of_le_of_lt (show (i : Int).natAbs ≤ 200000 by omega) (by decide))) (by decide)
section
variable {P : Program} {w : World} {K : PySem.W.Frag} {mg : Str → Option Value} {base : Heap} {CN C fN fI : Addr}
/-- what the two statements of such a making do -/
theorem mk_fields {a : Addr} {x fld : Str} {v : V} {H : Hp} {Q : VK} (ha : H a = some (exo a C none)) (q : madeF a C ((fld, v) :: wordOf x) H Q) : ∀ dx, H dx = none → dx ≠ a →
    Q .non (upd (upd (upd H dx (exd dx (wordOf x))) a (exo a C (some dx))) dx (exd dx ((fld, v) :: wordOf x))) := fun dx nx ne => by
  refine q.2 dx _ nx ne (fun z h1 h2 => ?_) ?_ upd_same
  · rw [upd_ne h2, upd_ne h1, upd_ne h2]
  · rw [upd_ne (Ne.symm ne), upd_same]
theorem ok_BTm {f : Addr} {fd fdN : FuncData} (F : Fun K "__init__" "BadTerm.__init__" sBTm f fd) (R : ErrF K mg "BadTerm" "flaw" CN C fN fI) (GN : FnOk P w K mg base CX0 1 fN fdN ["self", "word", "message"] (spNE K)) (bN : Binds K fdN ["self", "word", "message"] []) :
    FnOk P w K mg base CX0 2 f fd ["self", "flaw"] (spBTm C) := by
  refine F.ok scBTm (fun vs H Q E h => ?_) (fun cdv A outer s H vs Q E hr h => ?_)
  · obtain ⟨a, x, rfl, _⟩ := h
    rfl
  · obtain ⟨a, x, rfl, lx, q⟩ := h
    refine ⟨_, pss_cons (ps_expr (pe_clsdef (pe_glob (v := .ref CN) (by rfl) R.gN rfl) R.rd R.cv R.kp GN hr bN .nil pass0 (pa_cons (pv 0) (pa_cons pe_str (pa_cons (pe_joined (.cons pe_str (.cons (pe_fmt (pv 1)) .nil))) pa_nil)))))
      (pss_one (ps_ost (pv 0) (pv 1))), ?_⟩
    refine ⟨rfl, _, rfl, _, rfl, (by decide +kernel), _, rfl, .inl ⟨x, rfl, by rw [sizeLine_eq]; omega, _, rfl, ?_, ?_⟩⟩
    · rw [Str.length_append, show (Str.empty ++ Str.ofString "this is no reckoning: ").length = 22 by decide +kernel, sizeLine_eq]
      omega
    · refine ⟨a, C, _, _, rfl, R.oex, R.word, q.1, fun dx nx ne => ?_⟩
      refine ⟨_, rfl, _, rfl, a, C, rfl, R.oex, R.fld, .inr ⟨dx, wordOf "BadTerm", upd_same, ?_, (by show 1 ≤ 900; decide), mk_fields q.1 q dx nx ne⟩⟩
      rw [upd_ne ne, upd_same]
theorem ok_BTx {f : Addr} {fd fdN : FuncData} (F : Fun K "__init__" "BadText.__init__" sBTx f fd) (R : ErrF K mg "BadText" "at" CN C fN fI) (GN : FnOk P w K mg base CX0 1 fN fdN ["self", "word", "message"] (spNE K)) (bN : Binds K fdN ["self", "word", "message"] []) :
    FnOk P w K mg base CX0 2 f fd ["self", "at"] (spBTx C) := by
  refine F.ok scBTx (fun vs H Q E h => ?_) (fun cdv A outer s H vs Q E hr h => ?_)
  · obtain ⟨a, i, rfl, _⟩ := h
    rfl
  · obtain ⟨a, i, rfl, i1, q⟩ := h
    refine ⟨_, pss_cons (ps_expr (pe_clsdef (pe_glob (v := .ref CN) (by rfl) R.gN rfl) R.rd R.cv R.kp GN hr bN .nil pass0 (pa_cons (pv 0) (pa_cons pe_str (pa_cons (pe_joined (.cons pe_str (.cons (pe_fmt (pv 1)) .nil))) pa_nil)))))
      (pss_one (ps_ost (pv 0) (pv 1))), ?_⟩
    have hl := row_fits (small_log i1)
    refine ⟨rfl, _, rfl, _, rfl, (by decide +kernel), _, rfl, .inr ⟨i, rfl, small_log i1, _, rfl, ?_, ?_⟩⟩
    · rw [Str.length_append, show (Str.empty ++ Str.ofString "the text cannot be read at ").length = 27 by decide +kernel, sizeLine_eq]
      omega
    · refine ⟨a, C, _, _, rfl, R.oex, R.word, q.1, fun dx nx ne => ?_⟩
      refine ⟨_, rfl, _, rfl, a, C, rfl, R.oex, R.fld, .inr ⟨dx, wordOf "BadText", upd_same, ?_, (by show 1 ≤ 900; decide), mk_fields q.1 q dx nx ne⟩⟩
      rw [upd_ne ne, upd_same]
/-! the same while an exception is handled -/
theorem ok_NEH {f : Addr} {fd : FuncData} {k : Nat} {dvs : List V} (F : FunD K "__init__" "NeverError.__init__" (defArgs sNE) (defBody sNE) (defScope sNE) dvs [] f fd) (mv : mg "ValueError" = none)
    (vV : PySem.W.findCls K (.type "ValueError") (.type "type") "__init__" = some (.val (.builtin "ValueError.__init__"))) : FnH P w K mg base CX0 (k + 1) f fd ["self", "word", "message"] (spNE K) := by
  refine FunD.okH F scNE (fun vs H Q E h => ?_) (fun cdv A outer s H vs Q E p hot hr h => ?_)
  · obtain ⟨a, C, w, m, rfl, _⟩ := h
    rfl
  · obtain ⟨a, C, w, m, rfl, ho, hn, ha, q⟩ := h
    refine ⟨_, pss_cons (ps_expr (pe_veinit (by rfl) mv vV (pa_cons (pv 0) (pa_cons (pv 2) pa_nil)))) (pss_one (ps_ost (pv 0) (pv 1))), ?_⟩
    refine ⟨_, rfl, _, rfl, a, C, [.str m], rfl, (by show 1 ≤ 1000; decide), ho, ha, ?_⟩
    exact ⟨_, rfl, _, rfl, a, C, rfl, ho, hn, .inl ⟨ha, fun dx n ne => q dx n ne⟩⟩
theorem ok_BTxH {f : Addr} {fd fdN : FuncData} (F : Fun K "__init__" "BadText.__init__" sBTx f fd) (R : ErrF K mg "BadText" "at" CN C fN fI) (GN : FnH P w K mg base CX0 1 fN fdN ["self", "word", "message"] (spNE K)) (bN : Binds K fdN ["self", "word", "message"] []) :
    FnH P w K mg base CX0 2 f fd ["self", "at"] (spBTx C) := by
  refine Fun.okH F scBTx (fun vs H Q E h => ?_) (fun cdv A outer s H vs Q E p hot hr h => ?_)
  · obtain ⟨a, i, rfl, _⟩ := h
    rfl
  · obtain ⟨a, i, rfl, i1, q⟩ := h
    refine ⟨_, pss_cons (ps_expr (pe_clsdefH (pe_glob (v := .ref CN) (by rfl) R.gN rfl) R.rd R.cv R.kp GN hr (hotC_H hot) bN pass0 (pa_cons (pv 0) (pa_cons pe_str (pa_cons (pe_joined (.cons pe_str (.cons (pe_fmt (pv 1)) .nil))) pa_nil)))))
      (pss_one (ps_ost (pv 0) (pv 1))), ?_⟩
    have hl := row_fits (small_log i1)
    refine ⟨rfl, _, rfl, _, rfl, (by decide +kernel), _, rfl, .inr ⟨i, rfl, small_log i1, _, rfl, ?_, ?_⟩⟩
    · rw [Str.length_append, show (Str.empty ++ Str.ofString "the text cannot be read at ").length = 27 by decide +kernel, sizeLine_eq]
      omega
    · refine ⟨a, C, _, _, rfl, R.oex, R.word, q.1, fun dx nx ne => ?_⟩
      refine ⟨_, rfl, _, rfl, a, C, rfl, R.oex, R.fld, .inr ⟨dx, wordOf "BadText", upd_same, ?_, (by show 1 ≤ 900; decide), mk_fields q.1 q dx nx ne⟩⟩
      rw [upd_ne ne, upd_same]
/-- such an exception is raised -/
def raisesF (C : Addr) (fs : List (Str × V)) (H : Hp) (E : XK) : Prop := ∀ d H', Same H H' → H d = none → H' d = some (.xd fs) → E (.ref C) (some d) H'
theorem raisesF.same {H H1 : Hp} {E : XK} {fs : List (Str × V)} (s : Same H H1) (q : raisesF C fs H E) : raisesF C fs H1 E := fun d H' s' n e => q d H' (s.trans s') (s.free n) e
/-- what the making of such an exception wishes -/
def MkF (C a : Addr) (H : Hp) (E : XK) : VK := fun v H2 => v = .non ∧ ∃ (d : Addr) (fs : List (Str × V)), H2 a = some (exo a C (some d)) ∧ H2 d = some (exd d fs) ∧ H d = none ∧ E (.ref C) (some d) (upd (del H2 a) d (.xd fs))
theorem raise_F {H : Hp} {E : XK} {fs : List (Str × V)} {a : Addr} (na : H a = none) (q : raisesF C fs H E) : madeF a C fs (upd H a (exo a C none)) (MkF C a H E) := by
  refine ⟨upd_same, fun dx H' nx ne keep h1 h2 => ?_⟩
  have hd : H dx = none := by
    rw [upd_ne ne] at nx
    exact nx
  refine ⟨rfl, dx, fs, h1, h2, hd, q dx _ (fun z o hz => ?_) hd upd_same⟩
  have n1 : z ≠ a := ne_of_none hz na
  have n2 : z ≠ dx := ne_of_none hz hd
  rw [upd_ne n2, del_ne n1, keep z n1 n2, upd_ne n1]
  exact hz
theorem raise_x {H : Hp} {E : XK} {i : Nat} (i1 : i ≤ 200000) (q : raisesF C (atOf (i : Int)) H E) : [V.int (i : Int)].length ≤ 1000 ∧ ∀ a, H a = none → spBTx C (.ref a :: ([.int (i : Int)] ++ [])) (upd H a (exo a C none)) (MkF C a H E) (fun _ _ _ => False) :=
  ⟨(by show 1 ≤ 1000; decide), fun a na => ⟨a, i, rfl, i1, raise_F na q⟩⟩
theorem raise_m {H : Hp} {E : XK} {x : Str} (lx : x.length ≤ 100) (q : raisesF C (flawOf x) H E) : [V.str x].length ≤ 1000 ∧ ∀ a, H a = none → spBTm C (.ref a :: ([.str x] ++ [])) (upd H a (exo a C none)) (MkF C a H E) (fun _ _ _ => False) :=
  ⟨(by show 1 ≤ 1000; decide), fun a na => ⟨a, x, rfl, lx, raise_F na q⟩⟩
/-- a reading raises BadText at i -/
def raisesM (C x d w : Addr) (i : Nat) (H : Hp) (E : XK) : Prop := ∀ e H', Mov x d w H H' → H e = none → H' e = some (.xd (atOf (i : Int))) → E (.ref C) (some e) H'
theorem raisesM.F {x d w : Addr} {i : Nat} {H : Hp} {E : XK} (q : raisesM C x d w i H E) : raisesF C (atOf (i : Int)) H E := fun e H' s n h => q e H' (Same.mov s) n h
/-- need_term -/
def spNeedG (C : Addr) : Sp := fun vs H Q E => ∃ T : AT, vs = [T.v] ∧ T.In H ∧ T.Ok ∧ T.count ≤ 5000 ∧ (∀ H', Same H H' → FlawIs T none → Q .non H') ∧ ∀ x, FlawIs T (some x) → raisesF C (flawOf x) H E
theorem flaw_len {T : AT} {x : Str} (h : FlawIs T (some x)) : x.length ≤ 100 := by
  rcases Nat.lt_or_ge 24 T.count with c | c
  · rw [Option.some.inj (h.many c)]; decide +kernel
  · rcases h.other c with e | e | e
    · cases e
    · rw [Option.some.inj e]; decide +kernel
    · rw [Option.some.inj e]; decide +kernel
theorem ok_needG {f : Addr} {fd fdI : FuncData} (F : Fun K "need_term" "need_term" sNeedT f fd) (R : ErrF K mg "BadTerm" "flaw" CN C fN fI) (GI : FnOk P w K mg base CX0 2 fI fdI ["self", "flaw"] (spBTm C)) (bI : Binds K fdI ["self", "flaw"] []) (GF : C8.Cal P w K mg base 4 "flaw_of" spFlaw []) :
    FnOk P w K mg base (L2.CX P w) 5 f fd ["term"] (spNeedG C) := by
  refine F.okX scNeedT (fun vs H Q E h => ?_) (fun cdv A outer s H vs Q E hr h => ?_)
  · obtain ⟨T, rfl, _⟩ := h
    rfl
  · obtain ⟨T, rfl, hin, ok, hc, q1, q2⟩ := h
    refine ⟨_, pss_cons (ps_set (i := 1) scNeedT.nd rfl (.inl rfl) (C8.pe_c GF hr (by decide) (by rfl) (pa_cons (pv 0) pa_nil)))
      (pss_one (ps_if (pt_cmpR op_notN (pv 1) pe_non (nomark _)) (pss_one (ps_raise rfl (takes_of rfl rfl rfl rfl) (pmk_oex R.oex R.iC R.tI GI (hr.mono (by decide)) bI .nil pass0 (by rfl) R.gC (pa_cons (pv 1) pa_nil)))) pss_nil)), ?_⟩
    refine ⟨_, rfl, T, rfl, hin, ok, hc, fun r H1 s1 fl => ?_⟩
    cases r with
    | none => exact ⟨_, rfl, rfl, _, rfl, iteF (q1 _ s1 fl)⟩
    | some x => exact ⟨_, rfl, rfl, _, rfl, iteT ⟨_, rfl, raise_m (flaw_len fl) ((q2 x fl).same s1)⟩⟩
end
end Nv

set_option maxRecDepth 100000
set_option maxHeartbeats 4000000
/-! del xs[-m:] of a list -/
namespace Nv
open PySem PySem.Spec PyProof.Rows L2 MeetsSeq
open Sem (wp)
theorem filterMap_same {α β : Type} {f g : α → Option β} : ∀ {L : List α}, (∀ x ∈ L, f x = g x) → L.filterMap f = L.filterMap g
  | [], _ => rfl
  | x :: L, h => by
    rw [List.filterMap_cons, List.filterMap_cons, h x List.mem_cons_self, filterMap_same fun y hy => h y (List.mem_cons_of_mem _ hy)]
theorem filt_ge {α : Type} (a : Nat) : ∀ (L : List α) (k : Nat), (L.zipIdx k).filterMap (fun p => if decide ((a : Int) ≤ (p.2 : Int)) = true then none else some p.1) = L.take (a - k)
  | [], k => by simp
  | x :: L, k => by
    rw [List.zipIdx_cons, List.filterMap_cons]
    by_cases h : (a : Int) ≤ (k : Int)
    · have e : a - k = 0 := by omega
      have e2 : a - (k + 1) = 0 := by omega
      rw [filt_ge a L (k + 1), e, e2]
      simp [h]
    · have e : a - k = (a - (k + 1)) + 1 := by omega
      rw [filt_ge a L (k + 1), e]
      simp [h]
section
variable {prog : Program} {w : World} {A : Around} {E : Value → Shared → Prop} {s : Shared}
theorem bounds_last {m n : Nat} (h1 : 1 ≤ m) (h2 : m ≤ n) : sliceBounds (some (-(m : Int))) none none n = (((n - m : Nat) : Int), (n : Int), 1) := by
  simp only [sliceBounds, Option.getD_none]
  have h : (-(m : Int)) < 0 := by omega
  simp only [h, if_true, show (1 : Int) > 0 by decide]
  congr 1
  omega
theorem delItem_last {l sl : Addr} {items : Array Value} {n m : Nat} {vl : Value} {Q : Unit → Shared → Prop} (e : s.heap.get? l = some { cls := .type "list", data := .seq items n })
    (hs : s.heap.IsSliceOf sl vl .none .none) (pl : IsPart vl (some (-(m : Int)))) (h1 : 1 ≤ m) (h2 : m ≤ items.size) (hsz : items.size ≤ sizeLine)
    (h : ∀ f : Array Value → Array Value, f items = (items.toList.take (items.size - m)).toArray → Q () { s with heap := s.heap.update l (Obj.mapSeq f) }) :
    wpAny (model prog w) A (delItem (.ref l) (.ref sl)) Q E s := by
  have hl : s.heap.IsList l items := PySem.IsL.isList e
  obtain ⟨os, hos, hcs, hds⟩ := id hs
  have hTs : s.TypeIs (.ref sl) "slice" := ⟨os, hos, hcs⟩
  have hstep : ¬ ((rawPart none == rawInt 0) = true) := Bool.false_ne_true
  refine wpAny_delItem_slot hl.typeIs (by decide) F.slot_list_delitem ?_
  refine wpAny_call_entry F.slot_list_delitem hl.typeIs F.entry_list_delitem ?_ (F.args_list_delitem_2 _ _)
  show wpAny _ _ (Builtin.List.listSubscript? (.ref sl) >>= _) _ _ s
  refine wpAny_bind ?_
  unfold Builtin.List.listSubscript?
  refine wpAny_bind (wpAny_specialOf hTs slice_no_index ?_)
  simp only [Option.isNone_none, if_true]
  refine wpAny_pure ?_
  show wpAny _ _ (typeOf (.ref sl) >>= _) _ _ s
  refine wpAny_bind (wpAny_typeOf hTs ?_)
  first
    | rw [if_neg (by decide)]
    | refine PySem.W.KFB.if_not (by decide) ?_
  rw [listSliceParts_eq]
  refine wpAny_bind (wpAny_bind (wpAny_field hos hds (x := .none) rfl (wpAny_bind (wpAny_listPart .none ?_))))
  rw [if_neg hstep]
  refine wpAny_bind (wpAny_field hos hds (x := vl) rfl (wpAny_bind (wpAny_listPart pl ?_)))
  refine wpAny_bind (wpAny_field hos hds (x := .none) rfl (wpAny_bind (wpAny_listPart .none (wpAny_pure ?_))))
  unfold Builtin.List.listItems
  refine wpAny_bind (wpAny_bind (wpAny_seqItems e rfl (wpAny_pure ?_)))
  refine wpAny_bind (wpAny_of_eq ((sliceIndices_raw (some (-(m : Int))) none none items.size (by simp)).trans (congrArg (pure : Int × Int × Int → Sem (Int × Int × Int)) (bounds_last h1 h2))) ?_)
  refine wpAny_bind (wpAny_rule ?_)
  have hf : ∀ f : Value × Nat → Option Value, (∀ x (k : Nat), k < items.size → f (x, k) = if decide (((items.size - m : Nat) : Int) ≤ (k : Int)) = true then none else some x) →
      (items.toList.zipIdx.filterMap f) = items.toList.take (items.size - m) := fun f hf => by
    have z := filt_ge (items.size - m) items.toList 0
    rw [Nat.sub_zero] at z
    rw [← z]
    refine filterMap_same fun p hp => ?_
    obtain ⟨x, k⟩ := p
    have hk : k < items.size := by
      have := List.mem_zipIdx hp
      rw [← Array.length_toList]
      omega
    exact hf x k hk
  have hsel : ∀ k : Nat, k < items.size → (decide (((items.size - m : Nat) : Int) ≤ (k : Int)) && decide ((k : Int) < (items.size : Int)) && (((k : Int) - ((items.size - m : Nat) : Int)) % 1 == 0)) = decide (((items.size - m : Nat) : Int) ≤ (k : Int)) := fun k hk => by
    rw [decide_eq_true (show (k : Int) < (items.size : Int) by omega), Bool.and_true, Int.emod_one]
    exact Bool.and_true _
  refine wpAny_bind (wpAny_updateSeq (hz := hsz) (_hz' := ?_) e rfl ?_)
  · refine wpAny_bind (wpAny_letGo ?_)
    refine wpAny_pure ⟨.none, rfl, h _ ?_⟩
    refine congrArg List.toArray (hf _ fun x k hk => ?_)
    show (if (decide (((items.size - m : Nat) : Int) ≤ (k : Int)) && decide ((k : Int) < (items.size : Int)) && (((k : Int) - ((items.size - m : Nat) : Int)) % 1 == 0)) = true then none else some x) = _
    rw [hsel k hk]
  · rw [List.size_toArray]
    refine Nat.le_trans (List.length_filterMap_le _ _) ?_
    rw [List.length_zipIdx, Array.length_toList]
    omega
end
section
variable {X : Cx}
/-- del xs[-m:] -/
def tDelT (to : TE) (tl : TO) : TS := fun D σ H => to σ H fun x H1 => tl σ H1 fun y H2 => ∃ (l : Addr) (xs : List V) (m : Nat), x = .ref l ∧ y = some (-(m : Int)) ∧ H2 l = some (.lst xs) ∧ 1 ≤ m ∧ m ≤ xs.length ∧ D.nx σ (upd H2 l (.lst (xs.take (xs.length - m))))
theorem ps_delLast {o : Expr} {lo : Option Expr} {to : TE} {tl : TO} {pos tpos p2 : Pos} (ho : PE X o to) (hi : PO X lo tl) : PS X (.Delete [.Subscript o (.Slice lo none none p2) tpos] pos) (tDelT to tl) := by
  refine ⟨fun pins s σ H D I h => ?_⟩
  refine wpAny_Delete (wpAny_deleteEach_cons (wpAny_delete_Subscript (thn (ho.run pins s σ H _ I h) fun u s1 ⟨x, H1, I1, rx, q1⟩ => ?_)))
  refine wpAny_Slice (thn (hi.run pins s1 σ H1 _ I1 q1) fun vl s2 ⟨y, H2, I2, pl, l, xs, m, ex, ey, hH, h1, h2, q2⟩ => ?_)
  rw [evalPart_none]
  refine wpAny_pure ?_
  refine wpAny_pure ?_
  subst ex
  subst ey
  cases (show u = Value.ref l from rx)
  have I4 : Inv X pins σ H2 { s2 with heap := s2.heap.push { cls := .type "slice", data := .fields #[vl, .none, .none] } } := I2.kept (t' := s2.toks) fun b ob q => Heap.get?_push_of_some _ q
  obtain ⟨z, its, n, r, hl, e⟩ := I4.lstM hH
  refine delItem_last (m := m) e (Heap.IsSliceOf.new ..) pl h1 (by rw [List.size_toArray, ← hl]; exact h2) (by rw [List.size_toArray, ← hl]; exact z) (fun f hf => ?_)
  refine wpAny_deleteEach_nil ⟨σ, _, ?_, q2⟩
  refine I4.lset (its' := its.take (its.length - m)) (t' := s2.toks) hH e ?_ ?_ ?_
  · rw [hf, List.size_toArray]
  · rw [← hl]
    exact r.take _
  · rw [List.length_take]
    omega
end
end Nv

set_option maxRecDepth 100000
set_option maxHeartbeats 8000000
namespace Nv
open PySem PySem.Spec PyProof.Rows L2 LamX
inductive ET where
  | sh (t b : Int)
  | le (x : Str)
  | two (o : Op) (A B : ET)
  | un (A : ET)
def AT.er : AT → ET
  | .sh _ _ t b => .sh t b
  | .le _ x => .le x
  | .two _ o A B => .two o A.er B.er
  | .un _ A => .un A.er
def ET.count : ET → Nat
  | .two _ A B => 1 + A.count + B.count
  | .un A => 1 + A.count
  | _ => 1
def ET.deep : ET → Nat
  | .two _ A B => max A.deep B.deep
  | .un A => A.deep + 1
  | _ => 0
def ET.lets : ET → List Str
  | .le x => [x]
  | .two _ A B => A.lets ++ B.lets
  | .un A => A.lets
  | _ => []
def ET.Ok : ET → Prop
  | .sh t b => ShOk t b
  | .le x => Small x
  | .two _ A B => A.Ok ∧ B.Ok
  | .un A => A.Ok
/-- so many letters -/
def ET.many : ET → Nat
  | .le _ => 1
  | .two _ A B => A.many + B.many
  | .un A => A.many
  | _ => 0
theorem AT.er_count : ∀ A : AT, A.er.count = A.count
  | .sh _ _ _ _ => rfl
  | .le _ _ => rfl
  | .two _ _ A B => by show 1 + A.er.count + B.er.count = 1 + A.count + B.count; rw [A.er_count, B.er_count]
  | .un _ A => by show 1 + A.er.count = 1 + A.count; rw [A.er_count]
theorem AT.er_deep : ∀ A : AT, A.er.deep = A.deep
  | .sh _ _ _ _ => rfl
  | .le _ _ => rfl
  | .two _ _ A B => by show max A.er.deep B.er.deep = max A.deep B.deep; rw [A.er_deep, B.er_deep]
  | .un _ A => by show A.er.deep + 1 = A.deep + 1; rw [A.er_deep]
theorem AT.er_lets : ∀ A : AT, A.er.lets = A.lets
  | .sh _ _ _ _ => rfl
  | .le _ _ => rfl
  | .two _ _ A B => by show A.er.lets ++ B.er.lets = A.lets ++ B.lets; rw [A.er_lets, B.er_lets]
  | .un _ A => A.er_lets
theorem AT.er_ok : ∀ A : AT, A.er.Ok ↔ A.Ok
  | .sh _ _ _ _ => Iff.rfl
  | .le _ _ => Iff.rfl
  | .two _ _ A B => and_congr A.er_ok B.er_ok
  | .un _ A => A.er_ok
theorem Twin.mono {K : PySem.W.Frag} {H : Hp} {x y : V} : ∀ {n m : Nat}, n ≤ m → Twin K H n x y → Twin K H m x y := by
  intro n m h t
  induction m with
  | zero => rwa [Nat.le_zero.mp h] at t
  | succ m ih =>
    rcases Nat.lt_or_eq_of_le h with h | h
    · exact (ih (by omega)).up
    · rwa [h] at t
/-- reckonings that are built alike are equal -/
theorem twin_er {K : PySem.W.Frag} {H : Hp} : ∀ (T U : AT) (n : Nat), T.er = U.er → T.In H → U.In H → T.count ≤ n → Twin K H (n + 1) T.v U.v
  | .sh p q t b, U, n, e, hin, hu, hc => by
    obtain ⟨m, rfl⟩ : ∃ m, n = m + 1 := ⟨n - 1, by have : 1 ≤ n := hc; omega⟩
    cases U with
    | sh p2 q2 t2 b2 =>
      cases e
      refine twin_all (.inr ⟨SqT.of hin.1, SqT.of hu.1⟩) (by show 2 ≤ 1000; decide) (.cons (Twin.one (Scal.str _) _) (.cons ?_ .nil))
      exact twin_all (.inr ⟨SqT.of hin.2, SqT.of hu.2⟩) (by show 2 ≤ 1000; decide) (.cons (Twin.one (Scal.int _) _) (.cons (Twin.one (Scal.int _) _) .nil))
    | le _ _ => cases e
    | two _ _ _ _ => cases e
    | un _ _ => cases e
  | .le p x, U, n, e, hin, hu, hc => by
    cases U with
    | le p2 x2 =>
      cases e
      exact twin_all (.inr ⟨SqT.of hin, SqT.of hu⟩) (by show 2 ≤ 1000; decide) (.cons (Twin.one (Scal.str _) _) (.cons (Twin.one (Scal.str _) _) .nil))
    | sh _ _ _ _ => cases e
    | two _ _ _ _ => cases e
    | un _ _ => cases e
  | .two p o A B, U, n, e, hin, hu, hc => by
    have hc' : 1 + A.count + B.count ≤ n := hc
    obtain ⟨m, rfl⟩ : ∃ m, n = m + 1 := ⟨n - 1, by omega⟩
    cases U with
    | two p2 o2 A2 B2 =>
      have e : ET.two o A.er B.er = ET.two o2 A2.er B2.er := e
      obtain ⟨rfl, e1, e2⟩ := ET.two.inj e
      exact twin_all (.inr ⟨SqT.of hin.1, SqT.of hu.1⟩) (by show 3 ≤ 1000; decide) (.cons (Twin.one (Scal.str _) _) (.cons (twin_er A A2 m e1 hin.2.1 hu.2.1 (by omega)) (.cons (twin_er B B2 m e2 hin.2.2 hu.2.2 (by omega)) .nil)))
    | sh _ _ _ _ => cases e
    | le _ _ => cases e
    | un _ _ => cases e
  | .un p A, U, n, e, hin, hu, hc => by
    have hc' : 1 + A.count ≤ n := hc
    obtain ⟨m, rfl⟩ : ∃ m, n = m + 1 := ⟨n - 1, by omega⟩
    cases U with
    | un p2 A2 =>
      have e : ET.un A.er = ET.un A2.er := e
      exact twin_all (.inr ⟨SqT.of hin.1, SqT.of hu.1⟩) (by show 2 ≤ 1000; decide) (.cons (Twin.one (Scal.str _) _) (.cons (twin_er A A2 m (ET.un.inj e) hin.2 hu.2 (by omega)) .nil))
    | sh _ _ _ _ => cases e
    | le _ _ => cases e
    | two _ _ _ _ => cases e
theorem good_er {T U : AT} {L : List Str} (e : U.er = T.er) (g : Good T L) : Good U L := by
  refine ⟨?_, ?_, ?_, g.few, ?_⟩
  · rw [← U.er_ok, e, T.er_ok]; exact g.ok
  · rw [← U.er_count, e, T.er_count]; exact g.cnt
  · rw [← U.er_deep, e, T.er_deep]; exact g.deep
  · rw [← U.er_lets, e, T.er_lets]; exact g.lets
def Lf.et : Lf → ET
  | .sh t d => .sh t d
  | .le x => .le x
/-- what pieces make, each sign behind its things; the last one made ahead -/
def evo : List Pc → List ET → Option (List ET)
  | [], st => some st
  | .lf l :: r, st => evo r (l.et :: st)
  | .op (.op o) :: r, B :: A :: st => evo r (.two o A B :: st)
  | .op .undo :: r, A :: st => evo r (.un A :: st)
  | _, _ => none
theorem evo_post : ∀ (T : AT) (r : List Pc) (st : List ET), evo (T.post ++ r) st = evo r (T.er :: st)
  | .le _ x, r, st => rfl
  | .sh _ _ t d, r, st => rfl
  | .un _ A, r, st => by
    show evo ((A.post ++ [.op .undo]) ++ r) st = _
    rw [List.append_assoc, evo_post A]
    rfl
  | .two _ o A B, r, st => by
    show evo ((A.post ++ B.post ++ [.op (.op o)]) ++ r) st = _
    rw [List.append_assoc, List.append_assoc, evo_post A, evo_post B]
    rfl
theorem post_len : ∀ T : AT, T.post.length = T.count
  | .le _ x => rfl
  | .sh _ _ t d => rfl
  | .un _ A => by
    show (A.post ++ [Pc.op .undo]).length = 1 + A.count
    rw [List.length_append, post_len A, List.length_singleton]; omega
  | .two _ o A B => by
    show (A.post ++ B.post ++ [Pc.op (.op o)]).length = 1 + A.count + B.count
    rw [List.length_append, List.length_append, post_len A, post_len B, List.length_singleton]; omega
theorem cut_last {vs : List V} {m : Nat} (h1 : 1 ≤ m) (h : m ≤ vs.length) : cutV vs (some (-(m : Int))) none = vs.drop (vs.length - m) := by
  unfold cutV
  have e : HT.sIx vs.length 0 (some (-(m : Int))) = vs.length - m := by
    show (if (-(m : Int)) < 0 then ((-(m : Int)) + (vs.length : Int)).toNat else _) = _
    rw [if_pos (by omega)]
    omega
  rw [e]
  exact List.take_of_length_le (by rw [List.length_drop]; show _ ≤ vs.length - _; exact Nat.le_refl _)
theorem pair_at {α : Type} {R : V → α → Prop} : ∀ {vs : List V} {xs : List α} {i : Nat} {v : V}, Paired R vs xs → vs[i]? = some v → ∃ x, xs[i]? = some x ∧ R v x
  | _, _, i, v, .nil, h => by cases h
  | _, _, 0, v, .cons r _, h => by cases h; exact ⟨_, rfl, r⟩
  | _, _, i + 1, v, .cons _ rr, h => pair_at (i := i) rr h
end Nv

set_option maxRecDepth 100000
set_option maxHeartbeats 8000000
namespace Nv
open PySem PySem.Spec PyProof.Rows L2 LamX
/-! any text, read sign by sign -/
def zAbc : Str := "abcdefghijklmnopqrstuvwxyz"
def zFig : Str := "0123456789" ++ "/"
theorem zFig_eq : zFig.cps.toList = [48, 49, 50, 51, 52, 53, 54, 55, 56, 57, 47] := by decide +kernel
theorem in_fig {c : Nat} : inS zFig c = true ↔ (47 ≤ c ∧ c ≤ 57) := by
  unfold inS
  rw [zFig_eq, decide_eq_true_iff]
  simp only [List.mem_cons, List.not_mem_nil, or_false]
  omega
theorem in_abc {c : Nat} : inS zAbc c = true ↔ (97 ≤ c ∧ c ≤ 122) := by
  unfold inS zAbc
  rw [abc_eq, decide_eq_true_iff, List.mem_range'_1]
  omega
def fgL (L : List Nat) : Nat := lenW (inS zFig) L
def abL (L : List Nat) : Nat := lenW (inS zAbc) L
def wordF (c : Nat) (r : List Nat) (fr : Bool) : List Nat := if c = 45 ∧ fr = true then 45 :: r.take (fgL r) else (c :: r).take (fgL (c :: r))
/-- the next sign where a reckoning is wanted -/
def lexF (c : Nat) (r : List Nat) (fr : Bool) : Option Tk :=
  if c = 40 then some .opn else if c = 126 then some .wav
  else if inS zAbc c = true then (if abL (c :: r) ≤ 6 then some (.lf (.le (SX.S ((c :: r).take (abL (c :: r)))))) else none)
  else (readP (wordF c r fr)).map fun p => .lf (.sh p.1 p.2)
def opT (c : Nat) : Option Op := if c = 43 then some .plus else if c = 45 then some .less else if c = 42 then some .times else none
/-- the next sign behind a reckoning -/
def lexT (c : Nat) : Option Tk := if c = 41 then some .sht else (opT c).map .op
def nxt (S : RS) (c : Nat) (r : List Nat) : Option (Tk × RS) := (if S.st = true then lexT c else lexF c r S.fr).bind fun k => (S.step k).map fun S' => (k, S')
/-- what reading makes of the rest of a text: the place of the first sign that can't stand there, or the machine behind it -/
def GF : Nat → List Nat → Nat → RS → Nat ⊕ RS
  | _, [], i, S => if S.st = true ∧ S.br = 0 then .inr S else .inl i
  | 0, _ :: _, i, _ => .inl i
  | n + 1, c :: r, i, S => if c = 32 then GF n r (i + 1) S else match nxt S c r with
    | none => .inl i
    | some (k, S') => GF n (r.drop (k.chars.length - 1)) (i + k.chars.length) S'
theorem GF_succ (n c : Nat) (r : List Nat) (i : Nat) (S : RS) : GF (n + 1) (c :: r) i S = if c = 32 then GF n r (i + 1) S else match nxt S c r with
    | none => .inl i
    | some (k, S') => GF n (r.drop (k.chars.length - 1)) (i + k.chars.length) S' := rfl
theorem GF_fuel : ∀ (n m : Nat) (L : List Nat) (i : Nat) (S : RS), L.length ≤ n → L.length ≤ m → GF n L i S = GF m L i S
  | 0, 0, L, i, S, h1, h2 => rfl
  | 0, m + 1, [], i, S, h1, h2 => rfl
  | n + 1, 0, [], i, S, h1, h2 => rfl
  | 0, m + 1, c :: r, i, S, h1, h2 => by cases h1
  | n + 1, 0, c :: r, i, S, h1, h2 => by cases h2
  | n + 1, m + 1, [], i, S, h1, h2 => rfl
  | n + 1, m + 1, c :: r, i, S, h1, h2 => by
    rw [List.length_cons] at h1 h2
    rw [GF_succ, GF_succ, GF_fuel n m r (i + 1) S (by omega) (by omega)]
    cases nxt S c r with
    | none => rfl
    | some p =>
      obtain ⟨k, S'⟩ := p
      dsimp only
      rw [GF_fuel n m _ _ S' (by rw [List.length_drop]; omega) (by rw [List.length_drop]; omega)]
def GG (L : List Nat) (i : Nat) (S : RS) : Nat ⊕ RS := GF L.length L i S
theorem GG_nil (i : Nat) (S : RS) : GG [] i S = if S.st = true ∧ S.br = 0 then .inr S else .inl i := rfl
theorem GG_bl (r : List Nat) (i : Nat) (S : RS) : GG (32 :: r) i S = GG r (i + 1) S := by
  unfold GG
  rw [List.length_cons, GF_succ, if_pos rfl]
theorem GG_err {c : Nat} {r : List Nat} {i : Nat} {S : RS} (h : c ≠ 32) (hn : nxt S c r = none) : GG (c :: r) i S = .inl i := by
  unfold GG
  rw [List.length_cons, GF_succ, if_neg h, hn]
theorem GG_tok {c : Nat} {r : List Nat} {i : Nat} {S S' : RS} {k : Tk} (h : c ≠ 32) (hn : nxt S c r = some (k, S')) : GG (c :: r) i S = GG (r.drop (k.chars.length - 1)) (i + k.chars.length) S' := by
  unfold GG
  rw [List.length_cons, GF_succ, if_neg h, hn]
  exact GF_fuel _ _ _ _ _ (by rw [List.length_drop]; omega) (Nat.le_refl _)
theorem GG_skip : ∀ (L : List Nat) (i : Nat) (S : RS), GG L i S = GG (L.drop (lenW isBl L)) (i + lenW isBl L) S
  | [], i, S => rfl
  | c :: r, i, S => by
    by_cases h : c = 32
    · subst h
      have e : lenW isBl (32 :: r) = lenW isBl r + 1 := if_pos rfl
      rw [GG_bl, e, GG_skip r, List.drop_succ_cons, show i + 1 + lenW isBl r = i + (lenW isBl r + 1) by omega]
    · have e : lenW isBl (c :: r) = 0 := if_neg (by show ¬ (c == 32) = true; simpa using h)
      rw [e]
      rfl
/-! what the signs are -/
theorem readP_ok {L : List Nat} {t d : Int} (h : readP L = some (t, d)) : ShOk t d ∧ textL t d = L := by
  unfold readP at h
  cases h1 : fig (bare (cutAt L).1) with
  | none => rw [h1] at h; cases botP (cutAt L).2 <;> cases h
  | some a =>
    cases h2 : botP (cutAt L).2 with
    | none => rw [h1, h2] at h; cases h
    | some b =>
      rw [h1, h2] at h
      have h : (if b = 0 then none else if textL (frT (sg (neg L) a) b) (frB (sg (neg L) a) b) = L then some (frT (sg (neg L) a) b, frB (sg (neg L) a) b) else none) = some (t, d) := h
      split at h
      · cases h
      · rename_i b0
        split at h
        · rename_i e
          cases h
          have b0 : (b : Int) ≠ 0 := by omega
          have la := fig_lt h1
          have lb : b < 10 ^ 12 := by
            cases ho : (cutAt L).2 with
            | none => rw [ho] at h2; cases h2; decide
            | some B => rw [ho] at h2; exact fig_lt h2
          have t1 := frT_le (sg (neg L) a) b0
          have t2 := frB_le (sg (neg L) a) b0
          have t3 := frB_pos (sg (neg L) a) b0
          rw [abs_sgn] at t1
          exact ⟨⟨by omega, by omega, by omega, fr_low _ b0⟩, e⟩
        · cases h
theorem readP_nil : readP [] = none := by decide
theorem take_drop1 {c : Nat} {r : List Nat} {n : Nat} (h : 1 ≤ n) : c :: r = (c :: r).take n ++ r.drop (n - 1) := by
  obtain ⟨m, rfl⟩ : ∃ m, n = m + 1 := ⟨n - 1, by omega⟩
  rw [List.take_succ_cons, Nat.add_sub_cancel, List.cons_append, List.take_append_drop]
theorem wordF_head (c : Nat) (r : List Nat) (fr : Bool) (h : wordF c r fr ≠ []) : ∃ n, 1 ≤ n ∧ n ≤ (c :: r).length ∧ wordF c r fr = (c :: r).take n := by
  unfold wordF at h ⊢
  split
  · rename_i e
    rw [e.1]
    refine ⟨fgL r + 1, by omega, ?_, ?_⟩
    · have := lenW_le (inS zFig) r
      rw [List.length_cons]; unfold fgL; omega
    · rw [List.take_succ_cons]
  · rename_i e
    rw [if_neg e] at h
    refine ⟨fgL (c :: r), ?_, lenW_le _ _, rfl⟩
    rcases Nat.eq_zero_or_pos (fgL (c :: r)) with z | z
    · rw [z, List.take_zero] at h; exact absurd rfl h
    · exact z
theorem lenW_all_in (p : Nat → Bool) : ∀ (L : List Nat), ∀ x ∈ L.take (lenW p L), p x = true
  | [], x, h => by cases h
  | c :: r, x, h => by
    unfold lenW at h
    split at h
    · rename_i hc
      rw [List.take_succ_cons] at h
      rcases List.mem_cons.mp h with e | e
      · rw [e]; exact hc
      · exact lenW_all_in p r x e
    · cases h
theorem op_chr {c : Nat} {o : Op} (h : opT c = some o) : c = o.chr := by
  unfold opT at h
  split at h
  · rename_i e; cases h; exact e
  · split at h
    · rename_i e; cases h; exact e
    · split at h
      · rename_i e; cases h; exact e
      · cases h
/-- a sign that is read stands there -/
theorem lexF_ok {c : Nat} {r : List Nat} {fr : Bool} {k : Tk} (h : lexF c r fr = some k) : TkOk k ∧ 1 ≤ k.chars.length ∧ c :: r = k.chars ++ r.drop (k.chars.length - 1) := by
  unfold lexF at h
  split at h
  · rename_i e; cases h; exact ⟨trivial, Nat.le_refl _, by rw [e]; rfl⟩
  · split at h
    · rename_i e; cases h; exact ⟨trivial, Nat.le_refl _, by rw [e]; rfl⟩
    · split at h
      · rename_i e
        split at h
        · rename_i e6
          cases h
          have n1 : 1 ≤ abL (c :: r) := by
            unfold abL lenW
            rw [if_pos e]; omega
          have nl : abL (c :: r) ≤ (c :: r).length := lenW_le _ _
          have lt : ((c :: r).take (abL (c :: r))).length = abL (c :: r) := by rw [List.length_take]; omega
          refine ⟨⟨?_, ?_, ?_⟩, ?_, ?_⟩
          · rw [SX.S_len, lt]; exact n1
          · rw [SX.S_len, lt]; exact e6
          · intro x hx
            have := lenW_all_in (inS zAbc) (c :: r) x hx
            exact of_decide_eq_true this
          · show 1 ≤ ((c :: r).take (abL (c :: r))).length
            omega
          · show c :: r = (c :: r).take (abL (c :: r)) ++ r.drop (((c :: r).take (abL (c :: r))).length - 1)
            rw [lt]
            exact take_drop1 n1
        · cases h
      · obtain ⟨⟨t, d⟩, h1, h2⟩ := Option.map_eq_some_iff.mp h
        cases h2
        obtain ⟨ok, et⟩ := readP_ok h1
        have ne : wordF c r fr ≠ [] := fun z => by rw [z, readP_nil] at h1; cases h1
        obtain ⟨n, n1, n2, en⟩ := wordF_head c r fr ne
        have lt : (textL t d).length = n := by rw [et, en, List.length_take]; omega
        refine ⟨ok, ?_, ?_⟩
        · show 1 ≤ (textL t d).length
          omega
        · show c :: r = textL t d ++ r.drop ((textL t d).length - 1)
          rw [lt, et, en]
          exact take_drop1 n1
theorem lexT_ok {c : Nat} {k : Tk} (h : lexT c = some k) : k.chars = [c] ∧ TkOk k := by
  unfold lexT at h
  split at h
  · rename_i e; cases h; exact ⟨by rw [e]; rfl, trivial⟩
  · obtain ⟨o, h1, h2⟩ := Option.map_eq_some_iff.mp h
    cases h2
    exact ⟨by rw [op_chr h1]; rfl, trivial⟩
end Nv

set_option maxRecDepth 100000
set_option maxHeartbeats 8000000
namespace Nv
open PySem PySem.Spec PyProof.Rows L2 LamX
/-! what stands while reading -/
def Wd.isBr : Wd → Bool
  | .br => true
  | _ => false
def Wd.isOp : Wd → Bool
  | .op _ => true
  | _ => false
def brN (W : List Wd) : Nat := W.countP Wd.isBr
def opN (W : List Wd) : Nat := W.countP Wd.isOp
/-- how many parts and signs there are -/
def RS.many (S : RS) : Nat := S.D.length + (S.W.length - brN S.W)
theorem evo_app : ∀ (A B : List Pc) (st : List ET), evo (A ++ B) st = (evo A st).bind (evo B)
  | [], B, st => rfl
  | .lf l :: A, B, st => evo_app A B (l.et :: st)
  | .op (.op o) :: A, B, [] => rfl
  | .op (.op o) :: A, B, [_] => rfl
  | .op (.op o) :: A, B, Y :: X :: st => evo_app A B (.two o X Y :: st)
  | .op .undo :: A, B, [] => rfl
  | .op .undo :: A, B, X :: st => evo_app A B (.un X :: st)
  | .op .br :: A, B, [] => rfl
  | .op .br :: A, B, [_] => rfl
  | .op .br :: A, B, _ :: _ :: _ => rfl
def sumE (st : List ET) : Nat := (st.map ET.count).sum
/-- what the pieces make: n reckonings, well built -/
structure Made (D : List Pc) (n : Nat) : Prop where
  ex : ∃ st, evo D [] = some st ∧ st.length = n ∧ (∀ T ∈ st, T.Ok) ∧ sumE st = D.length
theorem Made.lf {D : List Pc} {n : Nat} (h : Made D n) {l : Lf} (ok : l.Ok) : Made (D ++ [.lf l]) (n + 1) := by
  obtain ⟨st, e, hl, hok, hs⟩ := h.ex
  refine ⟨l.et :: st, by rw [evo_app, e]; rfl, by rw [List.length_cons, hl], fun T hT => ?_, ?_⟩
  · rcases List.mem_cons.mp hT with z | z
    · rw [z]; cases l <;> exact ok
    · exact hok T z
  · have c1 : l.et.count = 1 := by cases l <;> rfl
    show l.et.count + sumE st = _
    rw [c1, hs, List.length_append, List.length_singleton]; omega
theorem Made.undo {D : List Pc} {n : Nat} (h : Made D (n + 1)) : Made (D ++ [.op .undo]) (n + 1) := by
  obtain ⟨st, e, hl, hok, hs⟩ := h.ex
  cases st with
  | nil => cases hl
  | cons A st =>
    refine ⟨.un A :: st, by rw [evo_app, e]; rfl, hl, fun T hT => ?_, ?_⟩
    · rcases List.mem_cons.mp hT with z | z
      · rw [z]; exact hok A List.mem_cons_self
      · exact hok T (List.mem_cons_of_mem _ z)
    · have hs : A.count + sumE st = D.length := hs
      show (1 + A.count) + sumE st = _
      rw [List.length_append, List.length_singleton]; omega
theorem Made.op {D : List Pc} {n : Nat} (h : Made D (n + 2)) (o : Op) : Made (D ++ [.op (.op o)]) (n + 1) := by
  obtain ⟨st, e, hl, hok, hs⟩ := h.ex
  match st, hl with
  | B :: A :: st, hl =>
    refine ⟨.two o A B :: st, by rw [evo_app, e]; rfl, by simp only [List.length_cons] at hl ⊢; omega, fun T hT => ?_, ?_⟩
    · rcases List.mem_cons.mp hT with z | z
      · rw [z]; exact ⟨hok A (List.mem_cons_of_mem _ List.mem_cons_self), hok B List.mem_cons_self⟩
      · exact hok T (List.mem_cons_of_mem _ (List.mem_cons_of_mem _ z))
    · have hs : B.count + (A.count + sumE st) = D.length := hs
      show (1 + A.count + B.count) + sumE st = _
      rw [List.length_append, List.length_singleton]; omega
theorem brN_cons (v : Wd) (W : List Wd) : brN (v :: W) = brN W + (if v.isBr = true then 1 else 0) := List.countP_cons ..
theorem opN_cons (v : Wd) (W : List Wd) : opN (v :: W) = opN W + (if v.isOp = true then 1 else 0) := List.countP_cons ..
theorem brN_le (W : List Wd) : brN W ≤ W.length := List.countP_le_length ..
theorem settle_made {k : Nat} (hk : 1 ≤ k) : ∀ {W : List Wd} {D : List Pc}, Made D (opN W + 1) → Made (settle k D W).1 (opN (settle k D W).2 + 1) ∧ brN (settle k D W).2 = brN W ∧ (settle k D W).1.length + (settle k D W).2.length = D.length + W.length
  | [], D, h => ⟨h, rfl, rfl⟩
  | v :: W, D, h => by
    unfold settle
    split
    · rename_i c
      have h2 : Made (D ++ [.op v]) (opN W + 1) ∧ v.isBr = false := by
        cases v with
        | br => exact absurd (Nat.le_trans hk c) (by decide)
        | undo => rw [opN_cons] at h; exact ⟨Made.undo h, rfl⟩
        | op o => rw [opN_cons] at h; exact ⟨Made.op h o, rfl⟩
      obtain ⟨a, b, d⟩ := settle_made hk h2.1
      refine ⟨a, ?_, ?_⟩
      · rw [b, brN_cons, h2.2]; rfl
      · rw [d, List.length_append, List.length_singleton, List.length_cons]; omega
    · exact ⟨h, rfl, rfl⟩
theorem settle_br : ∀ {W : List Wd} (D : List Pc), 0 < brN W → ∃ D2 W2, settle 1 D W = (D2, .br :: W2)
  | [], D, h => absurd h (by decide)
  | .br :: W, D, h => ⟨D, W, if_neg (by decide)⟩
  | .undo :: W, D, h => by
    rw [brN_cons] at h
    obtain ⟨D2, W2, e⟩ := settle_br (W := W) (D ++ [.op .undo]) h
    exact ⟨D2, W2, (if_pos (by decide : 1 ≤ Wd.undo.lev)).trans e⟩
  | .op o :: W, D, h => by
    rw [brN_cons] at h
    obtain ⟨D2, W2, e⟩ := settle_br (W := W) (D ++ [.op (.op o)]) h
    exact ⟨D2, W2, (if_pos (show 1 ≤ (Wd.op o).lev from o.lev_le.1)).trans e⟩
theorem settle_all : ∀ {W : List Wd} (D : List Pc), brN W = 0 → (settle 1 D W).2 = []
  | [], D, h => rfl
  | .br :: W, D, h => by rw [brN_cons] at h; exact absurd h (Nat.succ_ne_zero _)
  | .undo :: W, D, h => by
    rw [brN_cons] at h
    have e : settle 1 D (.undo :: W) = settle 1 (D ++ [.op .undo]) W := if_pos (by decide : 1 ≤ Wd.undo.lev)
    rw [e]
    exact settle_all _ h
  | .op o :: W, D, h => by
    rw [brN_cons] at h
    have e : settle 1 D (.op o :: W) = settle 1 (D ++ [.op (.op o)]) W := if_pos (show 1 ≤ (Wd.op o).lev from o.lev_le.1)
    rw [e]
    exact settle_all _ h
structure RInv (S : RS) : Prop where
  brs : brN S.W = S.br
  md : Made S.D (opN S.W + (if S.st = true then 1 else 0))
  few : S.br ≤ 12
theorem rinv0 : RInv ⟨false, [], [], 0, true⟩ := ⟨rfl, ⟨⟨[], rfl, rfl, fun _ h => (nomatch h), rfl⟩⟩, by decide⟩
/-- a sign that can't stand has none behind it; else it counts as a part or not -/
theorem step_inv {k : Tk} {S S' : RS} (I : RInv S) (ok : TkOk k) (h : S.step k = some S') : RInv S' ∧ S'.many = S.many + (match k with | .opn => 0 | .sht => 0 | _ => 1) := by
  obtain ⟨st, D, W, br, fr⟩ := S
  obtain ⟨i1, i2, i3⟩ := I
  have i1 : brN W = br := i1
  have lb := brN_le W
  cases st with
  | false =>
    have i2 : Made D (opN W) := i2
    cases k with
    | sht => cases h
    | op o => cases h
    | opn =>
      have h : (if br < 12 then some (⟨false, D, .br :: W, br + 1, true⟩ : RS) else none) = some S' := h
      split at h
      · cases h
        refine ⟨⟨?_, ?_, by show br + 1 ≤ 12; omega⟩, ?_⟩
        · show brN (.br :: W) = br + 1
          rw [brN_cons, i1]; rfl
        · show Made D (opN (.br :: W) + 0)
          rw [opN_cons]; exact i2
        · show D.length + ((Wd.br :: W).length - brN (.br :: W)) = D.length + (W.length - brN W) + 0
          rw [brN_cons, List.length_cons, if_pos (show Wd.br.isBr = true from rfl)]; omega
      · cases h
    | wav =>
      cases h
      refine ⟨⟨?_, ?_, i3⟩, ?_⟩
      · show brN (.undo :: W) = br
        rw [brN_cons, i1]; rfl
      · show Made D (opN (.undo :: W) + 0)
        rw [opN_cons]; exact i2
      · show D.length + ((Wd.undo :: W).length - brN (.undo :: W)) = D.length + (W.length - brN W) + 1
        rw [brN_cons, List.length_cons, if_neg (show ¬ Wd.undo.isBr = true from fun z => nomatch z)]; omega
    | lf l =>
      have h : (if l.neg = true → fr = true then some (⟨true, D ++ [.lf l], W, br, false⟩ : RS) else none) = some S' := h
      split at h
      · cases h
        refine ⟨⟨i1, Made.lf i2 ok, i3⟩, ?_⟩
        show (D ++ [Pc.lf l]).length + (W.length - brN W) = D.length + (W.length - brN W) + 1
        rw [List.length_append, List.length_singleton]; omega
      · cases h
  | true =>
    have i2 : Made D (opN W + 1) := i2
    cases k with
    | opn => cases h
    | wav => cases h
    | lf _ => cases h
    | sht =>
      have h : (if 0 < br then (match settle 1 D W with
        | (D2, .br :: W2) => some (⟨true, D2, W2, br - 1, fr⟩ : RS)
        | _ => none) else none) = some S' := h
      split at h
      · rename_i hb
        obtain ⟨D2, W2, e⟩ := settle_br D (by omega : 0 < brN W)
        obtain ⟨m1, m2, m3⟩ := settle_made (Nat.le_refl 1) i2
        rw [e] at h m1 m2 m3
        cases h
        have m2 : brN (.br :: W2) = brN W := m2
        have m3 : D2.length + (Wd.br :: W2).length = D.length + W.length := m3
        rw [brN_cons, if_pos (show Wd.br.isBr = true from rfl)] at m2
        rw [List.length_cons] at m3
        have lb2 := brN_le W2
        refine ⟨⟨by show brN W2 = br - 1; omega, ?_, by show br - 1 ≤ 12; have : br ≤ 12 := i3; omega⟩, ?_⟩
        · have m1 : Made D2 (opN (.br :: W2) + 1) := m1
          rw [opN_cons] at m1
          exact m1
        · show D2.length + (W2.length - brN W2) = D.length + (W.length - brN W) + 0
          omega
      · cases h
    | op o =>
      cases h
      obtain ⟨m1, m2, m3⟩ := settle_made o.lev_le.1 i2
      have lb2 := brN_le (settle o.lev D W).2
      refine ⟨⟨?_, ?_, i3⟩, ?_⟩
      · show brN (.op o :: (settle o.lev D W).2) = br
        rw [brN_cons, m2, i1]; rfl
      · show Made (settle o.lev D W).1 (opN (.op o :: (settle o.lev D W).2) + 0)
        rw [opN_cons]; exact m1
      · show (settle o.lev D W).1.length + ((Wd.op o :: (settle o.lev D W).2).length - brN (.op o :: (settle o.lev D W).2)) = D.length + (W.length - brN W) + 1
        rw [brN_cons, List.length_cons, if_neg (show ¬ (Wd.op o).isBr = true from fun z => nomatch z)]; omega
/-- behind the text there is one reckoning -/
theorem fin_made {S : RS} (I : RInv S) (h1 : S.st = true) (h2 : S.br = 0) : (settle 1 S.D S.W).2 = [] ∧ ∃ E : ET, evo (settle 1 S.D S.W).1 [] = some [E] ∧ E.Ok ∧ E.count = S.many ∧ (settle 1 S.D S.W).1.length = S.many := by
  have b0 : brN S.W = 0 := I.brs.trans h2
  have e := settle_all S.D b0
  have m := I.md
  rw [if_pos h1] at m
  obtain ⟨m1, m2, m3⟩ := settle_made (Nat.le_refl 1) m
  rw [e] at m1 m3
  obtain ⟨st, s1, s2, s3, s4⟩ := m1.ex
  match st, s2 with
  | [E], _ =>
    have s4 : E.count + 0 = (settle 1 S.D S.W).1.length := s4
    have hm : (settle 1 S.D S.W).1.length = S.many := by
      rw [List.length_nil] at m3
      show _ = S.D.length + (S.W.length - brN S.W)
      omega
    exact ⟨e, E, s1, s3 E List.mem_cons_self, by omega, hm⟩
end Nv

set_option maxRecDepth 100000
set_option maxHeartbeats 8000000
namespace Nv
open PySem PySem.Spec PyProof.Rows L2 L2H LamX
abbrev sRLet : Stmt := inClass (topS 60) 4
abbrev sRNum : Stmt := inClass (topS 60) 6
theorem scRLet : FnScope ["self", "letter", "last"] ["self"] (defScope sRLet) := ⟨rfl, rfl, rfl, by decide +kernel, rfl, by decide +kernel, by decide +kernel⟩
theorem scRNum : FnScope ["self", "fresh", "start", "last"] ["self", "fresh"] (defScope sRNum) := ⟨rfl, rfl, rfl, by decide +kernel, rfl, by decide +kernel, by decide +kernel⟩
/-- the constants of the reading -/
structure Cst3 (mg : Str → Option Value) : Prop where
  abc : ∃ t, mg "SMALL_LETTERS" = some (.str "abcdefghijklmnopqrstuvwxyz" t)
  sgn : ∃ t, mg "MOST_SIGNS" = some (.int 6 t)
  fig : ∃ t, mg "FIGURES" = some (.str "0123456789" t)
  cap : ∃ t, mg "CAPITALS" = some (.str "ABCDEFGHIJKLMNOPQRSTUVWXYZ" t)
  brk : ∃ t, mg "MOST_BRACKETS" = some (.int 12 t)
def RS.add (S : RS) (l : Lf) : RS := { S with D := S.D ++ [.lf l] }
/-- a method that may raise -/
structure MetX (P : Program) (w : World) (K : PySem.W.Frag) (mg : Str → Option Value) (base : Heap) (C : Addr) (k : Nat) (m : Str) (ps : List Str) (sp : Sp) (f : Addr) (fd : FuncData) : Prop where
  me : Meth K C m f
  ok : FnOk P w K mg base (L2.CX P w) k f fd ps sp
  bi : Binds K fd ps []
/-- no run of figures is long -/
def Few (L : List Nat) : Prop := ∀ j, fgL (L.drop j) ≤ 800
theorem RdAt.raise {C x dx d w : Addr} {L : List Nat} {H H1 : Hp} {i j : Nat} {S : RS} {CT : Addr} {E : XK} (R : RdAt C x dx d w L H1 i S) (m : Mov x d w H H1) (q : raisesM CT x d w j H E) : raisesM CT x d w j H1 E := fun e H' m' n h => q e H' (m.trans m') (by
  cases he : H e with
  | none => rfl
  | some o =>
    obtain ⟨ds, hds, _⟩ := R.ds
    have n1 : e ≠ x := fun z => by rw [z, R.ins] at n; cases n
    have n2 : e ≠ d := fun z => by rw [z, hds] at n; cases n
    have n3 : e ≠ w := fun z => by rw [z, R.ws] at n; cases n
    rw [m e o n1 n2 n3 he] at n
    cases n) h
def spRLet (C CT : Addr) : Sp := fun vs H Q E => ∃ (x dx d w : Addr) (L : List Nat) (i : Nat) (S : RS) (c : Nat) (r : List Nat), vs = [.ref x] ∧ RdAt C x dx d w L H i S ∧ L.drop i = c :: r ∧ inS zAbc c = true ∧
  (abL (c :: r) ≤ 6 → ∀ H', Mov x d w H H' → RdAt C x dx d w L H' (i + abL (c :: r)) (S.add (.le (SX.S ((c :: r).take (abL (c :: r)))))) → Q .non H') ∧ (6 < abL (c :: r) → raisesM CT x d w i H E)
def spRNum (C CT : Addr) : Sp := fun vs H Q E => ∃ (x dx d w : Addr) (L : List Nat) (i : Nat) (S : RS) (c : Nat) (r : List Nat) (fr : Bool), vs = [.ref x, .bl fr] ∧ RdAt C x dx d w L H i S ∧ Few L ∧ L.drop i = c :: r ∧
  (∀ a b, readP (wordF c r fr) = some (a, b) → ∀ H', Mov x d w H H' → RdAt C x dx d w L H' (i + (textL a b).length) (S.add (.sh a b)) → Q .non H') ∧ (readP (wordF c r fr) = none → raisesM CT x d w i H E)
theorem drop_len {L A R : List Nat} {i : Nat} (h : L.drop i = A ++ R) (hi : i ≤ L.length) : i + A.length ≤ L.length := by
  have := congrArg List.length h
  rw [List.length_drop, List.length_append] at this
  omega
theorem drop_add {L A R : List Nat} {i : Nat} (h : L.drop i = A ++ R) : L.drop (i + A.length) = R := by
  rw [← List.drop_drop, h, List.drop_left]
/-- a leaf is put to what is done -/
theorem RdAt.addLf {C x dx d w : Addr} {L : List Nat} {H : Hp} {i n : Nat} {S : RS} {ds : List V} {v : V} {l : Lf} (R : RdAt C x dx d w L H i S) (hds : H d = some (.lst ds)) (pds : Paired (PcAt H) ds S.D) (hv : PcAt H v (.lf l)) (h1 : 1 ≤ n) (h2 : i + n ≤ L.length) :
    RdAt C x dx d w L (upd (upd H d (.lst (ds ++ [v]))) x (.ins C dx (fs7 (SX.S L) false (i + n) d w S.br S.fr))) (i + n) (S.add l) := by
  have mv : Mov x d w H (upd (upd H d (.lst (ds ++ [v]))) x (.ins C dx (fs7 (SX.S L) false (i + n) d w S.br S.fr))) := fun a o n1 n2 _ h => by
    rw [upd_ne n1, upd_ne n2]
    exact h
  have k := R.tk mv
  refine ⟨upd_same, R.ne, ⟨ds ++ [v], ?_, Paired.snoc' (hv.keep k) (Paired.imp' (fun _ _ z => z.keep k) pds)⟩, ?_, ?_, h2, R.hL⟩
  · rw [upd_ne R.nxd.symm, upd_same]
  · rw [upd_ne R.nxw.symm, upd_ne R.ne.symm]
    exact R.ws
  · have := R.len
    show (S.D ++ [Pc.lf l]).length + S.W.length ≤ i + n
    rw [List.length_append, List.length_singleton]
    omega
theorem get_at {L A : List Nat} {i c : Nat} {r : List Nat} (h : L.drop i = A) (e : A = c :: r) : L[i]? = some c ∧ i < L.length := by
  have : L[i]? = some c := by
    have e0 : L[i]? = (L.drop i)[0]? := by rw [List.getElem?_drop]; rfl
    rw [e0, h, e]
    rfl
  exact ⟨this, (List.getElem?_eq_some_iff.mp this).1⟩
theorem sg_eq {c n : Nat} {z : Str} (hz : z = SX.S [n]) : (V.str (⟨#[c]⟩ : Str) = V.str z) ↔ c = n := by
  constructor
  · intro h
    have h2 : (⟨#[c]⟩ : Str) = SX.S [n] := (V.str.inj h).trans hz
    exact List.head_eq_of_cons_eq (congrArg TL.tl h2)
  · intro h
    rw [h, hz]
section
variable {P : Program} {w0 : World} {K : PySem.W.Frag} {mg : Str → Option Value} {base : Heap} {dH dW CN CT fN fI : Addr}
theorem ok_rlet {f C fR : Addr} {fd fdR fdI : FuncData} (F : Fun K "read_letter" "Reading.read_letter" sRLet f fd) (T : RdC K C) (B : Blt mg) (Z : Cst3 mg) (MR : MetC P w0 K mg base C 1 "run" ["self", "signs", "start"] (spRRun C) fR fdR)
    (R : ErrF K mg "BadText" "at" CN CT fN fI) (GI : FnOk P w0 K mg base CX0 2 fI fdI ["self", "at"] (spBTx CT)) (bI : Binds K fdI ["self", "at"] []) : FnOk P w0 K mg base (L2.CX P w0) 4 f fd ["self"] (spRLet C CT) := by
  obtain ⟨t1, h1⟩ := Z.abc
  obtain ⟨t2, h2⟩ := Z.sgn
  refine F.okX scRLet (fun vs H Q E h => ?_) (fun cdv A outer s H vs Q E hr h => ?_)
  · obtain ⟨x, dx, d, w, L, i, S, c, r, rfl, _⟩ := h
    rfl
  · obtain ⟨x, dx, d, w, L, i, S, c, r, rfl, G, hd, hc, q, qe⟩ := h
    refine ⟨_, pss_cons (ps_asg (pe_meth (pv 0) T.cl MR.me MR.ok (hr.mono (by decide)) MR.bi .nil pass0 (pa_cons (pe_glob (v := .str "abcdefghijklmnopqrstuvwxyz") (by rfl) h1 ⟨_, rfl⟩) (pa_cons (pe_fldK K (pv 0) rfl) pa_nil))) (pg_tup rfl (pgs_cons (pg_name (i := 1) scRLet.nd rfl (.inl rfl)) (pgs_cons (pg_name (i := 2) scRLet.nd rfl (.inl rfl)) pgs_nil))))
      (pss_cons (ps_if (pt_cmpR op_gt (pe_callB call_len_str (by rfl) B.len PySem.boot_len (pa_cons (pv 1) pa_nil)) (pe_glob (v := .int 6) (by rfl) h2 ⟨_, rfl⟩) (nomark _)) (pss_one (ps_raise rfl (takes_of rfl rfl rfl rfl) (pmk_oex R.oex R.iC R.tI GI (hr.mono (by decide)) bI .nil pass0 (by rfl) R.gC (pa_cons (pe_fldK K (pv 0) rfl) pa_nil)))) pss_nil)
      (pss_cons (ps_expr (pe_bm PySem.F.plainAttrs_list PySem.F.slot_list_append PySem.F.type_list_append mt_append (pe_fldK K (pv 0) rfl) (pa_cons (pe_tup (pa_cons pe_str (pa_cons (pv 1) pa_nil))) pa_nil)))
      (pss_one (ps_fld (pv 0) (pv 2) rfl)))), ?_⟩
    have hn : abL (c :: r) ≤ (c :: r).length := lenW_le _ _
    have lt : ((c :: r).take (abL (c :: r))).length = abL (c :: r) := by rw [List.length_take]; omega
    have n1 : 1 ≤ abL (c :: r) := by
      unfold abL lenW
      rw [if_pos hc]; omega
    have hl : i + abL (c :: r) ≤ L.length := by
      have := congrArg List.length hd
      rw [List.length_drop] at this
      have := G.hi
      omega
    have hL := G.hL
    have lenD := G.len
    have hi := G.hi
    refine ⟨_, rfl, x, dx, _, rfl, G.ins, rfl, _, rfl, x, C, dx, _, _, rfl, G.ins, T.cl, T.nS, rfl, x, dx, _, i, L, false, i, d, w, S.br, S.fr, rfl, G.ins, G.hi, G.hL, fun p np => ?_⟩
    rw [hd, show lenW (inS (Str.ofString "abcdefghijklmnopqrstuvwxyz")) (c :: r) = abL (c :: r) from rfl]
    have s1 := same_new (o := .tup [.str (SX.S ((c :: r).take (abL (c :: r)))), .int ((i + abL (c :: r) : Nat) : Int)]) np
    have G1 := G.same s1
    have ep : (upd H p (.tup [.str (SX.S ((c :: r).take (abL (c :: r)))), .int ((i + abL (c :: r) : Nat) : Int)])) p = some (.tup [.str (SX.S ((c :: r).take (abL (c :: r)))), .int ((i + abL (c :: r) : Nat) : Int)]) := upd_same
    generalize upd H p (.tup [.str (SX.S ((c :: r).take (abL (c :: r)))), .int ((i + abL (c :: r) : Nat) : Int)]) = H1 at s1 G1 ep
    refine ⟨p, _, rfl, SqT.of ep, rfl, _, _, rfl, _, _, rfl, rfl, ?_⟩
    refine ⟨_, rfl, _, rfl, by rw [SX.S_len, lt, sizeLine_eq]; omega, _, _, rfl, rfl, _, rfl, ?_⟩
    rw [SX.S_len, lt]
    refine ite2 (fun c6 => ?_) (fun c6 => ?_)
    · have c6 := of_decide_eq_true c6
      exact ⟨_, rfl, x, C, dx, _, _, rfl, G1.ins, T.cl, T.nS, rfl, raise_x (by omega) (raisesF.same s1 (qe (by omega)).F)⟩
    have c6 : ¬ ((abL (c :: r) : Int) > 6) := fun z => c6 (decide_eq_true z)
    obtain ⟨ds, hds, pds⟩ := G1.ds
    have ld := Paired.length pds
    refine ⟨_, rfl, x, C, dx, _, _, rfl, G1.ins, T.cl, T.nD, rfl, .inl ⟨rfl, _, SqL.of hds⟩, _, rfl, (by show 2 ≤ sizeLine; decide), fun p2 np2 => ?_⟩
    have s2 := same_new (o := .tup [.str "letter", .str (SX.S ((c :: r).take (abL (c :: r))))]) np2
    have G2 := G1.same s2
    have ep2 : (upd H1 p2 (.tup [.str "letter", .str (SX.S ((c :: r).take (abL (c :: r))))])) p2 = some (.tup [.str "letter", .str (SX.S ((c :: r).take (abL (c :: r))))]) := upd_same
    have hds2 := s2 _ _ hds
    have pds2 := Paired.imp' (fun _ _ z => PcAt.keep (Same.tk s2) z) pds
    generalize upd H1 p2 (.tup [.str "letter", .str (SX.S ((c :: r).take (abL (c :: r))))]) = H2 at s2 G2 ep2 hds2 pds2
    refine ⟨d, ds, _, rfl, rfl, hds2, fitLine (by omega), ?_⟩
    refine ⟨_, rfl, _, rfl, x, C, dx, _, rfl, by rw [upd_ne G2.nxd]; exact G2.ins, T.cl, T.nS, (by show 7 < 1000; decide), ?_⟩
    refine q (by omega) _ (fun a o n1 n2 n3 h => ?_) (G2.addLf hds2 pds2 (v := .ref p2) (l := .le (SX.S ((c :: r).take (abL (c :: r))))) ⟨p2, rfl, ep2⟩ n1 hl)
    have h2 := s2 _ _ (s1 _ _ h)
    rw [upd_ne n1, upd_ne n2]
    exact h2
theorem ok_rnum {f C fR CB CM fM fJ : Addr} {fd fdR fdI fdH : FuncData} (F : Fun K "read_number" "Reading.read_number" sRNum f fd) (T : RdC K C) (B : Blt mg) (Z : Cst3 mg) (MR : MetC P w0 K mg base C 1 "run" ["self", "signs", "start"] (spRRun C) fR fdR) (R0 : Errs K mg "BadShare" CM CB fM fJ)
    (mh : PySem.W.exmOne K (.ref CB) (.ref CB) = some true) (R : ErrF K mg "BadText" "at" CN CT fN fI) (GI : FnOk P w0 K mg base CX0 2 fI fdI ["self", "at"] (spBTx CT)) (GH : FnH P w0 K mg base CX0 2 fI fdI ["self", "at"] (spBTx CT)) (bI : Binds K fdI ["self", "at"] [])
    (GS : CalX P w0 K mg base 5 "read_share" (spRead CB) []) : FnOk P w0 K mg base (L2.CX P w0) 6 f fd ["self", "fresh"] (spRNum C CT) := by
  obtain ⟨t1, h1⟩ := Z.fig
  obtain ⟨fS, fdS, psS, dsS, FS, gS, kS, bS, vS⟩ := GS.ex
  cases vS
  refine F.okX scRNum (fun vs H Q E h => ?_) (fun cdv A outer s H vs Q E hr h => ?_)
  · obtain ⟨x, dx, d, w, L, i, S, c, r, fr, rfl, _⟩ := h
    rfl
  · obtain ⟨x, dx, d, w, L, i, S, c, r, fr, rfl, G, fw, hd, q, qe⟩ := h
    refine ⟨_, pss_cons (ps_set (i := 2) scRNum.nd rfl (.inl rfl) (pe_fldK K (pv 0) rfl))
      (pss_cons (ps_if (pt_cmpR op_eq (pe_item_str (pe_fldK K (pv 0) rfl) (pv 2) (fun _ _ => rfl)) pe_str (nomark _)) (pss_cons (ps_if (pt_not (pt_val (pv 1))) (pss_one (ps_raise rfl (takes_of rfl rfl rfl rfl) (pmk_oex R.oex R.iC R.tI GI (hr.mono (by decide)) bI .nil pass0 (by rfl) R.gC (pa_cons (pv 2) pa_nil)))) pss_nil) (pss_one (ps_aug (i := 2) scRNum.nd rfl (.inl rfl) pe_int ip_add))) pss_nil)
      (pss_cons (ps_set (i := 3) scRNum.nd rfl (.inl rfl) (pe_ix ix_tup (pe_meth (pv 0) T.cl MR.me MR.ok (hr.mono (by decide)) MR.bi .nil pass0 (pa_cons (pe_op op_add_str (pe_glob (v := .str "0123456789") (by rfl) h1 ⟨_, rfl⟩) pe_str) (pa_cons (pv 2) pa_nil))) pe_int (fun _ _ => rfl)))
      (pss_cons (ps_try_onlyX (tb := fun W => tDrop (tBM K "list" rAppend (tFld K (tVar 0) "done") (tCons (tTup (tCons (tC (.str "share")) (tCons (tCallS (spRead CB) (WE W) (tCons (tSl rSlS (tFld K (tVar 0) "text") (tPart (tFld K (tVar 0) "spot")) (tPart (tVar 3))) tNil)) tNil))) tNil)))
          (ts := fun a cls d D σ H => tMkO CT (spBTx CT) [] (tCons (tFld K (tVar 0) "spot") tNil) σ H fun cls d H' => E cls d H') (Wout := fun cls d _ H => E cls d H)
          rfl rfl ⟨rfl, by decide, .inl R0.gC⟩ (passesAt_of rfl) (takes_of rfl rfl rfl rfl) (fun W pn xe tk _ _ => pss_one (ps_expr (pe_bm PySem.F.plainAttrs_list PySem.F.slot_list_append PySem.F.type_list_append mt_append (pe_fldK K (pv 0) rfl) (pa_cons (pe_tup (pa_cons pe_str (pa_cons
            (pe_callS FS (hr.mono (by decide)) (by rfl) gS kS bS (fun σ => L2N.passAt tk σ) (pa_cons (pe_slice sl_str (pe_fldK K (pv 0) rfl) (po_some (pe_fldK K (pv 0) rfl)) (po_some (pv 3))) pa_nil)) pa_nil))) pa_nil))))
          (fun a oe cls d pn _ _ tk hot => pss_one (ps_raiseHN hot tk (pmk5_oexH R.oex R.iC R.tI GH (roomH_mark (hr.mono (by decide)) _) hot bI pass0 (by rfl) R.gC (pa_cons (pe_fldK K (pv 0) rfl) pa_nil)))))
      (pss_one (ps_fld (pv 0) (pv 3) rfl))))), ?_⟩
    have hL := G.hL
    have lenD := G.len
    have hi := G.hi
    obtain ⟨hch, il⟩ := get_at hd rfl
    have hcp : (SX.S L).cps[(i : Int).toNat]? = some c := by
      rw [Int.toNat_natCast]
      simpa [SX.S] using hch
    have f0 : fgL (45 :: r) = 0 := by
      unfold fgL lenW
      rw [if_neg (fun z => by have := in_fig.mp z; omega)]
    refine ⟨_, rfl, x, C, dx, _, _, rfl, G.ins, T.cl, T.nS, rfl, ?_⟩
    have main : ∀ k : Nat, (c = 45 → k = 1 ∧ fr = true) → (c ≠ 45 → k = 0) → (c :: r).take (k + fgL (L.drop (i + k))) = wordF c r fr ∧ i + k + fgL (L.drop (i + k)) ≤ L.length ∧ i + k ≤ L.length := fun k k1 k0 => by
      have hk : i + k ≤ L.length := by
        by_cases z : c = 45
        · have := (k1 z).1; omega
        · have := k0 z; omega
      have hf := lenW_le (inS zFig) (L.drop (i + k))
      rw [List.length_drop] at hf
      refine ⟨?_, by unfold fgL; omega, hk⟩
      by_cases z : c = 45
      · obtain ⟨e1, e2⟩ := k1 z
        subst e1 e2 z
        have e3 : L.drop (i + 1) = r := by
          have := drop_add (A := [45]) (R := r) hd
          exact this
        unfold wordF
        rw [e3, if_pos ⟨rfl, rfl⟩, Nat.add_comm 1, List.take_succ_cons]
      · have e1 := k0 z
        subst e1
        unfold wordF
        rw [Nat.add_zero, hd, if_neg (fun y => z y.1), Nat.zero_add]
    refine keepN (fun σ' H' => ∃ k : Nat, (c = 45 → k = 1 ∧ fr = true) ∧ (c ≠ 45 → k = 0) ∧ σ' = [some (.ref x), some (.bl fr), some (.int ((i + k : Nat) : Int)), none] ∧ H' = H) (fun σ' H' hM => ?_) (fun rest => ?_)
    · obtain ⟨k, k1, k0, rfl, rfl⟩ := hM
      obtain ⟨ecut, hlast, hk⟩ := main k k1 k0
      refine ⟨_, rfl, x, dx, _, rfl, G.ins, rfl, _, _, rfl, rfl, ?_, _, rfl, x, dx, zFig, i + k, L, false, i, d, w, S.br, S.fr, rfl, G.ins, hk, G.hL, fun p np => ?_⟩
      · decide +kernel
      rw [show lenW (inS zFig) (L.drop (i + k)) = fgL (L.drop (i + k)) from rfl]
      have s1 := same_new (o := .tup [.str (SX.S ((L.drop (i + k)).take (fgL (L.drop (i + k))))), .int ((i + k + fgL (L.drop (i + k)) : Nat) : Int)]) np
      have G1 := G.same s1
      have ep : (upd H' p (.tup [.str (SX.S ((L.drop (i + k)).take (fgL (L.drop (i + k))))), .int ((i + k + fgL (L.drop (i + k)) : Nat) : Int)])) p = _ := upd_same
      generalize upd H' p (.tup [.str (SX.S ((L.drop (i + k)).take (fgL (L.drop (i + k))))), .int ((i + k + fgL (L.drop (i + k)) : Nat) : Int)]) = H1 at s1 G1 ep
      refine ⟨p, _, 1, _, rfl, rfl, SqT.of ep, rfl, ?_⟩
      obtain ⟨ds, hds, pds⟩ := G1.ds
      have ld := Paired.length pds
      refine ⟨_, rfl, x, C, dx, _, _, rfl, G1.ins, T.cl, T.nD, rfl, .inl ⟨rfl, _, SqL.of hds⟩, ?_⟩
      refine ⟨_, rfl, x, C, dx, _, _, rfl, G1.ins, T.cl, T.nT, rfl, _, rfl, x, C, dx, _, _, rfl, G1.ins, T.cl, T.nS, rfl, _, rfl, _, rfl, _, rfl, _, rfl, ?_, ?_⟩
      · rw [SX.S_len, sizeLine_eq]; omega
      have ecut2 : cutS (SX.S L) (some (i : Int)) (some ((i + k + fgL (L.drop (i + k)) : Nat) : Int)) = SX.S (wordF c r fr) := by
        rw [cut_S hlast, hd, show i + k + fgL (L.drop (i + k)) - i = k + fgL (L.drop (i + k)) by omega, ecut]
      rw [ecut2]
      have wl : (wordF c r fr).length = k + fgL (L.drop (i + k)) := by
        rw [← ecut, List.length_take, ← hd, List.length_drop]
        omega
      have fw1 := fw (i + k)
      have k9 : k ≤ 1 := by
        by_cases z : c = 45
        · have := (k1 z).1; omega
        · have := k0 z; omega
      refine ⟨wordF c r fr, rfl, by omega, fun a b hrd p2 H2 s2 np2 ep2 => ?_, fun hrd => fun d2 H2 s2 nd2 ed2 => ⟨true, mh, fun _ a na => ?_, fun z => nomatch z⟩⟩
      · refine ⟨(by show 2 ≤ sizeLine; decide), fun p3 np3 => ?_⟩
        have s3 := Same.trans s2 (same_new (o := .tup [.str "share", .ref p2]) np3)
        have G3 := G1.same s3
        have ep3 : (upd H2 p3 (.tup [.str "share", .ref p2])) p3 = some (.tup [.str "share", .ref p2]) := upd_same
        have ep23 := same_new (o := .tup [.str "share", .ref p2]) np3 _ _ ep2
        have hds3 := s3 _ _ hds
        have pds3 := Paired.imp' (fun _ _ z => PcAt.keep (Same.tk s3) z) pds
        generalize upd H2 p3 (.tup [.str "share", .ref p2]) = H3 at s3 G3 ep3 ep23 hds3 pds3
        refine ⟨d, ds, _, rfl, rfl, hds3, fitLine (by omega), ?_⟩
        refine ⟨_, rfl, _, rfl, x, C, dx, _, rfl, by rw [upd_ne G3.nxd]; exact G3.ins, T.cl, T.nS, (by show 7 < 1000; decide), ?_⟩
        obtain ⟨_, et⟩ := readP_ok hrd
        have lw : (textL a b).length = k + fgL (L.drop (i + k)) := by rw [et, wl]
        have ne : 1 ≤ (textL a b).length := by
          rcases Nat.eq_zero_or_pos (textL a b).length with z | z
          · have z2 : wordF c r fr = [] := by rw [← et]; exact List.length_eq_zero_iff.mp z
            rw [z2, readP_nil] at hrd
            cases hrd
          · exact z
        have e9 : i + k + fgL (L.drop (i + k)) = i + (textL a b).length := by omega
        rw [e9]
        refine q a b hrd _ (fun a o n1 n2 n3 h => ?_) (G3.addLf hds3 pds3 (v := .ref p3) (l := .sh a b) ⟨p3, p2, rfl, ep3, ep23⟩ ne (by omega))
        have h2 := s3 _ _ (s1 _ _ h)
        rw [upd_ne n1, upd_ne n2]
        exact h2
      · have G2 := G1.same s2
        exact ⟨_, rfl, x, C, dx, _, _, rfl, G2.ins, T.cl, T.nS, rfl, raise_x (by omega) (raisesF.same (Same.trans s1 s2) (qe hrd).F)⟩
    · refine ⟨_, rfl, x, C, dx, _, _, rfl, G.ins, T.cl, T.nT, rfl, _, rfl, _, _, c, rfl, rfl, by omega, by omega, by rw [SX.S_len]; omega, hcp, rfl, _, rfl, ?_⟩
      by_cases z : c = 45
      · subst z
        refine ifP rfl ?_
        cases fr with
        | false =>
          refine ⟨_, rfl, false, rfl, iteT ⟨_, rfl, raise_x (by omega) (qe ?_).F⟩⟩
          unfold wordF
          rw [if_neg (fun z => by cases z.2), f0, List.take_zero]
          exact readP_nil
        | true =>
          refine ⟨_, rfl, true, rfl, iteF ?_⟩
          exact ⟨_, rfl, _, _, rfl, rfl, rest _ _ ⟨1, fun _ => ⟨rfl, rfl⟩, fun z => absurd rfl z, rfl, rfl⟩⟩
      · refine ifN (fun y => z ?_) (rest _ _ ⟨0, fun y => absurd y z, fun _ => rfl, rfl, rfl⟩)
        have e4 : (⟨#[c]⟩ : Str) = SX.S [45] := (V.str.inj y).trans (by decide +kernel)
        exact List.head_eq_of_cons_eq (congrArg TL.tl e4)
end
end Nv

set_option maxRecDepth 100000
set_option maxHeartbeats 8000000
namespace Nv
open PySem PySem.Spec PyProof.Rows L2 L2H LamX
abbrev sRFir : Stmt := inClass (topS 60) 3
abbrev sRNex : Stmt := inClass (topS 60) 7
abbrev sRRea : Stmt := inClass (topS 60) 9
theorem scRFir : FnScope ["self", "sign", "fresh"] ["self"] (defScope sRFir) := ⟨rfl, rfl, rfl, by decide +kernel, rfl, by decide +kernel, by decide +kernel⟩
theorem scRNex : FnScope ["self", "sign", "word"] ["self"] (defScope sRNex) := ⟨rfl, rfl, rfl, by decide +kernel, rfl, by decide +kernel, by decide +kernel⟩
theorem scRRea : FnScope ["self", "stands"] ["self"] (defScope sRRea) := ⟨rfl, rfl, rfl, by decide +kernel, rfl, by decide +kernel, by decide +kernel⟩
theorem cap_eq : (Str.ofString "ABCDEFGHIJKLMNOPQRSTUVWXYZ").cps.toList = List.range' 65 26 := by decide +kernel
/-- what reading does next from i on -/
structure Next (C dx CT x d w : Addr) (L : List Nat) (H : Hp) (j : Nat) (S : RS) (Q : VK) (E : XK) (c : Nat) (r : List Nat) : Prop where
  yes : ∀ k S', nxt S c r = some (k, S') → ∀ H', Mov x d w H H' → RdAt C x dx d w L H' (j + k.chars.length) S' → Q (.bl S'.st) H'
  no : nxt S c r = none → raisesM CT x d w j H E
def spRFir (C CT : Addr) : Sp := fun vs H Q E => ∃ (x dx d w : Addr) (L : List Nat) (i : Nat) (S : RS), vs = [.ref x] ∧ RdAt C x dx d w L H i S ∧ RInv S ∧ Few L ∧ S.st = false ∧
  (i + lenW isBl (L.drop i) = L.length → raisesM CT x d w L.length H E) ∧ ∀ c r, L.drop (i + lenW isBl (L.drop i)) = c :: r → Next C dx CT x d w L H (i + lenW isBl (L.drop i)) S Q E c r
def spRNex (C CT : Addr) : Sp := fun vs H Q E => ∃ (x dx d w : Addr) (L : List Nat) (i : Nat) (S : RS) (c : Nat) (r : List Nat), vs = [.ref x] ∧ RdAt C x dx d w L H i S ∧ RInv S ∧ S.st = true ∧ L.drop i = c :: r ∧ Next C dx CT x d w L H i S Q E c r
/-- a sign is put to what waits, and the reading goes on by n -/
theorem RdAt.addW {C x dx d w : Addr} {L : List Nat} {H : Hp} {i n : Nat} {S T : RS} {v : Wd} (R : RdAt C x dx d w L H i S) (hD : T.D = S.D) (hW : T.W = v :: S.W) (h1 : 1 ≤ n) (h2 : i + n ≤ L.length) :
    RdAt C x dx d w L (upd (upd H w (.lst (S.W.reverse.map wdV ++ [wdV v]))) x (.ins C dx (fs7 (SX.S L) false (i + n) d w T.br T.fr))) (i + n) T := by
  have mv : Mov x d w H (upd (upd H w (.lst (S.W.reverse.map wdV ++ [wdV v]))) x (.ins C dx (fs7 (SX.S L) false (i + n) d w T.br T.fr))) := fun a o n1 _ n3 h => by
    rw [upd_ne n1, upd_ne n3]
    exact h
  have k := R.tk mv
  obtain ⟨ds, hds, pds⟩ := R.ds
  refine ⟨upd_same, R.ne, ⟨ds, ?_, ?_⟩, ?_, ?_, h2, R.hL⟩
  · rw [upd_ne R.nxd.symm, upd_ne R.ne]
    exact hds
  · rw [hD]
    exact Paired.imp' (fun _ _ z => z.keep k) pds
  · rw [upd_ne R.nxw.symm, upd_same, hW, List.reverse_cons, List.map_append]
    rfl
  · have := R.len
    rw [hD, hW, List.length_cons]
    omega
theorem RdAt.st {C x dx d w : Addr} {L : List Nat} {H : Hp} {i : Nat} {S T : RS} (R : RdAt C x dx d w L H i S) (h1 : T.D = S.D) (h2 : T.W = S.W) (h3 : T.br = S.br) (h4 : T.fr = S.fr) : RdAt C x dx d w L H i T := by
  obtain ⟨a1, a2, a3, a4, a5, a6, a7⟩ := R
  exact ⟨by rw [h3, h4]; exact a1, a2, by rw [h1]; exact a3, by rw [h2]; exact a4, by rw [h1, h2]; exact a5, a6, a7⟩
theorem upd3 {H : Hp} {x w : Addr} {a b c : HO} (n : x ≠ w) : upd (upd (upd H x a) w b) x c = upd (upd H w b) x c := by
  funext p
  by_cases h1 : p = x
  · rw [h1, upd_same, upd_same]
  · rw [upd_ne h1, upd_ne h1]
    by_cases h2 : p = w
    · rw [h2, upd_same, upd_same]
    · rw [upd_ne h2, upd_ne h2, upd_ne h1]
/-- a share below nought is read where that may stand alone -/
theorem word_neg {c : Nat} {r : List Nat} {fr : Bool} {a b : Int} (h : readP (wordF c r fr) = some (a, b)) (hn : a < 0) : fr = true := by
  obtain ⟨_, e⟩ := readP_ok h
  unfold textL at e
  rw [if_pos hn] at e
  cases fr with
  | true => rfl
  | false =>
    have e0 : wordF c r false = (c :: r).take (fgL (c :: r)) := if_neg (fun z => by cases z.2)
    rw [e0] at e
    have : ((c :: r).take (fgL (c :: r))).head? = some 45 := by
      rw [← e]
      split <;> rfl
    cases hf : fgL (c :: r) with
    | zero => rw [hf] at this; cases this
    | succ m =>
      rw [hf, List.take_succ_cons] at this
      have hc : c = 45 := Option.some.inj this
      have : fgL (c :: r) = 0 := by
        unfold fgL lenW
        rw [if_neg (fun z => by have := in_fig.mp z; omega)]
      omega
theorem step_lf {D : List Pc} {W : List Wd} {br : Nat} {fr : Bool} {l : Lf} (h : l.neg = true → fr = true) : (RS.mk false D W br fr).step (.lf l) = some ⟨true, D ++ [.lf l], W, br, false⟩ := if_pos h
section
variable {P : Program} {w0 : World} {K : PySem.W.Frag} {mg : Str → Option Value} {base : Heap} {dH dW CN CT fNe fI : Addr}
theorem ok_rfir {f C fE fL fN : Addr} {fd fdE fdL fdN fdI : FuncData} (F : Fun K "read_first" "Reading.read_first" sRFir f fd) (T : RdC K C) (B : Blt mg) (Z : Cst3 mg) (D2 : Dct2 K w0 mg dH dW)
    (ME : MetC P w0 K mg base C 1 "ended" ["self"] (spREnd C) fE fdE) (ML : MetX P w0 K mg base C 4 "read_letter" ["self"] (spRLet C CT) fL fdL) (MN : MetX P w0 K mg base C 6 "read_number" ["self", "fresh"] (spRNum C CT) fN fdN)
    (R : ErrF K mg "BadText" "at" CN CT fNe fI) (GI : FnOk P w0 K mg base CX0 2 fI fdI ["self", "at"] (spBTx CT)) (bI : Binds K fdI ["self", "at"] []) :
    FnOk P w0 K mg base (L2.CX P w0) 7 f fd ["self"] (spRFir C CT) := by
  obtain ⟨t1, h1⟩ := Z.abc
  obtain ⟨t2, h2⟩ := Z.cap
  obtain ⟨t3, h3⟩ := Z.brk
  obtain ⟨t4, h4⟩ := D2.gB
  refine F.okX scRFir (fun vs H Q E h => ?_) (fun cdv A outer s H vs Q E hr h => ?_)
  · obtain ⟨x, dx, d, w, L, i, S, rfl, _⟩ := h
    rfl
  · obtain ⟨x, dx, d, w, L, i, S, rfl, G, ri, fw, s0, qe, qn⟩ := h
    refine ⟨_, pss_cons (ps_if (pt_val (pe_meth0 (pv 0) T.cl ME.me ME.ok (hr.mono (by decide)) ME.bi .nil pass0)) (pss_one (ps_raise rfl (takes_of rfl rfl rfl rfl) (pmk_oex R.oex R.iC R.tI GI (hr.mono (by decide)) bI .nil pass0 (by rfl) R.gC (pa_cons (pe_fldK K (pv 0) rfl) pa_nil)))) pss_nil)
      (pss_cons (ps_set (i := 1) scRFir.nd rfl (.inl rfl) (pe_item_str (pe_fldK K (pv 0) rfl) (pe_fldK K (pv 0) rfl) (fun _ _ => rfl)))
      (pss_cons (ps_set (i := 2) scRFir.nd rfl (.inl rfl) (pe_fldK K (pv 0) rfl))
      (pss_cons (ps_fld (pv 0) (pe_cmpR op_eq (pv 1) pe_str (nomark _)) rfl)
      (pss_cons (ps_if (pt_cmpR op_eq (pv 1) pe_str (nomark _))
        (pss_cons (ps_if (pt_cmpR op_eq (pe_fldK K (pv 0) rfl) (pe_glob (v := .int 12) (by rfl) h3 ⟨_, rfl⟩) (nomark _)) (pss_one (ps_raise rfl (takes_of rfl rfl rfl rfl) (pmk_oex R.oex R.iC R.tI GI (hr.mono (by decide)) bI .nil pass0 (by rfl) R.gC (pa_cons (pe_fldK K (pv 0) rfl) pa_nil)))) pss_nil)
        (pss_cons (ps_fldaug (pv 0) pe_int in_add)
        (pss_cons (ps_expr (pe_bm PySem.F.plainAttrs_list PySem.F.slot_list_append PySem.F.type_list_append mt_append (pe_fldK K (pv 0) rfl) (pa_cons (pe_glob (v := .str "(") (by rfl) h4 ⟨_, rfl⟩) pa_nil)))
        (pss_cons (ps_fldaug (pv 0) pe_int in_add)
        (pss_one (ps_ret pe_bl)))))) pss_nil)
      (pss_cons (ps_if (pt_cmpR op_eq (pv 1) pe_str (nomark _))
        (pss_cons (ps_expr (pe_bm PySem.F.plainAttrs_list PySem.F.slot_list_append PySem.F.type_list_append mt_append (pe_fldK K (pv 0) rfl) (pa_cons pe_str pa_nil)))
        (pss_cons (ps_fldaug (pv 0) pe_int in_add)
        (pss_one (ps_ret pe_bl)))) pss_nil)
      (pss_cons (ps_if (pt_cmpR op_in_sign (pv 1) (pe_glob (v := .str "abcdefghijklmnopqrstuvwxyz") (by rfl) h1 ⟨_, rfl⟩) (by rfl))
        (pss_one (ps_expr (pe_meth0 (pv 0) T.cl ML.me ML.ok (hr.mono (by decide)) ML.bi .nil (passes_call (takes_of rfl rfl rfl rfl) (fun _ _ _ _ z => z)))))
        (pss_one (ps_if (PW.pt (pw_and (pt_cmpR op_in_sign (pv 1) (pe_glob (v := .str "ABCDEFGHIJKLMNOPQRSTUVWXYZ") (by rfl) h2 ⟨_, rfl⟩) (by rfl)) (pw_and1 (pt_val (pe_fldK K (pv 0) rfl)))))
          pss_never
          (pss_one (ps_expr (pe_meth (pv 0) T.cl MN.me MN.ok (hr.mono (by decide)) MN.bi .nil (passes_call (takes_of rfl rfl rfl rfl) (fun _ _ _ _ z => z)) (pa_cons (pv 2) pa_nil)))))))
      (pss_one (ps_ret pe_bl)))))))), ?_⟩
    have hi := G.hi
    have hLL := G.hL
    have hlen := G.len
    refine ⟨_, rfl, x, dx, _, rfl, G.ins, rfl, x, dx, L, false, i, d, w, S.br, S.fr, rfl, G.ins, G.hi, G.hL, ?_⟩
    have lb := lenW_le isBl (L.drop i)
    rw [List.length_drop] at lb
    have out : ∀ ch, (L.drop i)[lenW isBl (L.drop i)]? = some ch → isBl ch = false := fun ch => lenW_out isBl (L.drop i) ch
    obtain ⟨j, ej⟩ : ∃ j, i + lenW isBl (L.drop i) = j := ⟨_, rfl⟩
    have ij : i ≤ j := by omega
    have hout : ∀ c r, L.drop j = c :: r → c ≠ 32 := fun c r hd z => by
      have e0 : (L.drop i)[lenW isBl (L.drop i)]? = L[j]? := by rw [List.getElem?_drop, ej]
      have e1 := (get_at hd rfl).1
      have := out c (e0.trans e1)
      rw [z] at this
      cases this
    rw [ej] at qe qn
    rw [ej]
    have G1 := G.setX (j := j) (T := S) rfl rfl ij (by omega)
    have mv1 : Mov x d w H (upd H x (.ins C dx (fs7 (SX.S L) false j d w S.br S.fr))) := mov_x
    generalize upd H x (.ins C dx (fs7 (SX.S L) false j d w S.br S.fr)) = H1 at G1 mv1
    refine ⟨_, rfl, ?_⟩
    by_cases hj : j = L.length
    · rw [decide_eq_true hj]
      refine iteT ⟨_, rfl, x, C, dx, _, _, rfl, G1.ins, T.cl, T.nS, rfl, raise_x (by omega) ?_⟩
      have := (G1.raise mv1 (qe hj)).F
      rw [← hj] at this
      exact this
    rw [decide_eq_false hj]
    refine iteF ?_
    obtain ⟨c, r, hd⟩ : ∃ c r, L.drop j = c :: r := by
      cases hd : L.drop j with
      | nil =>
        have := congrArg List.length hd
        rw [List.length_drop] at this
        have : j = L.length := by simp at this; omega
        exact absurd this hj
      | cons c r => exact ⟨c, r, rfl⟩
    have nc := hout c r hd
    obtain ⟨ny, nn⟩ := qn c r hd
    obtain ⟨hch, il⟩ := get_at hd rfl
    have hcp : (SX.S L).cps[((j : Nat) : Int).toNat]? = some c := by
      rw [Int.toNat_natCast]
      simpa [SX.S] using hch
    refine ⟨_, rfl, x, C, dx, _, _, rfl, G1.ins, T.cl, T.nT, rfl, _, rfl, x, C, dx, _, _, rfl, G1.ins, T.cl, T.nS, rfl, _, _, c, rfl, rfl, by omega, by omega, by rw [SX.S_len]; omega, hcp, ?_⟩
    refine ⟨_, rfl, x, C, dx, _, _, rfl, G1.ins, T.cl, T.nF, rfl, ?_⟩
    refine ⟨_, rfl, rfl, _, rfl, x, C, dx, _, rfl, G1.ins, T.cl, T.nF, (by show 7 < 1000; decide), ?_⟩
    have e40 : decide (V.str (⟨#[c]⟩ : Str) = V.str "(") = decide (c = 40) := decide_eq_decide.mpr (sg_eq str_open)
    rw [e40]
    have G2 : RdAt C x dx d w L (upd H1 x (.ins C dx (putF "fresh" (.bl (decide (c = 40))) (fs7 (SX.S L) false j d w S.br S.fr)))) j { S with fr := decide (c = 40) } := G1.setX (j := j) (T := { S with fr := decide (c = 40) }) rfl rfl (Nat.le_refl _) (by omega)
    have mv2 : Mov x d w H (upd H1 x (.ins C dx (putF "fresh" (.bl (decide (c = 40))) (fs7 (SX.S L) false j d w S.br S.fr)))) := mv1.trans mov_x
    generalize upd H1 x (.ins C dx (putF "fresh" (.bl (decide (c = 40))) (fs7 (SX.S L) false j d w S.br S.fr))) = H2 at G2 mv2
    obtain ⟨st0, D0, W0, br0, fr0⟩ := S
    cases (show st0 = false from s0)
    have hW2 := G2.ws
    have nxw := G2.nxw
    have lW := G2.len
    rw [show (RS.mk false D0 W0 br0 (decide (c = 40))).W = W0 from rfl] at hW2 lW
    have fitW : (W0.reverse.map wdV).length < sizeLine := by
      rw [List.length_map, List.length_reverse]
      exact fitLine (by omega)
    have en : nxt ⟨false, D0, W0, br0, fr0⟩ c r = (lexF c r fr0).bind fun k => ((RS.mk false D0 W0 br0 fr0).step k).map fun S' => (k, S') := rfl
    by_cases c40 : c = 40
    · subst c40
      have el : lexF 40 r fr0 = some .opn := if_pos rfl
      rw [el] at en
      have en : nxt ⟨false, D0, W0, br0, fr0⟩ 40 r = (if br0 < 12 then some (⟨false, D0, .br :: W0, br0 + 1, true⟩ : RS) else none).map fun S' => (Tk.opn, S') := en
      refine ⟨_, rfl, rfl, _, rfl, ifP ((sg_eq str_open).mpr rfl) ?_⟩
      refine ⟨_, rfl, x, C, dx, _, _, rfl, G2.ins, T.cl, T.nB, rfl, rfl, _, rfl, ?_⟩
      by_cases hb : br0 < 12
      · rw [if_pos hb] at en
        refine ifN (fun z => ?_) ?_
        · have : ((br0 : Nat) : Int) = 12 := V.int.inj z
          omega
        refine ⟨_, rfl, x, C, dx, _, _, rfl, G2.ins, T.cl, T.nB, rfl, _, _, rfl, rfl, dx, _, G2.ins, (by show 7 < 1000; decide), ?_⟩
        refine ⟨_, rfl, x, C, dx, _, _, rfl, upd_same, T.cl, T.nW, rfl, .inl ⟨rfl, _, SqL.of (by rw [upd_ne nxw.symm]; exact hW2)⟩, w, _, _, rfl, rfl, (by rw [upd_ne nxw.symm]; exact hW2), fitW, ?_⟩
        refine ⟨_, rfl, x, C, dx, _, _, rfl, (by rw [upd_ne nxw, upd_same]), T.cl, T.nS, rfl, _, _, rfl, rfl, dx, _, (by rw [upd_ne nxw, upd_same]), (by show 7 < 1000; decide), ?_⟩
        rw [upd3 nxw]
        have GA := G2.addW (T := ⟨false, D0, .br :: W0, br0 + 1, true⟩) (v := .br) (n := 1) rfl rfl (Nat.le_refl _) (by omega)
        refine ny .opn _ en _ (mv2.trans fun a o n1 _ n3 h => ?_) GA
        rw [upd_ne n1, upd_ne n3]
        exact h
      · rw [if_neg hb] at en
        have i3 := nn en
        have few : br0 ≤ 12 := ri.few
        have hb2 : br0 = 12 := by omega
        refine ifP (by rw [hb2]; rfl) ?_
        exact ⟨_, rfl, x, C, dx, _, _, rfl, G2.ins, T.cl, T.nS, rfl, raise_x (by omega) (G2.raise mv2 i3).F⟩
    have n40 : c ≠ 40 := c40
    refine ⟨_, rfl, rfl, _, rfl, ifN (fun z => n40 ((sg_eq str_open).mp z)) ?_⟩
    by_cases c126 : c = 126
    · subst c126
      have el : lexF 126 r fr0 = some .wav := by
        unfold lexF
        rw [if_neg (by decide), if_pos rfl]
      rw [el] at en
      refine ⟨_, rfl, rfl, _, rfl, ifP ((sg_eq str_wave).mpr rfl) ?_⟩
      refine ⟨_, rfl, x, C, dx, _, _, rfl, G2.ins, T.cl, T.nW, rfl, .inl ⟨rfl, _, SqL.of hW2⟩, w, _, _, rfl, rfl, hW2, fitW, ?_⟩
      refine ⟨_, rfl, x, C, dx, _, _, rfl, (by rw [upd_ne nxw]; exact G2.ins), T.cl, T.nS, rfl, _, _, rfl, rfl, dx, _, (by rw [upd_ne nxw]; exact G2.ins), (by show 7 < 1000; decide), ?_⟩
      have GA := G2.addW (T := ⟨false, D0, .undo :: W0, br0, false⟩) (v := .undo) (n := 1) rfl rfl (Nat.le_refl _) (by omega)
      refine ny .wav ⟨false, D0, .undo :: W0, br0, false⟩ en _ (mv2.trans fun a o n1 _ n3 h => ?_) GA
      rw [upd_ne n1, upd_ne n3]
      exact h
    refine ⟨_, rfl, rfl, _, rfl, ifN (fun z => c126 ((sg_eq str_wave).mp z)) ?_⟩
    refine ⟨_, rfl, c, _, rfl, rfl, _, rfl, ?_⟩
    rw [decide_eq_false n40] at G2
    by_cases ha : inS zAbc c = true
    · refine if_t ha ?_
      have el : lexF c r fr0 = if abL (c :: r) ≤ 6 then some (.lf (.le (SX.S ((c :: r).take (abL (c :: r)))))) else none := by
        unfold lexF
        rw [if_neg n40, if_neg c126, if_pos ha]
      have hn : abL (c :: r) ≤ (c :: r).length := lenW_le _ _
      refine ⟨_, rfl, x, dx, _, rfl, G2.ins, rfl, x, dx, d, w, L, j, _, c, r, rfl, G2, hd, ha, fun l6 H3 mv3 G3 => ?_, fun l6 => G2.raise mv2 (nn ?_)⟩
      · rw [el, if_pos l6] at en
        have lt : ((c :: r).take (abL (c :: r))).length = abL (c :: r) := by rw [List.length_take]; omega
        have es : (RS.mk false D0 W0 br0 fr0).step (.lf (.le (SX.S ((c :: r).take (abL (c :: r)))))) = some ⟨true, D0 ++ [.lf (.le (SX.S ((c :: r).take (abL (c :: r)))))], W0, br0, false⟩ := step_lf fun z => Bool.noConfusion z
        have en2 : nxt ⟨false, D0, W0, br0, fr0⟩ c r = some (.lf (.le (SX.S ((c :: r).take (abL (c :: r))))), ⟨true, D0 ++ [.lf (.le (SX.S ((c :: r).take (abL (c :: r)))))], W0, br0, false⟩) := by
          rw [en]
          show ((RS.mk false D0 W0 br0 fr0).step (.lf (.le (SX.S ((c :: r).take (abL (c :: r))))))).map (fun S' => (Tk.lf (.le (SX.S ((c :: r).take (abL (c :: r))))), S')) = _
          rw [es]
          rfl
        refine ny _ _ en2 H3 (mv2.trans mv3) ?_
        have : (Tk.lf (.le (SX.S ((c :: r).take (abL (c :: r)))))).chars.length = abL (c :: r) := lt
        rw [this]
        exact G3.st rfl rfl rfl rfl
      · rw [en, el, if_neg (by omega)]
        rfl
    · refine if_f (Bool.eq_false_iff.mpr ha) ?_
      have el : lexF c r fr0 = (readP (wordF c r fr0)).map fun p => .lf (.sh p.1 p.2) := by
        unfold lexF
        rw [if_neg n40, if_neg c126, if_neg ha]
      have go : spRNum C CT [.ref x, .bl fr0] H2 (fun v H' => Q (.bl true) H') E := by
        refine ⟨x, dx, d, w, L, j, _, c, r, fr0, rfl, G2, fw, hd, fun a b hrd H3 mv3 G3 => ?_, fun hrd => G2.raise mv2 (nn ?_)⟩
        · rw [el, hrd] at en
          have es : (RS.mk false D0 W0 br0 fr0).step (.lf (.sh a b)) = some ⟨true, D0 ++ [.lf (.sh a b)], W0, br0, false⟩ := if_pos fun z => word_neg hrd (of_decide_eq_true z)
          have en2 : nxt ⟨false, D0, W0, br0, fr0⟩ c r = some (.lf (.sh a b), ⟨true, D0 ++ [.lf (.sh a b)], W0, br0, false⟩) := by
            rw [en]
            show ((RS.mk false D0 W0 br0 fr0).step (.lf (.sh a b))).map (fun S' => (Tk.lf (.sh a b), S')) = _
            rw [es]
            rfl
          exact ny _ _ en2 H3 (mv2.trans mv3) (G3.st rfl rfl rfl rfl)
        · rw [en, el, hrd]
          rfl
      refine ⟨_, rfl, c, _, rfl, rfl, _, rfl, ite2 (fun _ => ⟨_, rfl, x, C, dx, _, _, rfl, G2.ins, T.cl, T.nN, rfl, false, rfl, iteF ?_⟩) (fun _ => iteF ?_)⟩
      · exact ⟨_, rfl, x, dx, _, rfl, G2.ins, rfl, _, rfl, go⟩
      · exact ⟨_, rfl, x, dx, _, rfl, G2.ins, rfl, _, rfl, go⟩
end
end Nv

set_option maxRecDepth 100000
set_option maxHeartbeats 8000000
namespace Nv
open PySem PySem.Spec PyProof.Rows L2 L2H LamX
theorem lenIs {C x dx d w : Addr} {L : List Nat} {H : Hp} {i : Nat} {S : RS} (R : RdAt C x dx d w L H i S) : spotOf x H = i := by
  unfold spotOf
  rw [R.ins]
  exact Int.toNat_natCast i
def init : RS := ⟨false, [], [], 0, true⟩
def spRRea (C CT : Addr) : Sp := fun vs H Q E => ∃ (x dx d w : Addr) (L : List Nat), vs = [.ref x] ∧ RdAt C x dx d w L H 0 init ∧ Few L ∧ (∀ j, GG L 0 init = .inl j → raisesM CT x d w j H E) ∧
  ∀ F, GG L 0 init = .inr F → RInv F → F.st = true → F.br = 0 → F.many ≤ L.length → ∀ (H' : Hp) (ds : List V), Mov x d w H H' → H' d = some (.lst ds) → Paired (PcAt H') ds (settle 1 F.D F.W).1 → Q (.ref d) H'
theorem nxt_ok {S S' : RS} {c : Nat} {r : List Nat} {k : Tk} (h : nxt S c r = some (k, S')) : TkOk k ∧ S.step k = some S' ∧ 1 ≤ k.chars.length ∧ c :: r = k.chars ++ r.drop (k.chars.length - 1) := by
  unfold nxt at h
  obtain ⟨k', h1, h2⟩ := Option.bind_eq_some_iff.mp h
  obtain ⟨S2, h3, h4⟩ := Option.map_eq_some_iff.mp h2
  cases h4
  split at h1
  · obtain ⟨e, ok⟩ := lexT_ok h1
    refine ⟨ok, h3, by rw [e]; exact Nat.le_refl _, by rw [e]; rfl⟩
  · obtain ⟨ok, n1, e⟩ := lexF_ok h1
    exact ⟨ok, h3, n1, e⟩
theorem drop_tok {L : List Nat} {j n c : Nat} {r : List Nat} (h : L.drop j = c :: r) (hn : 1 ≤ n) : L.drop (j + n) = r.drop (n - 1) := by
  obtain ⟨m, rfl⟩ : ∃ m, n = m + 1 := ⟨n - 1, by omega⟩
  rw [← List.drop_drop, h, List.drop_succ_cons, Nat.add_sub_cancel]
section
variable {P : Program} {w0 : World} {K : PySem.W.Frag} {mg : Str → Option Value} {base : Heap} {dH dW CN CT fNe fI : Addr}
theorem ok_rnex {f C fS : Addr} {fd fdS fdI : FuncData} (F : Fun K "read_next" "Reading.read_next" sRNex f fd) (T : RdC K C) (D2 : Dct2 K w0 mg dH dW) (hm : ∀ c, opT c = none → PySem.W.nsIn K dW (SX.S [c]) = some none) (MS : MetC P w0 K mg base C 1 "settle" ["self", "least"] (spRSet C) fS fdS)
    (R : ErrF K mg "BadText" "at" CN CT fNe fI) (GI : FnOk P w0 K mg base CX0 2 fI fdI ["self", "at"] (spBTx CT)) (bI : Binds K fdI ["self", "at"] []) :
    FnOk P w0 K mg base (L2.CX P w0) 4 f fd ["self"] (spRNex C CT) := by
  obtain ⟨t4, h4⟩ := D2.gB
  obtain ⟨es, n, KD⟩ := D2.kd
  refine F.okX scRNex (fun vs H Q E h => ?_) (fun cdv A outer s H vs Q E hr h => ?_)
  · obtain ⟨x, dx, d, w, L, i, S, c, r, rfl, _⟩ := h
    rfl
  · obtain ⟨x, dx, d, w, L, i, S, c, r, rfl, G, ri, s0, hd, ny, nn⟩ := h
    refine ⟨_, pss_cons (ps_set (i := 1) scRNex.nd rfl (.inl rfl) (pe_item_str (pe_fldK K (pv 0) rfl) (pe_fldK K (pv 0) rfl) (fun _ _ => rfl)))
      (pss_cons (ps_if (PW.pt (pw_and (pt_cmpR op_eq (pv 1) pe_str (nomark _)) (pw_and1 (pt_cmpR op_gt (pe_fldK K (pv 0) rfl) pe_int (nomark _)))))
        (pss_cons (ps_expr (pe_meth (pv 0) T.cl MS.me MS.ok (hr.mono (by decide)) MS.bi .nil pass0 (pa_cons (pe_op op_add (pe_ix ix_kdict (pe_glob (v := .ref dH) (by rfl) D2.gH rfl) (pe_glob (v := .str "(") (by rfl) h4 ⟨_, rfl⟩) (fun _ _ => rfl)) pe_int) pa_nil)))
        (pss_cons (ps_expr (pe_bm0 PySem.F.plainAttrs_list PySem.F.slot_list_pop PySem.F.type_list_pop mt_pop (pe_fldK K (pv 0) rfl)))
        (pss_cons (ps_fldaug (pv 0) pe_int in_sub)
        (pss_cons (ps_fldaug (pv 0) pe_int in_add)
        (pss_one (ps_ret pe_bl)))))) pss_nil)
      (pss_cons (ps_if (pt_cmpR (op_notIn_kd KD) (pv 1) (pe_glob (v := .ref dW) (by rfl) D2.gW rfl) (by rfl)) (pss_one (ps_raise rfl (takes_of rfl rfl rfl rfl) (pmk_oex R.oex R.iC R.tI GI (hr.mono (by decide)) bI .nil pass0 (by rfl) R.gC (pa_cons (pe_fldK K (pv 0) rfl) pa_nil)))) pss_nil)
      (pss_cons (ps_set (i := 2) scRNex.nd rfl (.inl rfl) (pe_ix ix_kdict (pe_glob (v := .ref dW) (by rfl) D2.gW rfl) (pv 1) (fun _ _ => rfl)))
      (pss_cons (ps_expr (pe_meth (pv 0) T.cl MS.me MS.ok (hr.mono (by decide)) MS.bi .nil pass0 (pa_cons (pe_ix ix_kdict (pe_glob (v := .ref dH) (by rfl) D2.gH rfl) (pv 2) (fun _ _ => rfl)) pa_nil)))
      (pss_cons (ps_expr (pe_bm PySem.F.plainAttrs_list PySem.F.slot_list_append PySem.F.type_list_append mt_append (pe_fldK K (pv 0) rfl) (pa_cons (pv 2) pa_nil)))
      (pss_cons (ps_fldaug (pv 0) pe_int in_add)
      (pss_one (ps_ret pe_bl)))))))), ?_⟩
    obtain ⟨st0, D0, W0, br0, fr0⟩ := S
    cases (show st0 = true from s0)
    have hi := G.hi
    have hLL := G.hL
    have hlen := G.len
    obtain ⟨hch, il⟩ := get_at hd rfl
    have hcp : (SX.S L).cps[(i : Int).toNat]? = some c := by
      rw [Int.toNat_natCast]
      simpa [SX.S] using hch
    have lenk : i + 1 ≤ L.length := il
    have en : nxt ⟨true, D0, W0, br0, fr0⟩ c r = (lexT c).bind fun k => ((RS.mk true D0 W0 br0 fr0).step k).map fun S' => (k, S') := rfl
    refine ⟨_, rfl, x, C, dx, _, _, rfl, G.ins, T.cl, T.nT, rfl, _, rfl, x, C, dx, _, _, rfl, G.ins, T.cl, T.nS, rfl, _, _, c, rfl, rfl, by omega, by omega, by rw [SX.S_len]; omega, hcp, ?_⟩
    by_cases c41 : c = 41
    · subst c41
      have el : lexT 41 = some .sht := rfl
      rw [el] at en
      refine ⟨_, rfl, rfl, _, rfl, ifP ((sg_eq str_shut).mpr rfl) ?_⟩
      by_cases hb : 0 < br0
      · obtain ⟨D1, W1, es⟩ := settle_br D0 (show 0 < brN W0 by have : brN W0 = br0 := ri.brs; omega)
        have e3 : (RS.mk true D0 W0 br0 fr0).step .sht = some ⟨true, D1, W1, br0 - 1, fr0⟩ := by
          show (if 0 < br0 then (match settle 1 D0 W0 with
            | (D2, .br :: W2) => some (⟨true, D2, W2, br0 - 1, fr0⟩ : RS)
            | _ => none) else none) = _
          rw [if_pos hb, es]
        have en2 : nxt ⟨true, D0, W0, br0, fr0⟩ 41 r = some (.sht, ⟨true, D1, W1, br0 - 1, fr0⟩) := by
          rw [en]
          show ((RS.mk true D0 W0 br0 fr0).step .sht).map (fun S' => (Tk.sht, S')) = _
          rw [e3]
          rfl
        have q := ny _ _ en2
        refine ⟨_, rfl, x, C, dx, _, _, rfl, G.ins, T.cl, T.nB, rfl, _, 0, rfl, rfl, _, rfl, ifP (show (0 : Int) < ((br0 : Nat) : Int) by omega) ?_⟩
        refine ⟨_, rfl, x, dx, _, rfl, G.ins, rfl, dH, Wd.br.word, _, rfl, rfl, D2.hold .br, _, 1, rfl, rfl, x, dx, d, w, L, i, _, 1, rfl, G, fun H1 mv1 G1 => ?_⟩
        rw [show settle 1 (RS.mk true D0 W0 br0 fr0).D (RS.mk true D0 W0 br0 fr0).W = (D1, .br :: W1) from es] at G1
        have hW := G1.ws
        rw [show ((RS.mk true D0 W0 br0 fr0).put (D1, .br :: W1)).W = .br :: W1 from rfl, List.reverse_cons, List.map_append] at hW
        have hW : H1 w = some (.lst (W1.reverse.map wdV ++ [wdV .br])) := hW
        have nxw := G1.nxw
        refine ⟨_, rfl, x, C, dx, _, _, rfl, G1.ins, T.cl, T.nW, rfl, .inl ⟨rfl, _, SqL.of hW⟩, w, _, wdV .br, rfl, rfl, hW, by simp, ?_⟩
        rw [List.dropLast_concat]
        refine ⟨_, rfl, x, C, dx, _, _, rfl, (by rw [upd_ne nxw]; exact G1.ins), T.cl, T.nB, rfl, _, _, rfl, rfl, dx, _, (by rw [upd_ne nxw]; exact G1.ins), (by show 7 < 1000; decide), ?_⟩
        refine ⟨_, rfl, x, C, dx, _, _, rfl, upd_same, T.cl, T.nS, rfl, _, _, rfl, rfl, dx, _, upd_same, (by show 7 < 1000; decide), ?_⟩
        rw [upd_twice]
        have mv2 : Mov x d w H1 (upd (upd H1 w (.lst (W1.reverse.map wdV))) x (.ins C dx (fs7 (SX.S L) false (i + 1) d w (br0 - 1) fr0))) := fun a o n1 _ n3 h => by
          rw [upd_ne n1, upd_ne n3]
          exact h
        have eB : ((br0 : Nat) : Int) - 1 = ((br0 - 1 : Nat) : Int) := by omega
        have eI : putF "spot" (.int ((i : Int) + 1)) (putF "brackets" (.int (((br0 : Nat) : Int) - 1)) (fs7 (SX.S L) false i d w br0 fr0)) = fs7 (SX.S L) false (i + 1) d w (br0 - 1) fr0 := by
          rw [eB]
          rfl
        obtain ⟨ds, hds, pds⟩ := G1.ds
        have GA : RdAt C x dx d w L (upd (upd H1 w (.lst (W1.reverse.map wdV))) x (.ins C dx (fs7 (SX.S L) false (i + 1) d w (br0 - 1) fr0))) (i + 1) ⟨true, D1, W1, br0 - 1, fr0⟩ := by
          refine ⟨upd_same, G1.ne, ⟨ds, ?_, Paired.imp' (fun _ _ z => z.keep (G1.tk mv2)) pds⟩, ?_, ?_, lenk, hLL⟩
          · rw [upd_ne G1.nxd.symm, upd_ne G1.ne]
            exact hds
          · rw [upd_ne nxw.symm, upd_same]
          · have l1 : D1.length + (W1.length + 1) ≤ i := G1.len
            show D1.length + W1.length ≤ i + 1
            omega
        have fin := q _ (mv1.trans mv2) GA
        rw [← eI] at fin
        exact fin
      · have e3 : (RS.mk true D0 W0 br0 fr0).step .sht = none := if_neg hb
        refine ⟨_, rfl, x, C, dx, _, _, rfl, G.ins, T.cl, T.nB, rfl, _, 0, rfl, rfl, _, rfl, ifN (show ¬ (0 : Int) < ((br0 : Nat) : Int) by omega) ?_⟩
        have no : nxt ⟨true, D0, W0, br0, fr0⟩ 41 r = none := by
          rw [en]
          show ((RS.mk true D0 W0 br0 fr0).step .sht).map (fun S' => (Tk.sht, S')) = _
          rw [e3]
          rfl
        refine ⟨_, rfl, SX.S [41], none, rfl, rfl, hm 41 rfl, _, rfl, iteT ?_⟩
        exact ⟨_, rfl, x, C, dx, _, _, rfl, G.ins, T.cl, T.nS, rfl, raise_x (by omega) (nn no).F⟩
    refine ⟨_, rfl, rfl, _, rfl, ifN (fun z => c41 ((sg_eq str_shut).mp z)) (iteF ?_)⟩
    have el : lexT c = (opT c).map .op := if_neg c41
    rw [el] at en
    cases ho : opT c with
    | none =>
      have no : nxt ⟨true, D0, W0, br0, fr0⟩ c r = none := by
        rw [en, ho]
        rfl
      refine ⟨_, rfl, SX.S [c], none, rfl, rfl, hm c ho, _, rfl, iteT ?_⟩
      exact ⟨_, rfl, x, C, dx, _, _, rfl, G.ins, T.cl, T.nS, rfl, raise_x (by omega) (nn no).F⟩
    | some o =>
      have ec := op_chr ho
      rw [ho] at en
      subst ec
      have q := ny (.op o) ⟨false, (settle o.lev D0 W0).1, .op o :: (settle o.lev D0 W0).2, br0, fr0⟩ en
      have kw := D2.wrd o
      obtain ⟨es2, n2, u2, k1, k2, k3, k4⟩ := id kw
      refine ⟨_, rfl, SX.S [o.chr], some u2, rfl, rfl, k3, _, rfl, iteF ?_⟩
      refine ⟨_, rfl, dW, _, _, rfl, rfl, kw, ?_⟩
      refine ⟨_, rfl, x, dx, _, rfl, G.ins, rfl, _, rfl, dH, (Wd.op o).word, _, rfl, rfl, D2.hold (.op o), x, dx, d, w, L, i, _, o.lev, rfl, G, fun H1 mv1 G1 => ?_⟩
      obtain ⟨D1, W1, es⟩ : ∃ D1 W1, settle o.lev D0 W0 = (D1, W1) := ⟨_, _, rfl⟩
      have G1 : RdAt C x dx d w L H1 i ⟨true, (settle o.lev D0 W0).1, (settle o.lev D0 W0).2, br0, fr0⟩ := G1
      have lW := G1.len
      refine ⟨_, rfl, x, C, dx, _, _, rfl, G1.ins, T.cl, T.nW, rfl, .inl ⟨rfl, _, SqL.of G1.ws⟩, _, rfl, w, _, _, rfl, rfl, G1.ws, ?_, ?_⟩
      · rw [List.length_map, List.length_reverse]
        exact fitLine (by omega)
      have nxw := G1.nxw
      refine ⟨_, rfl, x, C, dx, _, _, rfl, (by rw [upd_ne nxw]; exact G1.ins), T.cl, T.nS, rfl, _, _, rfl, rfl, dx, _, (by rw [upd_ne nxw]; exact G1.ins), (by show 7 < 1000; decide), ?_⟩
      have GA := G1.addW (T := ⟨false, (settle o.lev D0 W0).1, .op o :: (settle o.lev D0 W0).2, br0, fr0⟩) (v := .op o) (n := 1) rfl rfl (Nat.le_refl _) lenk
      refine q _ (mv1.trans fun a o n1 _ n3 h => ?_) GA
      rw [upd_ne n1, upd_ne n3]
      exact h
theorem ok_rrea {f C fE f1 f2 fS : Addr} {fd fdE fd1 fd2 fdS fdI : FuncData} (F : Fun K "read" "Reading.read" sRRea f fd) (T : RdC K C) (B : Blt mg) (D2 : Dct2 K w0 mg dH dW) (ME : MetC P w0 K mg base C 1 "ended" ["self"] (spREnd C) fE fdE)
    (M1 : MetX P w0 K mg base C 7 "read_first" ["self"] (spRFir C CT) f1 fd1) (M2 : MetX P w0 K mg base C 4 "read_next" ["self"] (spRNex C CT) f2 fd2) (MS : MetC P w0 K mg base C 1 "settle" ["self", "least"] (spRSet C) fS fdS)
    (R : ErrF K mg "BadText" "at" CN CT fNe fI) (GI : FnOk P w0 K mg base CX0 2 fI fdI ["self", "at"] (spBTx CT)) (bI : Binds K fdI ["self", "at"] []) :
    FnOk P w0 K mg base (L2.CX P w0) 8 f fd ["self"] (spRRea C CT) := by
  obtain ⟨t4, h4⟩ := D2.gB
  refine F.okX scRRea (fun vs H Q E h => ?_) (fun cdv A outer s H vs Q E hr h => ?_)
  · obtain ⟨x, dx, d, w, L, rfl, _⟩ := h
    rfl
  · obtain ⟨x, dx, d, w, L, rfl, G, fw, qe, q⟩ := h
    refine ⟨_, pss_cons (ps_set (i := 1) scRRea.nd rfl (.inl rfl) pe_bl)
      (pss_cons (ps_while (passes_of rfl) (PW.pt (pw_or (pt_not (pt_val (pv 1))) (pw_or1 (pt_not (pt_val (pe_meth0 (pv 0) T.cl ME.me ME.ok (hr.mono (by decide)) ME.bi .nil pass0))))))
        (pss_one (ps_set (i := 1) scRRea.nd rfl (.inl rfl) (pe_ifExp (pt_val (pv 1)) (pe_meth0 (pv 0) T.cl M2.me M2.ok (hr.mono (by decide)) M2.bi .nil (passes_call (takes_of rfl rfl rfl rfl) (fun _ _ _ _ z => z))) (pe_meth0 (pv 0) T.cl M1.me M1.ok (hr.mono (by decide)) M1.bi .nil (passes_call (takes_of rfl rfl rfl rfl) (fun _ _ _ _ z => z)))))))
      (pss_cons (ps_if (pt_cmpR op_gt (pe_fldK K (pv 0) rfl) pe_int (nomark _)) (pss_one (ps_raise rfl (takes_of rfl rfl rfl rfl) (pmk_oex R.oex R.iC R.tI GI (hr.mono (by decide)) bI .nil pass0 (by rfl) R.gC (pa_cons (pe_callB call_len_str (by rfl) B.len PySem.boot_len (pa_cons (pe_fldK K (pv 0) rfl) pa_nil)) pa_nil)))) pss_nil)
      (pss_cons (ps_expr (pe_meth (pv 0) T.cl MS.me MS.ok (hr.mono (by decide)) MS.bi .nil pass0 (pa_cons (pe_op op_add (pe_ix ix_kdict (pe_glob (v := .ref dH) (by rfl) D2.gH rfl) (pe_glob (v := .str "(") (by rfl) h4 ⟨_, rfl⟩) (fun _ _ => rfl)) pe_int) pa_nil)))
      (pss_one (ps_ret (pe_fldK K (pv 0) rfl)))))), ?_⟩
    refine while_by (fun σ H' => ∃ (i : Nat) (S : RS), σ = [some (.ref x), some (.bl S.st)] ∧ Mov x d w H H' ∧ RdAt C x dx d w L H' i S ∧ RInv S ∧ GG (L.drop i) i S = GG L 0 init ∧ S.many ≤ i)
      (fun _ H' => L.length - spotOf x H') ⟨0, init, rfl, Mov.refl, G, rinv0, rfl, Nat.le_refl _⟩ (fun σ H1 hP => ?_) (MonT.m ?_)
    · obtain ⟨i, S, rfl, mv1, G1, ri, eg, sm⟩ := hP
      have hi := G1.hi
      have hLL := G1.hL
      have lb := lenW_le isBl (L.drop i)
      rw [List.length_drop] at lb
      obtain ⟨j, ej⟩ : ∃ j, i + lenW isBl (L.drop i) = j := ⟨_, rfl⟩
      have eg2 : GG (L.drop j) j S = GG L 0 init := by
        rw [← eg, GG_skip (L.drop i), List.drop_drop, ej]
      have hjl : j ≤ L.length := by omega
      have out : ∀ c r, L.drop j = c :: r → c ≠ 32 := fun c r hd z => by
        have e0 : (L.drop i)[lenW isBl (L.drop i)]? = L[j]? := by rw [List.getElem?_drop, ej]
        have e1 := (get_at hd rfl).1
        have := lenW_out isBl (L.drop i) c (e0.trans e1)
        rw [z] at this
        cases this
      -- a turn
      have next : ∀ (c : Nat) (r : List Nat) (H2 : Hp) (k : Tk) (S2 : RS), L.drop j = c :: r → nxt S c r = some (k, S2) → Mov x d w H1 H2 → RdAt C x dx d w L H2 (j + k.chars.length) S2 →
          (∃ (i : Nat) (S : RS), [some (V.ref x), some (.bl S2.st)] = [some (.ref x), some (.bl S.st)] ∧ Mov x d w H H2 ∧ RdAt C x dx d w L H2 i S ∧ RInv S ∧ GG (L.drop i) i S = GG L 0 init ∧ S.many ≤ i) ∧ L.length - spotOf x H2 < L.length - spotOf x H1 := fun c r H2 k S2 hd hn m2 G2 => by
        obtain ⟨ok, hs, n1, _⟩ := nxt_ok hn
        obtain ⟨ri2, hm2⟩ := step_inv ri ok hs
        refine ⟨⟨_, S2, rfl, mv1.trans m2, G2, ri2, ?_, ?_⟩, ?_⟩
        · rw [← eg2, hd, GG_tok (out c r hd) hn, drop_tok hd n1]
        · rw [hm2]
          cases k <;> simp only [] at * <;> omega
        · rw [lenIs G2, lenIs G1]
          have := G2.hi
          omega
      have wrong : ∀ (c : Nat) (r : List Nat), L.drop j = c :: r → nxt S c r = none → raisesM CT x d w j H1 E := fun c r hd hn => G1.raise mv1 (qe j (by rw [← eg2, hd, GG_err (out c r hd) hn]))
      cases hs : S.st with
      | false =>
        refine ⟨_, rfl, false, rfl, iteT ?_⟩
        refine iteT ?_
        refine ⟨_, rfl, false, rfl, iteF ?_⟩
        refine ⟨_, rfl, x, dx, _, rfl, G1.ins, rfl, x, dx, d, w, L, i, S, rfl, G1, ri, fw, hs, fun hj => ?_, fun c r hd => ⟨fun k S2 hn H2 m2 G2 => ?_, fun hn => ?_⟩⟩
        · rw [ej] at hj
          refine G1.raise mv1 (qe _ ?_)
          rw [← eg2, hj, List.drop_length, GG_nil, if_neg (fun z => by rw [hs] at z; cases z.1)]
        · rw [ej] at hd G2
          exact next c r H2 k S2 hd hn m2 G2
        · rw [ej] at hd ⊢
          exact wrong c r hd hn
      | true =>
        refine ⟨_, rfl, true, rfl, iteF ?_⟩
        refine ⟨_, rfl, x, dx, _, rfl, G1.ins, rfl, x, dx, L, false, i, d, w, S.br, S.fr, rfl, G1.ins, hi, hLL, _, rfl, ?_⟩
        rw [ej]
        have G2 := G1.setX (j := j) (T := S) rfl rfl (by omega) hjl
        have mv2 : Mov x d w H1 (upd H1 x (.ins C dx (fs7 (SX.S L) false j d w S.br S.fr))) := mov_x
        generalize upd H1 x (.ins C dx (fs7 (SX.S L) false j d w S.br S.fr)) = H2 at G2 mv2
        by_cases hj : j = L.length
        · rw [decide_eq_true hj]
          refine iteF ?_
          rw [hj, List.drop_length, GG_nil] at eg2
          refine ⟨_, rfl, x, C, dx, _, _, rfl, G2.ins, T.cl, T.nB, rfl, _, 0, rfl, rfl, _, rfl, ite2 (fun cb => ?_) (fun cb => ?_)⟩
          · have cb : (0 : Int) < ((S.br : Nat) : Int) := of_decide_eq_true cb
            rw [if_neg (fun z => by have := z.2; omega)] at eg2
            refine ⟨_, rfl, x, C, dx, _, _, rfl, G2.ins, T.cl, T.nT, rfl, _, rfl, by rw [SX.S_len, sizeLine_eq]; omega, ?_⟩
            rw [SX.S_len]
            exact raise_x (by omega) (G2.raise (mv1.trans mv2) (qe _ eg2.symm)).F
          · have cb : ¬ (0 : Int) < ((S.br : Nat) : Int) := fun z => cb (decide_eq_true z)
            have b0 : S.br = 0 := by omega
            rw [if_pos ⟨hs, b0⟩] at eg2
            refine ⟨_, rfl, x, dx, _, rfl, G2.ins, rfl, dH, Wd.br.word, _, rfl, rfl, D2.hold .br, _, 1, rfl, rfl, x, dx, d, w, L, _, S, 1, rfl, G2, fun H3 mv3 G3 => ?_⟩
            obtain ⟨ds, hds, pds⟩ := G3.ds
            exact ⟨_, rfl, x, C, dx, _, _, rfl, G3.ins, T.cl, T.nD, rfl, q S eg2.symm ri hs b0 (by omega) H3 ds ((mv1.trans mv2).trans mv3) hds pds⟩
        · rw [decide_eq_false hj]
          refine iteT ?_
          refine ⟨_, rfl, true, rfl, iteT ?_⟩
          obtain ⟨c, r, hd⟩ : ∃ c r, L.drop j = c :: r := by
            cases hd : L.drop j with
            | nil =>
              have := congrArg List.length hd
              rw [List.length_drop] at this
              have : j = L.length := by simp at this; omega
              exact absurd this hj
            | cons c r => exact ⟨c, r, rfl⟩
          refine ⟨_, rfl, x, dx, _, rfl, G2.ins, rfl, x, dx, d, w, L, j, S, c, r, rfl, G2, ri, hs, hd, fun k S2 hn H3 m3 G3 => ?_, fun hn => ?_⟩
          · exact next c r H3 k S2 hd hn (mv2.trans m3) G3
          · exact G2.raise mv2 (wrong c r hd hn)
    · exact mon_or (mon_not (mon_b mon_var)) (mon_not (mon_b (mon_meth mon_var mon_nil (fun z H Q Q' h ⟨x, dx, L, nm, i, d, w, br, fr, e1, e2, e3, e4, q⟩ => ⟨x, dx, L, nm, i, d, w, br, fr, e1, e2, e3, e4, h _ _ q⟩))))
end
end Nv

set_option maxRecDepth 100000
set_option maxHeartbeats 8000000
namespace Nv
open PySem PySem.Spec PyProof.Rows L2 L2H LamX
abbrev sBui : Stmt := topS 61
abbrev sRTm : Stmt := topS 62
theorem scBui : FnScope ["pieces", "terms", "piece", "many", "things"] ["pieces"] (defScope sBui) := ⟨rfl, rfl, rfl, by decide +kernel, rfl, by decide +kernel, by decide +kernel⟩
theorem scRTm : FnScope ["text", "term"] ["text"] (defScope sRTm) := ⟨rfl, rfl, rfl, by decide +kernel, rfl, by decide +kernel, by decide +kernel⟩
def spBui : Sp := fun vs H Q _ => ∃ (d : Addr) (ds : List V) (Ps : List Pc) (E0 : ET), vs = [.ref d] ∧ H d = some (.lst ds) ∧ Paired (PcAt H) ds Ps ∧ evo Ps [] = some [E0] ∧ Ps.length ≤ 100000 ∧ ∀ (U : AT) (H' : Hp), Same H H' → U.In H' → U.er = E0 → Q U.v H'
namespace C9
/-- a def that may raise, called by its name -/
structure CalX (P : Program) (w : World) (K : PySem.W.Frag) (mg : Str → Option Value) (base : Heap) (k : Nat) (x : Str) (sp : Sp) (dvs : List V) : Prop where
  ex : ∃ (f : Addr) (fd : FuncData) (ps : List Str) (ds : List Value), FnOk P w K mg base (L2.CX P w) k f fd ps sp ∧ mg x = some (.ref f) ∧ PySem.W.keepIn K (.ref f) = true ∧ Binds K fd ps ds ∧ Vals dvs ds
theorem pe_cxE {X : Cx} {k j : Nat} {x : Str} {sp : Sp} {dvs : List V} {e : Expr} {es : List Expr} {p pos : Pos} {t : TA} {E : XK} (c : CalX X.prog X.w X.K X.mg X.base k x sp dvs) (hr : Room j X.A) (hk : k ≤ j) (hx : Passes (L2.CX X.prog X.w) X E) (hg : Gl X x) (ha : PA X (e :: es) t)
    (hdb : (x == ("__debug__" : Str)) = false := by decide) (he : starEach (e :: es) X.env = (false, eval e X.env) :: starEach es X.env := by rfl) (hpl : (backTo pos (starEach es X.env)).any (·.1) = false := by rfl) :
    PE X (.Call (.Name x p) (e :: es) [] pos) (tCall sp dvs E t) := by
  obtain ⟨f, fd, ps, ds, F, hm, kp, b, d⟩ := c.ex
  exact pe_call F (hr.mono hk) hg hm kp b d hx ha hdb he hpl
end C9
section
variable {P : Program} {w0 : World} {K : PySem.W.Frag} {mg : Str → Option Value} {base : Heap}
theorem ok_bui {f : Addr} {fd : FuncData} {k : Nat} (F : Fun K "built" "built" sBui f fd) (B : Blt mg) : FnOk P w0 K mg base CX0 (k + 1) f fd ["pieces"] spBui := by
  refine F.ok scBui (fun vs H Q E h => ?_) (fun cdv A outer s H vs Q E hr h => ?_)
  · obtain ⟨d, ds, Ps, E0, rfl, _⟩ := h
    rfl
  · obtain ⟨d, ds, Ps, E0, rfl, hd, pd, hev, hT, q⟩ := h
    refine ⟨_, pss_cons (ps_set (i := 1) scBui.nd rfl (.inl rfl) (pe_lst pa_nil))
      (pss_cons (ps_for PassesOwn.never rfl (pi_list (pv 0)) (pg_name (i := 2) scBui.nd rfl (Or.inl rfl))
        (pss_one (ps_if (pt_cmpR op_gt (pe_callB call_len_seq (by rfl) B.len PySem.boot_len (pa_cons (pv 2) pa_nil)) pe_int (nomark _))
          (pss_one (ps_expr (pe_bm PySem.F.plainAttrs_list PySem.F.slot_list_append PySem.F.type_list_append mt_append (pv 1) (pa_cons (pv 2) pa_nil))))
          (pss_cons (ps_set (i := 3) scBui.nd rfl (.inl rfl) (pe_ifExp (pt_cmpR op_eq (pe_ix ix_tup (pv 2) pe_int (fun _ _ => rfl)) pe_str (nomark _)) pe_int pe_int))
          (pss_cons (ps_set (i := 4) scBui.nd rfl (.inl rfl) (pe_slice sl_list (pv 1) (po_some (pe_un un_neg (pv 3))) po_none))
          (pss_cons (ps_delLast (pv 1) (po_some (pe_un un_neg (pv 3))))
          (pss_one (ps_expr (pe_bm PySem.F.plainAttrs_list PySem.F.slot_list_append PySem.F.type_list_append mt_append (pv 1) (pa_cons (pe_tup (pa_cons (pe_ix ix_tup (pv 2) pe_int (fun _ _ => rfl)) (StX.pa_star (pv 4) pa_nil))) pa_nil))))))))))
      (pss_one (ps_ret (pe_ix ix_list (pv 1) pe_int (fun _ _ => rfl))))), ?_⟩
    have lds := Paired.length pd
    refine ⟨Nat.zero_le _, fun t nt => ?_⟩
    have s0 := same_new (o := .lst []) nt
    refine gN (nxS ?_)
    refine ⟨_, rfl, d, rfl, ⟨ds, SqL.of (s0 _ _ hd)⟩, for_list (K := K) (a := d) (xs := ds) (fun i σ H' => ∃ (Ts : List AT) (y2 y3 y4 : Option V), σ = [some (.ref d), some (.ref t), y2, y3, y4] ∧ Same H H' ∧ H' t = some (.lst (Ts.reverse.map AT.v)) ∧ (∀ A ∈ Ts, A.In H') ∧ Ts.length ≤ i ∧ evo (Ps.drop i) (Ts.map AT.er) = some [E0]) ?_ ?_ ?_ ?_⟩
    · refine ⟨[], none, none, none, rfl, s0, upd_same, fun _ h => (nomatch h), Nat.le_refl _, ?_⟩
      rw [List.drop_zero]
      exact hev
    · rintro i σ H' _ ⟨Ts, y2, y3, y4, rfl, s1, _⟩
      exact SqL.of (s1 _ _ hd)
    · rintro i v σ H' hv ⟨Ts, y2, y3, y4, rfl, s1, et, hin, li, ev⟩
      have il : i < ds.length := (List.getElem?_eq_some_iff.mp hv).1
      obtain ⟨pc, hpc, hat⟩ := pair_at pd hv
      have hat1 := hat.keep (Same.tk s1)
      have edrop : Ps.drop i = pc :: Ps.drop (i + 1) := by
        have lt : i < Ps.length := (List.getElem?_eq_some_iff.mp hpc).1
        rw [List.drop_eq_getElem_cons lt]
        rw [List.getElem?_eq_getElem lt] at hpc
        rw [Option.some.inj hpc]
      rw [edrop] at ev
      have lTs : (Ts.reverse.map AT.v).length = Ts.length := by rw [List.length_map, List.length_reverse]
      -- a whole one is put to them
      have put : ∀ (U : AT) (Ts' : List AT) (H2 : Hp) (y3 y4 : Option V), U.In H2 → Same H H2 → H2 t = some (.lst (Ts'.reverse.map AT.v)) → (∀ A ∈ Ts', A.In H2) → Ts'.length ≤ i → evo (Ps.drop (i + 1)) (U.er :: Ts'.map AT.er) = some [E0] →
          (Ts'.reverse.map AT.v).length < sizeLine ∧ ∃ (Ts : List AT) (y2 y3' y4' : Option V), [some (V.ref d), some (.ref t), some v, y3, y4] = [some (.ref d), some (.ref t), y2, y3', y4'] ∧ Same H (upd H2 t (.lst (Ts'.reverse.map AT.v ++ [U.v]))) ∧ (upd H2 t (.lst (Ts'.reverse.map AT.v ++ [U.v]))) t = some (.lst (Ts.reverse.map AT.v)) ∧ (∀ A ∈ Ts, A.In (upd H2 t (.lst (Ts'.reverse.map AT.v ++ [U.v])))) ∧ Ts.length ≤ i + 1 ∧ evo (Ps.drop (i + 1)) (Ts.map AT.er) = some [E0] := fun U Ts' H2 y3 y4 hU s2 e2 hin2 l2 ev2 => by
        have k2 : TupKeep H2 (upd H2 t (.lst (Ts'.reverse.map AT.v ++ [U.v]))) := tk_lst e2
        refine ⟨?_, U :: Ts', some v, y3, y4, rfl, same_upd s2 nt, ?_, fun A hA => ?_, by rw [List.length_cons]; omega, ev2⟩
        · rw [List.length_map, List.length_reverse]
          exact fitLine (by omega)
        · rw [upd_same, List.reverse_cons, List.map_append]
          rfl
        · rcases List.mem_cons.mp hA with rfl | hA
          · exact hU.keep k2
          · exact (hin2 A hA).keep k2
      cases pc with
      | lf l =>
        have hev : evo (Ps.drop (i + 1)) (l.et :: Ts.map AT.er) = some [E0] := ev
        cases l with
        | sh a b =>
          obtain ⟨p, z, rfl, hp, hz⟩ := hat1
          obtain ⟨l1, nx⟩ := put (.sh p z a b) Ts H' y3 y4 ⟨hp, hz⟩ s1 et hin li hev
          refine ⟨_, rfl, p, _, rfl, .inr (SqT.of hp), _, _, rfl, rfl, _, rfl, ifP (by show (1 : Int) < ((2 : Nat) : Int); decide) ?_⟩
          exact ⟨_, rfl, .inl ⟨rfl, _, SqL.of et⟩, _, rfl, t, _, _, rfl, rfl, et, l1, nx⟩
        | le x =>
          obtain ⟨p, rfl, hp⟩ := hat1
          obtain ⟨l1, nx⟩ := put (.le p x) Ts H' y3 y4 hp s1 et hin li hev
          refine ⟨_, rfl, p, _, rfl, .inr (SqT.of hp), _, _, rfl, rfl, _, rfl, ifP (by show (1 : Int) < ((2 : Nat) : Int); decide) ?_⟩
          exact ⟨_, rfl, .inl ⟨rfl, _, SqL.of et⟩, _, rfl, t, _, _, rfl, rfl, et, l1, nx⟩
      | op w =>
        obtain ⟨p, rfl, hp⟩ := hat1
        obtain ⟨m, Us, Ts', mk, hTs, hm, h1, h2, hw, hmk, hmv, hev⟩ : ∃ (m : Nat) (Us Ts' : List AT) (mk : Addr → AT), Ts = Us.reverse ++ Ts' ∧ Us.length = m ∧ 1 ≤ m ∧ m ≤ 2 ∧ (w.word = Str.ofString "undo" ↔ m = 1) ∧
            (∀ p2 H2, H2 p2 = some (.tup (.str w.word :: Us.map AT.v)) → (∀ A ∈ Us, A.In H2) → (mk p2).In H2) ∧ (∀ p2, (mk p2).v = .ref p2) ∧ (∀ p2, evo (Ps.drop (i + 1)) ((mk p2).er :: Ts'.map AT.er) = some [E0]) := by
          cases w with
          | br => cases ev
          | undo =>
            match Ts, ev with
            | A :: Ts, ev => exact ⟨1, [A], Ts, fun p2 => .un p2 A, rfl, rfl, Nat.le_refl _, by decide, ⟨fun _ => rfl, fun _ => rfl⟩, fun p2 H2 e hU => ⟨e, hU A List.mem_cons_self⟩, fun _ => rfl, fun _ => ev⟩
          | op o =>
            match Ts, ev with
            | [_], ev => cases ev
            | B :: A :: Ts, ev => exact ⟨2, [A, B], Ts, fun p2 => .two p2 o A B, rfl, rfl, by decide, Nat.le_refl _, ⟨fun z => by cases o <;> exact absurd z (by decide +kernel), fun z => by cases z⟩, fun p2 H2 e hU => ⟨e, hU A List.mem_cons_self, hU B (List.mem_cons_of_mem _ List.mem_cons_self)⟩, fun _ => rfl, fun _ => ev⟩
        have eTs : Ts.reverse.map AT.v = Ts'.reverse.map AT.v ++ Us.map AT.v := by
          rw [hTs, List.reverse_append, List.reverse_reverse, List.map_append]
        have lU : (Us.map AT.v).length = m := by rw [List.length_map, hm]
        rw [eTs] at et lTs
        have lall : (Ts'.reverse.map AT.v ++ Us.map AT.v).length = (Ts'.reverse.map AT.v).length + m := by rw [List.length_append, lU]
        have hT' : ∀ A ∈ Ts', A.In H' := fun A hA => hin A (by rw [hTs]; exact List.mem_append_right _ hA)
        have hU' : ∀ A ∈ Us, A.In H' := fun A hA => hin A (by rw [hTs]; exact List.mem_append_left _ (List.mem_reverse.mpr hA))
        have lT' : Ts'.length ≤ i := by
          rw [hTs, List.length_append] at li
          omega
        refine ⟨_, rfl, p, _, rfl, .inr (SqT.of hp), _, _, rfl, rfl, _, rfl, ifN (by show ¬ (1 : Int) < ((1 : Nat) : Int); decide) ?_⟩
        refine keep (fun σ' H2 => σ' = [some (.ref d), some (.ref t), some (.ref p), some (.int (m : Int)), y4] ∧ H2 = H') (fun σ' H2 hM => ?_) (fun rest => ?_)
        · obtain ⟨rfl, rfl⟩ := hM
          refine ⟨_, rfl, _, rfl, (m : Int), rfl, _, rfl, t, _, rfl, SqL.of et, fun p1 np1 => ?_⟩
          rw [cut_last h1 (by rw [lall]; omega), lall, Nat.add_sub_cancel, List.drop_left]
          have sA := same_new (o := .lst (Us.map AT.v)) np1
          have et1 := sA _ _ et
          have ep1 : (upd H2 p1 (.lst (Us.map AT.v))) p1 = some (.lst (Us.map AT.v)) := upd_same
          have s2 := s1.trans sA
          have hp1 := sA _ _ hp
          have hT1 : ∀ A ∈ Ts', A.In (upd H2 p1 (.lst (Us.map AT.v))) := fun A hA => (hT' A hA).keep (Same.tk sA)
          have hU1 : ∀ A ∈ Us, A.In (upd H2 p1 (.lst (Us.map AT.v))) := fun A hA => (hU' A hA).keep (Same.tk sA)
          have n1t : p1 ≠ t := fun z => by rw [z, et] at np1; cases np1
          generalize upd H2 p1 (.lst (Us.map AT.v)) = H3 at et1 ep1 s2 hp1 hT1 hU1
          refine ⟨_, rfl, _, rfl, (m : Int), rfl, _, rfl, t, _, m, rfl, rfl, et1, h1, by rw [lall]; omega, ?_⟩
          rw [lall, Nat.add_sub_cancel, List.take_left]
          have k4 : TupKeep H3 (upd H3 t (.lst (Ts'.reverse.map AT.v))) := tk_lst et1
          have s4 : Same H (upd H3 t (.lst (Ts'.reverse.map AT.v))) := same_upd s2 nt
          have et4 : (upd H3 t (.lst (Ts'.reverse.map AT.v))) t = some (.lst (Ts'.reverse.map AT.v)) := upd_same
          have ep4 : (upd H3 t (.lst (Ts'.reverse.map AT.v))) p1 = some (.lst (Us.map AT.v)) := by rw [upd_ne n1t]; exact ep1
          have hp4 := k4 _ _ hp1
          have hT4 : ∀ A ∈ Ts', A.In (upd H3 t (.lst (Ts'.reverse.map AT.v))) := fun A hA => (hT1 A hA).keep k4
          have hU4 : ∀ A ∈ Us, A.In (upd H3 t (.lst (Ts'.reverse.map AT.v))) := fun A hA => (hU1 A hA).keep k4
          generalize upd H3 t (.lst (Ts'.reverse.map AT.v)) = H4 at s4 et4 ep4 hp4 hT4 hU4
          refine ⟨_, rfl, .inl ⟨rfl, _, SqL.of et4⟩, _, rfl, p, _, 0, _, rfl, rfl, SqT.of hp4, rfl, _, rfl, p1, _, rfl, .inr (SqL.of ep4), ?_, fun p5 np5 => ?_⟩
          · rw [List.append_nil, List.length_cons, lU, sizeLine_eq]
            omega
          · rw [List.append_nil]
            have sB := same_new (o := .tup (.str w.word :: Us.map AT.v)) np5
            obtain ⟨l1, nx⟩ := put (mk p5) Ts' (upd H4 p5 (.tup (.str w.word :: Us.map AT.v))) (some (.int (m : Int))) (some (.ref p1)) (hmk p5 _ upd_same (fun A hA => (hU4 A hA).keep (Same.tk sB))) (s4.trans sB) (sB _ _ et4) (fun A hA => (hT4 A hA).keep (Same.tk sB)) lT' (hev p5)
            rw [hmv] at nx
            exact ⟨t, _, _, rfl, rfl, sB _ _ et4, l1, nx⟩
        · refine ⟨_, rfl, p, _, 0, _, rfl, rfl, SqT.of hp, rfl, rfl, _, rfl, ite2 (fun c => ?_) (fun c => ?_)⟩
          · have : m = 1 := hw.mp (V.str.inj (of_decide_eq_true c))
            subst this
            exact rest _ _ ⟨rfl, rfl⟩
          · have : m ≠ 1 := fun z => c (by rw [hw.mpr z]; exact decide_eq_true rfl)
            have : m = 2 := by omega
            subst this
            exact rest _ _ ⟨rfl, rfl⟩
    · rintro σ H' ⟨Ts, y2, y3, y4, rfl, s1, et, hin, li, ev⟩
      rw [lds, List.drop_length] at ev
      have ev : Ts.map AT.er = [E0] := Option.some.inj ev
      match Ts, ev, et, hin with
      | [U], ev, et, hin =>
        have e : U.er = E0 := List.head_eq_of_cons_eq ev
        exact ⟨_, rfl, t, _, 0, U.v, rfl, rfl, SqL.of et, atI_nat (j := 0) rfl, q U H' s1 (hin U List.mem_cons_self) e⟩
      | [], ev, _, _ => exact absurd (congrArg List.length ev) (by simp)
      | _ :: _ :: _, ev, _, _ => exact absurd (congrArg List.length ev) (by simp)
end
/-- a text is read -/
def spRTm (CT CM : Addr) : Sp := fun vs H Q E => ∃ L : List Nat, vs = [.str (SX.S L)] ∧ L.length ≤ 5000 ∧ Few L ∧ (∀ j, GG L 0 init = .inl j → raisesF CT (atOf (j : Int)) H E) ∧
  ∀ F, GG L 0 init = .inr F → RInv F → (24 < F.many → raisesF CM (flawOf "many") H E) ∧ (F.many ≤ 24 → ((∃ (U : AT) (Lt : List Str), Good U Lt ∧ evo (settle 1 F.D F.W).1 [] = some [U.er]) ∨ (raisesF CM (flawOf "letters") H E ∧ raisesF CM (flawOf "deep") H E)) ∧
    ∀ (U : AT) (Lt : List Str) (H' : Hp), Same H H' → U.In H' → Good U Lt → U.count = F.many → evo (settle 1 F.D F.W).1 [] = some [U.er] → Q U.v H')
section
variable {P : Program} {w0 : World} {K : PySem.W.Frag} {mg : Str → Option Value} {base : Heap}
theorem ok_rtm {f C CT CM fI fR : Addr} {fd fdI fdR : FuncData} (F : Fun K "read_term" "read_term" sRTm f fd) (T : RdC K C) (gC : mg "Reading" = some (.ref C)) (M : Mk K C fI) (GI : FnOk P w0 K mg base CX0 1 fI fdI ["self", "text", "named"] (spRIni C)) (bI : Binds K fdI ["self", "text", "named"] [])
    (MR : MetX P w0 K mg base C 8 "read" ["self"] (spRRea C CT) fR fdR) (GB : C8.Cal P w0 K mg base 1 "built" spBui []) (GN : C9.CalX P w0 K mg base 5 "need_term" (spNeedG CM) []) :
    FnOk P w0 K mg base (L2.CX P w0) 9 f fd ["text"] (spRTm CT CM) := by
  refine F.okX scRTm (fun vs H Q E h => ?_) (fun cdv A outer s H vs Q E hr h => ?_)
  · obtain ⟨L, rfl, _⟩ := h
    rfl
  · obtain ⟨L, rfl, hL, fw, qe, q⟩ := h
    refine ⟨_, pss_cons (ps_set (i := 1) scRTm.nd rfl (.inl rfl) (C8.pe_c GB hr (by decide) (by rfl) (pa_cons (pe_meth0 (pe_make M GI (hr.mono (by decide)) (by rfl) gC bI .nil pass0 (pa_cons (pv 0) (pa_cons pe_bl pa_nil))) T.cl MR.me MR.ok (hr.mono (by decide)) MR.bi .nil (passes_call (takes_of rfl rfl rfl rfl) (fun _ _ _ _ z => z))) pa_nil)))
      (pss_cons (ps_expr (C9.pe_cxE GN hr (by decide) (passes_call (takes_of rfl rfl rfl rfl) (fun _ _ _ _ z => z)) (by rfl) (pa_cons (pv 1) pa_nil)))
      (pss_one (ps_ret (pv 1)))), ?_⟩
    refine ⟨_, rfl, ?_⟩
    intro x dx nx ndx ne
    have nx2 : upd H dx (.own x) x = none := by rw [upd_ne ne.symm]; exact nx
    have sA := Same.trans (same_new (o := .own x) ndx) (same_new (o := .ins C dx []) nx2)
    have nxs : (upd (upd H dx (.own x)) x (.ins C dx [])) x = some (.ins C dx []) := upd_same
    refine ⟨x, dx, _, _, rfl, nxs, fun d w H1 ndw nd nw m1 e1 e2 e3 => ⟨rfl, ?_⟩⟩
    have nd0 := sA.free nd
    have nw0 := sA.free nw
    have s1 : Same H H1 := fun a o h => m1 a o (ne_of_none h nx) (sA _ _ h)
    have G : RdAt C x dx d w L H1 0 init := ⟨e1, ndw, ⟨[], e2, .nil⟩, e3, Nat.le_refl _, Nat.zero_le _, by omega⟩
    have sM : ∀ H2, Mov x d w H1 H2 → Same H H2 := fun H2 mv a o h => mv a o (ne_of_none h nx) (ne_of_none h nd0) (ne_of_none h nw0) (s1 _ _ h)
    refine ⟨x, dx, _, rfl, e1, rfl, x, dx, d, w, L, rfl, G, fw, fun j ej => fun e H' mv n h => qe j ej e H' (sM H' mv) (s1.free n) h, fun F eF ri f1 f2 fm H2 ds mv ed pd => ?_⟩
    have s2 := sM H2 mv
    obtain ⟨q1, q2⟩ := q F eF ri
    obtain ⟨_, E0, ev, okE, cE, lE⟩ := fin_made ri f1 f2
    refine ⟨d, ds, _, E0, rfl, ed, pd, ev, by omega, fun U H3 s3 hU eU => ?_⟩
    have cU : U.count = F.many := by rw [← U.er_count, eU, cE]
    have okU : U.Ok := by rw [← U.er_ok, eU]; exact okE
    have s23 := Same.trans s2 s3
    refine ⟨_, rfl, U, rfl, hU, okU, by omega, fun H4 s4 fl => ?_, fun z fl => ?_⟩
    · obtain ⟨Lt, gd⟩ := fl.good rfl
      have c24 := gd.cnt
      exact ⟨_, rfl, (q2 (by omega)).2 U Lt H4 (s23.trans s4) (hU.keep (Same.tk s4)) gd cU (by rw [eU]; exact ev)⟩
    · rcases Nat.lt_or_ge 24 U.count with c | c
      · rw [Option.some.inj (fl.many c)]
        exact (q1 (by omega)).same s23
      · rcases (q2 (by omega)).1 with ⟨V0, Lt, gd, e0⟩ | ⟨r1, r2⟩
        · have eE : U.er = V0.er := by
            rw [ev] at e0
            rw [eU]
            exact List.head_eq_of_cons_eq (Option.some.inj e0)
          have := fl.back ⟨Lt, good_er eE gd⟩
          cases this
        · rcases fl.other c with e | e | e
          · cases e
          · rw [Option.some.inj e]
            exact r1.same s23
          · rw [Option.some.inj e]
            exact r2.same s23
end
end Nv

set_option maxRecDepth 100000
namespace NvSet
open PySem PySem.Spec PyProof.Rows L2
theorem str_of_list {a b : Str} (h : a.cps.toList = b.cps.toList) : a = b := by
  cases a; cases b
  exact congrArg Str.mk (Array.toList_inj.mp h)
/-- no earlier than -/
def Le (a b : Str) : Prop := ¬ b.cps.toList < a.cps.toList
theorem Le.trans {a b c : Str} (h1 : Le a b) (h2 : Le b c) : Le a c := List.not_lt.mpr (List.le_trans (List.not_lt.mp h1) (List.not_lt.mp h2))
theorem Le.anti {a b : Str} (h1 : Le a b) (h2 : Le b a) : a = b := str_of_list (List.le_antisymm (List.not_lt.mp h1) (List.not_lt.mp h2))
theorem le_of {a b : Str} (h : (!ltCps b.cps.toList a.cps.toList) = true) : Le a b := fun z => by
  rw [ltCps_eq, decide_eq_true z] at h
  cases h
theorem rising_pw : ∀ (l : List Str) (p : Str), risingS p l = true → (p :: l).Pairwise Le
  | [], p, _ => List.pairwise_singleton _ _
  | x :: r, p, h => by
    have h' : (!ltCps x.cps.toList p.cps.toList && risingS x r) = true := h
    rw [Bool.and_eq_true] at h'
    have ih := rising_pw r x h'.2
    have px := le_of h'.1
    refine List.pairwise_cons.mpr ⟨fun y hy => ?_, ih⟩
    rcases List.mem_cons.mp hy with e | e
    · rw [e]; exact px
    · exact px.trans ((List.pairwise_cons.mp ih).1 y e)
theorem sorted_pw : ∀ {l : List Str}, sortedS l = true → l.Pairwise Le
  | [], _ => List.Pairwise.nil
  | x :: r, h => rising_pw r x h
theorem pw_unique : ∀ {l m : List Str}, l.Pairwise Le → m.Pairwise Le → l.Nodup → m.Nodup → (∀ y, y ∈ l ↔ y ∈ m) → l = m
  | [], [], _, _, _, _, _ => rfl
  | [], y :: m, _, _, _, _, h => by cases (h y).2 List.mem_cons_self
  | x :: l, [], _, _, _, _, h => by cases (h x).1 List.mem_cons_self
  | x :: l, y :: m, h1, h2, n1, n2, h => by
    obtain ⟨a1, b1⟩ := List.pairwise_cons.mp h1
    obtain ⟨a2, b2⟩ := List.pairwise_cons.mp h2
    obtain ⟨c1, d1⟩ := List.nodup_cons.mp n1
    obtain ⟨c2, d2⟩ := List.nodup_cons.mp n2
    have e : x = y := by
      rcases List.mem_cons.mp ((h x).1 List.mem_cons_self) with e | e
      · exact e
      · rcases List.mem_cons.mp ((h y).2 List.mem_cons_self) with e' | e'
        · exact e'.symm
        · exact (a1 y e').anti (a2 x e)
    subst e
    refine congrArg (List.cons x) (pw_unique b1 b2 d1 d2 fun z => ⟨fun hz => ?_, fun hz => ?_⟩)
    · rcases List.mem_cons.mp ((h z).1 (List.mem_cons_of_mem _ hz)) with e | e
      · exact absurd (e ▸ hz) c1
      · exact e
    · rcases List.mem_cons.mp ((h z).2 (List.mem_cons_of_mem _ hz)) with e | e
      · exact absurd (e ▸ hz) c2
      · exact e
/-- the texts xs, each once, rising -/
structure Rising (ys xs : List Str) : Prop where
  srt : sortedS ys = true
  nd : ys.Nodup
  mem : ∀ y, y ∈ ys ↔ y ∈ xs
theorem Rising.eq {ys zs xs : List Str} (a : Rising ys xs) (b : Rising zs xs) : ys = zs := pw_unique (sorted_pw a.srt) (sorted_pw b.srt) a.nd b.nd fun y => (a.mem y).trans (b.mem y).symm
/-- a comprehension of texts over a list that stays -/
theorem sc_list {w : World} {K : PySem.W.Frag} {a : Addr} {xs : List V} {g : TG} {tt : TT} {te : TE} {vs : List Nat} {σ : L2.St} {H1 : Hp} {D : Addr} {Qd : Hp → Prop} (Pv : Nat → Hp → Prop) (h0 : Pv 0 (upd H1 D (TxO w D []))) (hl : ∀ i H, i ≤ xs.length → Pv i H → SqL K H a xs)
    (hs : ∀ i x H, xs[i]? = some x → Pv i H → g x (wipe σ vs) H fun τ H2 => wipe τ vs = wipe σ vs ∧ tt τ H2 fun b H3 =>
      if b = true then te τ H3 fun y H4 => ∃ (c : Str) (us : List Str), y = .str c ∧ H4 D = some (TxO w D us) ∧ us.length + 1 < scanBound ∧ Pv (i + 1) (upd H4 D (TxO w D (more c us))) else Pv (i + 1) H3) (hd : ∀ H, Pv xs.length H → Qd H) :
    ∃ W : Nat → Nat → Hp → Prop, (∃ m, W 0 m (upd H1 D (TxO w D []))) ∧ ∀ i m H, W i m H →
      ((Itl K a).stop i H ∧ Qd H) ∨ ((Itl K a).go i H ∧ ∃ Nx : Hp → Prop, (∀ H', Nx H' → ∃ m', m' < m ∧ W (i + 1) m' H') ∧ ∀ x H', (Itl K a).yld i H x H' → g x (wipe σ vs) H' fun τ H2 => wipe τ vs = wipe σ vs ∧ tt τ H2 fun b H3 =>
        if b = true then te τ H3 fun y H4 => ∃ (c : Str) (us : List Str), y = .str c ∧ H4 D = some (TxO w D us) ∧ us.length + 1 < scanBound ∧ Nx (upd H4 D (TxO w D (more c us))) else Nx H3) := by
  refine ⟨fun i m H => m + i = xs.length ∧ Pv i H, ⟨xs.length, rfl, h0⟩, ?_⟩
  rintro i m H ⟨hm, p⟩
  have st := hl i H (by omega) p
  by_cases lt : i < xs.length
  · refine .inr ⟨⟨xs, xs[i], st, List.getElem?_eq_getElem lt⟩, Pv (i + 1), fun H' p' => ⟨m - 1, by omega, by omega, p'⟩, ?_⟩
    rintro x H' ⟨rfl, y⟩
    exact hs i x _ (y xs st) p
  · obtain rfl : i = xs.length := by omega
    exact .inl ⟨⟨xs, st, Nat.le_refl _⟩, hd H p⟩
end NvSet

set_option maxRecDepth 100000
set_option maxHeartbeats 4000000
namespace Nv
open PySem PySem.Spec PyProof.Rows L2 NvSet
/-- well-built reckonings: the letters are among L, four at most -/
structure Fair (T : AT) (L : List Str) : Prop where
  ok : T.Ok
  cnt : T.count ≤ 100
  few : L.length ≤ 4
  lets : ∀ x ∈ T.lets, x ∈ L
def AT.flaw (A : AT) : Option Str := if 24 < A.count then some (Str.ofString "many") else if 4 < A.deep then some (Str.ofString "deep") else none
section
variable {P : Program} {w : World} {K : PySem.W.Frag} {mg : Str → Option Value} {base : Heap} {o2 : Addr}
/-- a new list of the parts -/
def spParts (n : Nat) : Sp := fun vs H Q _ => ∃ T : AT, vs = [T.v] ∧ T.In H ∧ T.count ≤ n ∧ n ≤ 100 ∧ ∀ (p : Addr) (H' : Hp), Same H H' → H p = none → H' p = some (.lst (T.parts.map AT.v)) → Q (.ref p) H'
/-- the parts of the first things -/
def kidParts (T : AT) (i : Nat) : List AT := ((T.kids.take i).map AT.parts).flatten
theorem kidParts_all (T : AT) : T :: kidParts T T.kids.length = T.parts := by rw [kidParts, List.take_length, ← T.parts_eq]
theorem kidParts_succ {T B : AT} {i : Nat} (h : T.kids[i]? = some B) : kidParts T (i + 1) = kidParts T i ++ B.parts := by
  unfold kidParts
  rw [List.take_add_one, h, List.map_append, List.flatten_append]
  simp
theorem kidParts_len (T : AT) (i : Nat) : (kidParts T i).length ≤ T.count := by
  have : kidParts T i <+: kidParts T T.kids.length := by
    unfold kidParts
    rw [List.take_length]
    have : T.kids.take i <+: T.kids := List.take_prefix _ _
    obtain ⟨r, e⟩ := this
    exact ⟨(r.map AT.parts).flatten, by rw [← List.flatten_append, ← List.map_append, e]⟩
  have l := this.length_le
  have e := congrArg List.length (kidParts_all T)
  rw [List.length_cons, T.parts_len] at e
  omega
end
abbrev letOf : AT → Option Str := fun A => match A with | .le _ x => some x | _ => none
section
variable {P : Program} {w : World} {K : PySem.W.Frag} {mg : Str → Option Value} {base : Heap} {o2 : Addr}
/-- a new list of the letters, each once, rising -/
def spLets (n : Nat) : Sp := fun vs H Q _ => ∃ T : AT, vs = [T.v] ∧ T.In H ∧ T.count ≤ n ∧ n ≤ 60 ∧ ∀ (p : Addr) (ys : List Str) (H' : Hp), Same H H' → H p = none → Rising ys T.lets → H' p = some (.lst (ys.map V.str)) → Q (.ref p) H'
theorem more_len (x : Str) (xs : List Str) : (more x xs).length ≤ xs.length + 1 := by
  unfold more
  split
  · omega
  · exact Nat.le_refl _
end
end Nv

set_option maxRecDepth 100000
set_option maxHeartbeats 4000000
namespace Nv
open PySem PySem.Spec PyProof.Rows L2 NvSet
abbrev sInner : Stmt := topS 75
abbrev sLCount : Stmt := topS 76
abbrev sAllP : Stmt := topS 78
abbrev sLLets : Stmt := topS 79
theorem scInner : FnScope ["_law_term"] ["_law_term"] (defScope sInner) := ⟨rfl, rfl, rfl, by decide +kernel, rfl, by decide +kernel, by decide +kernel⟩
theorem scLCount : FnScope ["_law_term", "_law_part_now"] ["_law_term"] (defScope sLCount) := ⟨rfl, rfl, rfl, by decide +kernel, rfl, by decide +kernel, by decide +kernel⟩
theorem scAllP : FnScope ["_law_term", "_law_found", "_law_part_now"] ["_law_term"] (defScope sAllP) := ⟨rfl, rfl, rfl, by decide +kernel, rfl, by decide +kernel, by decide +kernel⟩
theorem scLLets : FnScope ["_law_term", "_law_one"] ["_law_term"] (defScope sLLets) := ⟨rfl, rfl, rfl, by decide +kernel, rfl, by decide +kernel, by decide +kernel⟩
def four : List V := [.str "plus", .str "less", .str "times", .str "undo"]
section
variable {P : Program} {w : World} {K : PySem.W.Frag} {mg : Str → Option Value} {base : Heap}
theorem ok_inner {f : Addr} {fd : FuncData} {k : Nat} (F : Fun K "_law_inner" "_law_inner" sInner f fd) : FnOk P w K mg base CX0 (k + 1) f fd ["_law_term"] (spThings K) := by
  refine F.ok scInner (fun vs H Q E h => ?_) (fun cdv A outer s H vs Q E hr h => ?_)
  · obtain ⟨T, rfl, _⟩ := h
    rfl
  · obtain ⟨Z, rfl, hin, q⟩ := h
    refine ⟨_, pss_one (ps_ret (pe_ifExp (pt_cmpR op_in_seq (pe_ix ix_tup (pv 0) pe_int (fun _ _ => rfl)) (pe_tup (pa_cons pe_str (pa_cons pe_str (pa_cons pe_str (pa_cons pe_str pa_nil))))) (by rfl)) (pe_slice sl_tup (pv 0) (po_some pe_int) po_none) (pe_tup pa_nil))), ?_⟩
    have hp := hin.tup
    cases Z with
    | sh p qq t b =>
      refine ⟨_, rfl, p, _, 0, _, rfl, rfl, SqT.of hp, atI_nat (j := 0) rfl, (by show 4 ≤ sizeLine; decide), fun e ne => ?_⟩
      have sm := same_new (o := .tup four) ne
      refine ⟨e, _, rfl, .inr (SqT.of upd_same), rfl, rfl, _, rfl, iteF ?_⟩
      exact ⟨Nat.zero_le _, fun e2 ne2 => q e2 _ (Same.trans sm (same_new ne2)) (SqT.of upd_same)⟩
    | le p x =>
      refine ⟨_, rfl, p, _, 0, _, rfl, rfl, SqT.of hp, atI_nat (j := 0) rfl, (by show 4 ≤ sizeLine; decide), fun e ne => ?_⟩
      have sm := same_new (o := .tup four) ne
      refine ⟨e, _, rfl, .inr (SqT.of upd_same), rfl, rfl, _, rfl, iteF ?_⟩
      exact ⟨Nat.zero_le _, fun e2 ne2 => q e2 _ (Same.trans sm (same_new ne2)) (SqT.of upd_same)⟩
    | two p o A B =>
      refine ⟨_, rfl, p, _, 0, _, rfl, rfl, SqT.of hp, atI_nat (j := 0) rfl, (by show 4 ≤ sizeLine; decide), fun e ne => ?_⟩
      have sm := same_new (o := .tup four) ne
      refine ⟨e, _, rfl, .inr (SqT.of upd_same), rfl, rfl, _, rfl, ?_⟩
      rw [show inV (V.str (AT.two p o A B).word) [V.str (Str.ofString "plus"), V.str (Str.ofString "less"), V.str (Str.ofString "times"), V.str (Str.ofString "undo")] = true by cases o <;> rfl]
      refine iteT ?_
      refine ⟨_, rfl, 1, rfl, p, _, rfl, SqT.of (sm _ _ hp), (fun z => by cases z.1), fun e2 ne2 => q e2 _ (Same.trans sm (same_new ne2)) (SqT.of ?_)⟩
      rw [upd_same]
      rfl
    | un p A =>
      refine ⟨_, rfl, p, _, 0, _, rfl, rfl, SqT.of hp, atI_nat (j := 0) rfl, (by show 4 ≤ sizeLine; decide), fun e ne => ?_⟩
      have sm := same_new (o := .tup four) ne
      refine ⟨e, _, rfl, .inr (SqT.of upd_same), rfl, rfl, _, rfl, iteT ?_⟩
      refine ⟨_, rfl, 1, rfl, p, _, rfl, SqT.of (sm _ _ hp), (fun z => by cases z.1), fun e2 ne2 => q e2 _ (Same.trans sm (same_new ne2)) (SqT.of ?_)⟩
      rw [upd_same]
      rfl
/-- how many parts -/
def spLCount (n : Nat) : Sp := fun vs H Q _ => ∃ T : AT, vs = [T.v] ∧ T.In H ∧ T.count ≤ n ∧ n ≤ 100 ∧ ∀ H', Same H H' → Q (.int (T.count : Int)) H'
theorem ok_lcount {f : Addr} {fd : FuncData} (F : Fun K "_law_count" "_law_count" sLCount f fd) (gf : mg "_law_count" = some (.ref f)) (bf : Binds K fd ["_law_term"] []) (sum : mg "sum" = none) (GT : C8.Cal P w K mg base 1 "_law_inner" (spThings K) []) :
    ∀ n : Nat, FnOk P w K mg base CX0 (n + 2) f fd ["_law_term"] (spLCount n) := by
  intro n
  induction n with
  | zero => exact ⟨fun vs H Q E h => by obtain ⟨T, rfl, _⟩ := h; rfl, fun A outer s H args us vs Q E _ _ _ _ h => by
      obtain ⟨T, _, _, c, _⟩ := h
      have := T.count_pos
      omega⟩
  | succ n ih =>
    refine F.ok scLCount (fun vs H Q E h => ?_) (fun cdv A outer s H vs Q E hr h => ?_)
    · obtain ⟨T, rfl, _⟩ := h
      rfl
    · obtain ⟨Z, rfl, hin, hc, hn, q⟩ := h
      refine ⟨_, pss_one (ps_ret (pe_op op_add pe_int (pe_callB (cr_sum rfl) (by rfl) sum (by decide +kernel) (pa_cons (pe_lc (own := [("_law_part_now", 1)]) (g := gName 1) (tt := tYes) rfl scLCount.nd (pi_tup (C8.pe_c GT hr (by omega) (by rfl) (pa_cons (pv 0) pa_nil))) (blkOk_by (N := ["_law_term", "_law_part_now"]) (sc := defScope sLCount) (by decide +kernel))
        (fun _ _ _ _ _ => pg_name (i := 1) scLCount.nd rfl (Or.inl rfl)) (fun _ _ _ _ _ => pts_nil) (fun _ _ _ _ _ => pe_call ih hr (by rfl) gf F.kp bf .nil pass0 (pa_cons (pv 1) pa_nil))) pa_nil)))), ?_⟩
      refine ⟨_, rfl, Z, rfl, hin, fun p H1 s1 hp => ⟨p, rfl, ⟨_, hp⟩, fun D nD => ?_⟩⟩
      refine lc_tup (K := K) (a := p) (xs := Z.kids.map AT.v) (fun i H' => Same H1 H' ∧ H' D = some (.lst (((Z.kids.take i).map fun B => (B.count : Int)).map V.int))) ⟨same_new nD, upd_same⟩ (fun i H' _ h => seqT h.1 hp) (fun i x H' hx h => ?_) (fun H' h => ?_)
      · obtain ⟨sm, eD⟩ := h
        rw [List.getElem?_map] at hx
        obtain ⟨B, hB, rfl⟩ := Option.map_eq_some_iff.mp hx
        have mB : B ∈ Z.kids := List.mem_of_getElem? hB
        have cB := Z.kid_count mB
        refine ⟨rfl, yes_if ?_⟩
        refine ⟨_, rfl, B, rfl, (hin.kid B mB).keep (Same.tk (Same.trans s1 sm)), by omega, by omega, fun H2 s2 => ?_⟩
        refine ⟨_, s2 _ _ eD, ?_, same_upd (Same.trans sm s2) nD, ?_⟩
        · rw [List.length_map, List.length_map, List.length_take]
          have := Z.kids_len
          exact small1000 (by omega)
        · rw [upd_same, List.take_add_one, hB, List.map_append, List.map_append]
          rfl
      · obtain ⟨sm, eD⟩ := h
        rw [List.length_map, List.take_length] at eD
        refine ⟨D, _, rfl, SqL.of eD, 1, _, rfl, rfl, ?_⟩
        have e : (1 : Int) + (Z.kids.map fun B => (B.count : Int)).sum = (Z.count : Int) := by
          rw [Z.count_eq]
          have : ∀ l : List AT, (l.map fun B => (B.count : Int)).sum = (((l.map AT.count).sum : Nat) : Int) := fun l => by
            induction l with
            | nil => rfl
            | cons x r ih => simp only [List.map_cons, List.sum_cons, ih]; omega
          rw [this]
          omega
        show Q (.int (1 + (Z.kids.map fun B => (B.count : Int)).sum)) H'
        rw [e]
        exact q _ (Same.trans s1 sm)
theorem ok_allP {f : Addr} {fd : FuncData} (F : Fun K "_law_all_parts" "_law_all_parts" sAllP f fd) (gf : mg "_law_all_parts" = some (.ref f)) (bf : Binds K fd ["_law_term"] []) (GT : C8.Cal P w K mg base 1 "_law_inner" (spThings K) []) :
    ∀ n : Nat, FnOk P w K mg base CX0 (n + 2) f fd ["_law_term"] (spParts n) := by
  intro n
  induction n with
  | zero => exact ⟨fun vs H Q E h => by obtain ⟨T, rfl, _⟩ := h; rfl, fun A outer s H args us vs Q E _ _ _ _ h => by
      obtain ⟨T, _, _, c, _⟩ := h
      have := T.count_pos
      omega⟩
  | succ n ih =>
    refine F.ok scAllP (fun vs H Q E h => ?_) (fun cdv A outer s H vs Q E hr h => ?_)
    · obtain ⟨T, rfl, _⟩ := h
      rfl
    · obtain ⟨Z, rfl, hin, hc, hn, q⟩ := h
      refine ⟨_, pss_cons (ps_set (i := 1) scAllP.nd rfl (.inl rfl) (pe_lst (pa_cons (pv 0) pa_nil)))
        (pss_cons (ps_for PassesOwn.never rfl (pi_tup (C8.pe_c GT hr (by omega) (by rfl) (pa_cons (pv 0) pa_nil))) (pg_name (i := 2) scAllP.nd rfl (.inl rfl))
          (pss_one (ps_set (i := 1) scAllP.nd rfl (.inl rfl) (pe_op op_cat (pv 1) (pe_call ih hr (by rfl) gf F.kp bf .nil pass0 (pa_cons (pv 2) pa_nil))))))
        (pss_one (ps_ret (pv 1)))), ?_⟩
      refine ⟨_, rfl, (by show 1 ≤ sizeLine; decide), fun D nD => ?_⟩
      have s1 := same_new (o := .lst [Z.v]) nD
      refine ⟨_, rfl, Z, rfl, hin.keep (Same.tk s1), fun p H2 s2 hp => ?_⟩
      refine ⟨p, rfl, ⟨_, hp⟩, for_tup (K := K) (a := p) (xs := Z.kids.map AT.v) (fun i σ' H' => ∃ y2 D, σ' = [some Z.v, some (.ref D), y2] ∧ H D = none ∧ Same H H' ∧ H' D = some (.lst ((Z :: kidParts Z i).map AT.v)) ∧ SqT K H' p (Z.kids.map AT.v)) ?_ ?_ ?_ ?_⟩
      · exact ⟨none, D, rfl, nD, Same.trans s1 s2, s2 _ _ upd_same, hp⟩
      · rintro i σ' H' _ ⟨_, _, _, _, _, _, h⟩
        exact h
      · rintro i x σ' H' hx ⟨y2, D, rfl, nD, sm, eD, hp'⟩
        rw [List.getElem?_map] at hx
        obtain ⟨B, hB, rfl⟩ := Option.map_eq_some_iff.mp hx
        have mB : B ∈ Z.kids := List.mem_of_getElem? hB
        have cB := Z.kid_count mB
        refine ⟨_, rfl, _, rfl, B, rfl, (hin.kid B mB).keep (Same.tk sm), by omega, by omega, fun r H3 s3 nr er => ?_⟩
        have eD3 := s3 _ _ eD
        have l1 := kidParts_len Z i
        refine ⟨D, r, _, _, rfl, rfl, eD3, er, ?_, fun D2 nD2 => ?_⟩
        · rw [List.length_map, List.length_map, List.length_cons, B.parts_len, sizeLine_eq]
          omega
        · have s4 := Same.trans sm s3
          have s5 := same_new (o := .lst ((Z :: kidParts Z i).map AT.v ++ B.parts.map AT.v)) nD2
          refine ⟨_, D2, rfl, s4.free nD2, Same.trans s4 s5, ?_, seqT s5 (seqT s3 hp')⟩
          rw [upd_same, kidParts_succ hB, ← List.map_append]
          rfl
      · rintro σ' H' ⟨y2, D, rfl, nD, sm, eD, hp'⟩
        rw [List.length_map, kidParts_all] at eD
        exact ⟨_, rfl, q D _ sm nD eD⟩
end
end Nv

set_option maxRecDepth 100000
set_option maxHeartbeats 4000000
namespace Nv
open PySem PySem.Spec PyProof.Rows L2 NvSet
section
variable {P : Program} {w : World} {K : PySem.W.Frag} {mg : Str → Option Value} {base : Heap}
theorem ok_llets {f : Addr} {fd : FuncData} {n : Nat} (F : Fun K "_law_letters" "_law_letters" sLLets f fd) (srt : mg "sorted" = none) (st : mg "set" = none) (GP : C8.Cal P w K mg base (n + 2) "_law_all_parts" (spParts n) []) :
    FnOk P w K mg base CX0 (n + 3) f fd ["_law_term"] (spLets n) := by
  refine F.ok scLLets (fun vs H Q E h => ?_) (fun cdv A outer s H vs Q E hr h => ?_)
  · obtain ⟨T, rfl, _⟩ := h
    rfl
  · obtain ⟨Z, rfl, hin, hc, hn, q⟩ := h
    refine ⟨_, pss_one (ps_ret (pe_callB (cr_sortedTx rfl) (by rfl) srt (by decide +kernel) (pa_cons (pe_callTy (cr_setTx rfl) (by rfl) st (by decide +kernel) (pa_cons (pe_lc (own := [("_law_one", 1)]) (g := gName 1) rfl scLLets.nd (pi_list (C8.pe_c GP hr (by omega) (by rfl) (pa_cons (pv 0) pa_nil))) (blkOk_by (N := ["_law_term", "_law_one"]) (sc := defScope sLLets) (by decide +kernel))
      (fun _ _ _ _ _ => pg_name (i := 1) scLLets.nd rfl (Or.inl rfl)) (fun _ _ _ _ _ => pts_one (pt_cmpR op_eq (pe_ix (r := rIxT K) ix_tup (pv 1) pe_int (fun _ _ => rfl)) pe_str (nomark _))) (fun _ _ _ _ _ => pe_ix (r := rIxT K) ix_tup (pv 1) pe_int (fun _ _ => rfl))) pa_nil)) pa_nil))), ?_⟩
    refine ⟨_, rfl, Z, rfl, hin, hc, by omega, fun p H1 s1 np ep => ?_⟩
    refine ⟨p, rfl, ⟨_, SqL.of ep⟩, fun D nD => ?_⟩
    refine lc_list (K := K) (a := p) (xs := Z.parts.map AT.v) (fun i H' => Same H1 H' ∧ H' D = some (.lst (((Z.parts.take i).filterMap letOf).map V.str))) ⟨same_new nD, upd_same⟩ (fun i H' _ h => SqL.of (h.1 _ _ ep)) (fun i x H' hx h => ?_) (fun H' h => ?_)
    · obtain ⟨sm, eD⟩ := h
      have hi : i < Z.parts.length := by
        have := (List.getElem?_eq_some_iff.mp hx).1
        rwa [List.length_map] at this
      rw [Z.parts_len] at hi
      rw [List.getElem?_map] at hx
      obtain ⟨B, hB, rfl⟩ := Option.map_eq_some_iff.mp hx
      have inB : B.In H' := (hin.parts B (List.mem_of_getElem? hB)).keep (Same.tk (Same.trans s1 sm))
      have eB := inB.tup
      refine ⟨rfl, ?_⟩
      refine ⟨_, rfl, B.at_, _, 0, _, rfl, rfl, SqT.of eB, atI_nat (j := 0) rfl, rfl, _, rfl, ?_⟩
      rcases word_letter B with ⟨b, x, rfl⟩ | ne
      · refine ifP rfl ?_
        refine ⟨_, rfl, b, _, 1, _, rfl, rfl, SqT.of eB, atI_nat (j := 1) rfl, _, eD, ?_, same_upd sm nD, ?_⟩
        · rw [List.length_map]
          have l1 := List.length_filterMap_le letOf (Z.parts.take i)
          rw [List.length_take] at l1
          exact small1000 (by omega)
        · rw [upd_same, List.take_add_one, hB, List.filterMap_append, List.map_append]
          rfl
      · refine ifN ne ?_
        refine ⟨sm, ?_⟩
        have e0 : letOf B = none := by
          cases B with
          | le _ _ => exact absurd rfl ne
          | sh _ _ _ _ => rfl
          | two _ _ _ _ => rfl
          | un _ _ => rfl
        rw [eD, List.take_add_one, hB, List.filterMap_append]
        show _ = some (HO.lst ((_ ++ List.filterMap letOf [B]).map V.str))
        rw [List.filterMap_cons_none e0]
        simp
    · obtain ⟨sm, eD⟩ := h
      rw [List.length_map, List.take_length] at eD
      have el : Z.parts.filterMap letOf = Z.lets := by rw [Z.lets_parts]; try rfl
      rw [el] at eD
      have ll : Z.lets.length ≤ Z.count := by
        rw [← el, ← Z.parts_len]
        exact List.length_filterMap_le _ _
      refine ⟨D, Z.lets, rfl, SqL.of eD, by omega, fun a us na nd hu => ?_⟩
      have s2 := Same.trans (Same.trans s1 sm) (same_new (o := TxO w a us) na)
      have lu : us.length ≤ Z.lets.length := nodup_le nd fun x hx => (hu x).1 hx
      exact ⟨a, us, rfl, upd_same, by omega, fun ys r pm nd so nr => q r ys _ (Same.trans s2 (same_new nr)) (s2.free nr) ⟨so, pm.nodup_iff.mpr nd, fun y => by rw [pm.mem_iff, hu y]⟩ upd_same⟩
end
end Nv

set_option maxRecDepth 100000
set_option maxHeartbeats 4000000
namespace Nv
open PySem PySem.Spec PyProof.Rows L2 NvSet
abbrev sLDepth : Stmt := topS 77
abbrev sFault : Stmt := topS 80
theorem scLDepth : FnScope ["_law_term", "_law_part_now"] ["_law_term"] (defScope sLDepth) := ⟨rfl, rfl, rfl, by decide +kernel, rfl, by decide +kernel, by decide +kernel⟩
theorem scFault : FnScope ["_law_term"] ["_law_term"] (defScope sFault) := ⟨rfl, rfl, rfl, by decide +kernel, rfl, by decide +kernel, by decide +kernel⟩
theorem deep_max : ∀ (T : AT) (m : Int), m ∈ ((0 : Int) :: T.kids.map fun B => (B.deep : Int)) → (∀ y, y ∈ ((0 : Int) :: T.kids.map fun B => (B.deep : Int)) → y ≤ m) → m + (T.step : Int) = (T.deep : Int)
  | .sh _ _ _ _, m, h, _ => by
    rw [List.mem_singleton.mp h]
    rfl
  | .le _ _, m, h, _ => by
    rw [List.mem_singleton.mp h]
    rfl
  | .two _ _ A B, m, h, u => by
    have h1 := u 0 List.mem_cons_self
    have h2 := u (A.deep : Int) (List.mem_cons_of_mem _ List.mem_cons_self)
    have h3 := u (B.deep : Int) (List.mem_cons_of_mem _ (List.mem_cons_of_mem _ List.mem_cons_self))
    show m + ((0 : Nat) : Int) = ((max A.deep B.deep : Nat) : Int)
    rcases List.mem_cons.mp h with e | h
    · omega
    · rcases List.mem_cons.mp h with e | h
      · have e : m = (A.deep : Int) := e
        omega
      · have e : m = (B.deep : Int) := List.mem_singleton.mp h
        omega
  | .un _ A, m, h, u => by
    have h1 := u 0 List.mem_cons_self
    have h2 := u (A.deep : Int) (List.mem_cons_of_mem _ List.mem_cons_self)
    show m + ((1 : Nat) : Int) = ((A.deep + 1 : Nat) : Int)
    rcases List.mem_cons.mp h with e | h
    · omega
    · have e : m = (A.deep : Int) := List.mem_singleton.mp h
      omega
section
variable {P : Program} {w : World} {K : PySem.W.Frag} {mg : Str → Option Value} {base : Heap}
/-- how deep -/
def spLDepth (n : Nat) : Sp := fun vs H Q _ => ∃ T : AT, vs = [T.v] ∧ T.In H ∧ T.count ≤ n ∧ n ≤ 100 ∧ ∀ H', Same H H' → Q (.int (T.deep : Int)) H'
theorem ok_ldepth {f : Addr} {fd : FuncData} (F : Fun K "_law_depth" "_law_depth" sLDepth f fd) (gf : mg "_law_depth" = some (.ref f)) (bf : Binds K fd ["_law_term"] []) (mx : mg "max" = none) (int : mg "int" = none) (GT : C8.Cal P w K mg base 1 "_law_inner" (spThings K) []) :
    ∀ n : Nat, FnOk P w K mg base CX0 (n + 2) f fd ["_law_term"] (spLDepth n) := by
  intro n
  induction n with
  | zero => exact ⟨fun vs H Q E h => by obtain ⟨T, rfl, _⟩ := h; rfl, fun A outer s H args us vs Q E _ _ _ _ h => by
      obtain ⟨T, _, _, c, _⟩ := h
      have := T.count_pos
      omega⟩
  | succ n ih =>
    refine F.ok scLDepth (fun vs H Q E h => ?_) (fun cdv A outer s H vs Q E hr h => ?_)
    · obtain ⟨T, rfl, _⟩ := h
      rfl
    · obtain ⟨Z, rfl, hin, hc, hn, q⟩ := h
      refine ⟨_, pss_one (ps_ret (pe_op op_add (pe_callB (cr_max rfl) (by rfl) mx (by decide +kernel) (pa_cons (pe_op op_cat (pe_lst (pa_cons pe_int pa_nil)) (pe_lc (own := [("_law_part_now", 1)]) (g := gName 1) (tt := tYes) rfl scLDepth.nd (pi_tup (C8.pe_c GT hr (by omega) (by rfl) (pa_cons (pv 0) pa_nil))) (blkOk_by (N := ["_law_term", "_law_part_now"]) (sc := defScope sLDepth) (by decide +kernel))
        (fun _ _ _ _ _ => pg_name (i := 1) scLDepth.nd rfl (Or.inl rfl)) (fun _ _ _ _ _ => pts_nil) (fun _ _ _ _ _ => pe_call ih hr (by rfl) gf F.kp bf .nil pass0 (pa_cons (pv 1) pa_nil)))) pa_nil))
        (pe_callTy call_int1 (by rfl) int (by decide +kernel) (pa_cons (pe_cmpR op_eq (pe_ix ix_tup (pv 0) pe_int (fun _ _ => rfl)) pe_str (nomark _)) pa_nil)))), ?_⟩
      refine ⟨(by show 1 ≤ sizeLine; decide), fun O nO => ?_⟩
      have s0 := same_new (o := .lst [.int 0]) nO
      have eO : upd H O (.lst [.int 0]) O = some (.lst [.int 0]) := upd_same
      generalize upd H O (.lst [.int 0]) = H0 at *
      refine ⟨_, rfl, Z, rfl, hin.keep (Same.tk s0), fun p H1 s1 hp => ⟨p, rfl, ⟨_, hp⟩, fun D nD => ?_⟩⟩
      refine lc_tup (K := K) (a := p) (xs := Z.kids.map AT.v) (fun i H' => Same H1 H' ∧ H' D = some (.lst (((Z.kids.take i).map fun B => (B.deep : Int)).map V.int))) ⟨same_new nD, upd_same⟩ (fun i H' _ h => seqT h.1 hp) (fun i x H' hx h => ?_) (fun H' h => ?_)
      · obtain ⟨sm, eD⟩ := h
        rw [List.getElem?_map] at hx
        obtain ⟨B, hB, rfl⟩ := Option.map_eq_some_iff.mp hx
        have mB : B ∈ Z.kids := List.mem_of_getElem? hB
        have cB := Z.kid_count mB
        refine ⟨rfl, yes_if ?_⟩
        refine ⟨_, rfl, B, rfl, (hin.kid B mB).keep (Same.tk (Same.trans s0 (Same.trans s1 sm))), by omega, by omega, fun H2 s2 => ?_⟩
        refine ⟨_, s2 _ _ eD, ?_, same_upd (Same.trans sm s2) nD, ?_⟩
        · rw [List.length_map, List.length_map, List.length_take]
          have := Z.kids_len
          exact small1000 (by omega)
        · rw [upd_same, List.take_add_one, hB, List.map_append, List.map_append]
          rfl
      · obtain ⟨sm, eD⟩ := h
        rw [List.length_map, List.take_length] at eD
        have s01 := Same.trans s0 (Same.trans s1 sm)
        refine ⟨O, D, _, _, rfl, rfl, sm _ _ (s1 _ _ eO), eD, ?_, fun D2 nD2 => ?_⟩
        · rw [List.length_map, List.length_map, sizeLine_eq]
          have := Z.kids_len
          show 1 + _ ≤ _
          omega
        have s3 := same_new (o := .lst ([V.int 0] ++ (Z.kids.map fun B => (B.deep : Int)).map V.int)) nD2
        have e3 : upd H' D2 (.lst ([V.int 0] ++ (Z.kids.map fun B => (B.deep : Int)).map V.int)) D2 = some (.lst (((0 : Int) :: Z.kids.map fun B => (B.deep : Int)).map V.int)) := upd_same
        generalize upd H' D2 (.lst ([V.int 0] ++ (Z.kids.map fun B => (B.deep : Int)).map V.int)) = H3 at *
        have s03 := Same.trans s01 s3
        refine ⟨D2, _, rfl, SqL.of e3, Nat.zero_lt_succ _, fun m hm hu => ?_⟩
        have dm := deep_max Z m hm hu
        have eZ := (hin.keep (Same.tk s03)).tup
        refine ⟨_, rfl, Z.at_, _, 0, _, rfl, rfl, SqT.of eZ, atI_nat (j := 0) rfl, rfl, .inr ⟨_, rfl, ?_⟩⟩
        by_cases e : Z.step = 1
        · rw [decide_eq_true ((word_undo Z).2 e)]
          refine ⟨_, _, rfl, rfl, ?_⟩
          show Q (.int (m + 1)) H3
          rw [show m + 1 = (Z.deep : Int) by omega]
          exact q _ s03
        · have e0 : Z.step = 0 := (Z.step_le).resolve_right e
          rw [decide_eq_false (fun z => e ((word_undo Z).1 z))]
          refine ⟨_, _, rfl, rfl, ?_⟩
          show Q (.int (m + 0)) H3
          rw [show m + 0 = (Z.deep : Int) by omega]
          exact q _ s03
/-- the law's own look for a flaw -/
def spFault (n : Nat) : Sp := fun vs H Q _ => ∃ (T : AT) (L : List Str), vs = [T.v] ∧ T.In H ∧ Fair T L ∧ T.count ≤ n ∧ ∀ H', Same H H' → Q (flawV T.flaw) H'
theorem ok_fault {f : Addr} {fd : FuncData} {n : Nat} (hn : n ≤ 60) (F : Fun K "_law_fault" "_law_fault" sFault f fd) (len : mg "len" = none) (GC : C8.Cal P w K mg base (n + 2) "_law_count" (spLCount n) []) (GL : C8.Cal P w K mg base (n + 3) "_law_letters" (spLets n) []) (GD : C8.Cal P w K mg base (n + 2) "_law_depth" (spLDepth n) []) :
    FnOk P w K mg base CX0 (n + 4) f fd ["_law_term"] (spFault n) := by
  refine F.ok scFault (fun vs H Q E h => ?_) (fun cdv A outer s H vs Q E hr h => ?_)
  · obtain ⟨T, L, rfl, _⟩ := h
    rfl
  · obtain ⟨Z, L, rfl, hin, fr, hc, q⟩ := h
    refine ⟨_, pss_cons (ps_if (pt_cmpR op_gt (C8.pe_c GC hr (by omega) (by rfl) (pa_cons (pv 0) pa_nil)) pe_int (nomark _)) (pss_one (ps_ret pe_str)) pss_nil)
      (pss_cons (ps_if (pt_cmpR op_gt (pe_callB call_len_seq (by rfl) len PySem.boot_len (pa_cons (C8.pe_c GL hr (by omega) (by rfl) (pa_cons (pv 0) pa_nil)) pa_nil)) pe_int (nomark _)) (pss_one (ps_ret pe_str)) pss_nil)
      (pss_one (ps_ret (pe_ifExp (pt_cmpR op_gt (C8.pe_c GD hr (by omega) (by rfl) (pa_cons (pv 0) pa_nil)) pe_int (nomark _)) pe_str pe_non)))), ?_⟩
    refine ⟨_, rfl, Z, rfl, hin, hc, by omega, fun H1 s1 => ?_⟩
    refine ⟨_, _, rfl, rfl, _, rfl, ?_⟩
    by_cases c1 : 24 < Z.count
    · have hq := q _ s1
      unfold AT.flaw at hq
      rw [if_pos c1] at hq
      exact ifP (by omega) hq
    refine ifN (by omega) ?_
    refine ⟨_, rfl, Z, rfl, hin.keep (Same.tk s1), hc, by omega, fun p ys H2 s2 np ri ep => ?_⟩
    have ly : ys.length ≤ 4 := by
      have := nodup_le ri.nd (fun y hy => fr.lets y ((ri.mem y).1 hy))
      have := fr.few
      omega
    refine ⟨p, _, rfl, .inl (SqL.of ep), _, _, rfl, rfl, _, rfl, ifN (by rw [List.length_map]; omega) ?_⟩
    have s12 := Same.trans s1 s2
    refine ⟨_, rfl, Z, rfl, hin.keep (Same.tk s12), hc, by omega, fun H3 s3 => ?_⟩
    have hq := q _ (Same.trans s12 s3)
    unfold AT.flaw at hq
    rw [if_neg c1] at hq
    refine ⟨_, _, rfl, rfl, _, rfl, ?_⟩
    by_cases c2 : 4 < Z.deep
    · rw [if_pos c2] at hq
      exact ifP (by omega) hq
    · rw [if_neg c2] at hq
      exact ifN (by omega) hq
end
end Nv

set_option maxRecDepth 100000
set_option maxHeartbeats 4000000
namespace Nv
open PySem PySem.Spec PyProof.Rows L2 LamX
abbrev sNumIn : Stmt := topS 86
abbrev sShIn : Stmt := topS 87
theorem scNumIn : FnScope ["_law_text", "_law_sign"] ["_law_text"] (defScope sNumIn) := ⟨rfl, rfl, rfl, by decide +kernel, rfl, by decide +kernel, by decide +kernel⟩
/-- a number, or None -/
def optV : Option Nat → V
  | some a => .int (a : Nat)
  | none => .non
theorem all_dig (L : List Nat) : (L.map isDig).all id = L.all isDig := by
  rw [List.all_map]
  rfl
def spNumIn : Sp := fun vs H Q E => ∃ L : List Nat, vs = [.str (SX.S L)] ∧ L.length ≤ 1000 ∧ ∀ H', Same H H' → Q (optV (numIn L)) H'
theorem str_nought : Str.ofString "0" = SX.S [48] := by decide +kernel
section
variable {P : Program} {w : World} {K : PySem.W.Frag} {mg : Str → Option Value} {base : Heap}
theorem ok_numIn {f : Addr} {fd : FuncData} {k : Nat} (F : Fun K "_law_number_in" "_law_number_in" sNumIn f fd) (T : Blt mg) : FnOk P w K mg base CX0 (k + 1) f fd ["_law_text"] spNumIn := by
  refine F.ok scNumIn (fun vs H Q E h => ?_) (fun cdv A outer s H vs Q E hr h => ?_)
  · obtain ⟨L, rfl, _⟩ := h
    rfl
  · obtain ⟨L, rfl, hl0, q⟩ := h
    have hl : (SX.S L).length ≤ sizeLine := by rw [SX.S_len, sizeLine_eq]; omega
    have no : numIn L = none → ∀ H', Same H H' → Q .non H' := fun z H' s' => by
      have := q H' s'
      rw [z] at this
      exact this
    have yes : ∀ a, numIn L = some a → ∀ H', Same H H' → Q (.int (a : Nat)) H' := fun a z H' s' => by
      have := q H' s'
      rw [z] at this
      exact this
    refine ⟨_, pss_cons (ps_if (PW.pt (pw_or (pt_not (pt_chain op_le op_le pe_int (pe_callB call_len_str (by rfl) T.len PySem.boot_len (pa_cons (pv 0) pa_nil)) pe_int))
          (pw_or1 (pt_not (pt_val (pe_callB (cr_all rfl) (by rfl) T.all (by decide +kernel) (pa_cons (pe_lc (own := [("_law_sign", 1)]) (g := gName 1) (tt := tYes) rfl scNumIn.nd (pi_str (pv 0))
              (blkOk_by (N := ["_law_text", "_law_sign"]) (sc := defScope sNumIn) (by decide +kernel)) (fun _ _ _ _ _ => pg_name (i := 1) scNumIn.nd rfl (Or.inl rfl)) (fun _ _ _ _ _ => pts_nil)
              (fun _ _ _ _ _ => pe_cmpR op_in_sign (pv 1) pe_str (by rfl))) pa_nil)))))))
        (pss_one (ps_ret pe_non)) pss_nil)
      (pss_one (ps_ret (pe_ifExp (PW.pt (pw_or (pt_cmpR op_eq (pv 0) pe_str (nomark _)) (pw_or1 (pt_cmpR op_ne (pe_ix ix_str (pv 0) pe_int (fun _ _ => rfl)) pe_str (nomark _)))))
        (pe_callTy call_int_str (by rfl) T.int (by decide +kernel) (pa_cons (pv 0) pa_nil)) pe_non))), ?_⟩
    refine ⟨_, rfl, _, rfl, hl, 1, _, rfl, rfl, _, rfl, ?_⟩
    rw [SX.S_len]
    have nn : ¬ (L ≠ [] ∧ L.length ≤ 12 ∧ L.all isDig = true ∧ Canon L = true) → numIn L = none := fun z => by
      unfold numIn
      exact if_neg z
    refine ite2 (fun c1 => ?_) (fun c1 => ?_)
    · have g1 : (1 : Int) ≤ (L.length : Int) := of_decide_eq_true c1
      have e : L ≠ [] := fun z => by
        rw [z] at g1
        exact absurd g1 (by decide)
      refine ⟨_, 12, rfl, rfl, _, rfl, ite2 (fun c2 => ?_) (fun c2 => ?_)⟩
      · have g2 : ¬ (L.length : Int) ≤ 12 := fun z => by
          rw [decide_eq_true z] at c2
          cases c2
        exact iteT (no (nn fun y => by omega) H (Same.refl H))
      · have g2 : (L.length : Int) ≤ 12 := Classical.byContradiction fun z => c2 (by
          rw [decide_eq_false z]
          rfl)
        have l12 : L.length ≤ 12 := by omega
        refine ⟨_, rfl, _, rfl, fun D hD => ?_⟩
        refine lc_it (walk_str (z := SX.S L)) (fun i H' => Same H H' ∧ H' D = some (.lst (((L.take i).map isDig).map V.bl))) ⟨same_new hD, upd_same⟩ (fun _ _ _ _ => trivial) (fun i x H1 H2 hi hP hY => ?_) (fun H' hP => ?_)
        · obtain ⟨s1, eD⟩ := hP
          obtain ⟨rfl, c0, hc0, rfl⟩ := hY
          have hc1 : L[i]? = some c0 := by simpa [SX.S] using hc0
          refine ⟨rfl, yes_if ⟨_, rfl, c0, _, rfl, rfl, _, eD, ?_, ?_, ?_⟩⟩
          · rw [List.length_map, List.length_map, List.length_take]
            exact small1000 (by omega)
          · exact fun z o hz => by
              rw [upd_ne (ne_of_none hz hD)]
              exact s1 _ _ hz
          · rw [upd_same, List.take_add_one, hc1, List.map_append, List.map_append]
            have ee : decide (c0 ∈ (Str.ofString "0123456789").cps.toList) = isDig c0 := by
              rw [figs_eq]
              exact figs_in c0
            rw [ee]
            rfl
        · obtain ⟨s1, eD⟩ := hP
          have sz : (SX.S L).cps.size = L.length := SX.S_len L
          rw [sz, List.take_length] at eD
          refine ⟨D, _, rfl, SqL.of eD, ?_⟩
          rw [all_dig]
          refine ⟨_, rfl, ite2 (fun c3 => ?_) (fun c3 => ?_)⟩
          · refine no (nn fun y => ?_) _ s1
            rw [y.2.2.1] at c3
            cases c3
          · have ad : L.all isDig = true := by
              cases hA : L.all isDig with
              | true => rfl
              | false => rw [hA] at c3; exact absurd rfl c3
            have yy : Canon L = true → numIn L = some (NumText.digitsVal L) := fun z => by
              unfold numIn
              exact if_pos ⟨e, l12, ad, z⟩
            refine ⟨_, rfl, rfl, _, rfl, ite2 (fun c4 => ?_) (fun c4 => ?_)⟩
            · have z : L = [48] := by
                have z := V.str.inj (of_decide_eq_true c4)
                rw [str_nought] at z
                exact congrArg TL.tl z
              refine iteT ⟨_, rfl, _, _, rfl, SX.int_S (a := L) ad e (by omega), by rw [SX.S_len]; omega, ?_⟩
              refine yes _ (yy ?_) _ s1
              rw [z]
              rfl
            · have n48 : L ≠ [48] := fun z => c4 (by
                rw [z, str_nought]
                exact decide_eq_true rfl)
              obtain ⟨c0, r, er⟩ : ∃ c0 r, L = c0 :: r := by
                cases L with
                | nil => exact absurd rfl e
                | cons c r => exact ⟨c, r, rfl⟩
              refine ⟨_, rfl, _, 0, c0, rfl, rfl, hl, ?_, rfl, _, rfl, ite2 (fun c5 => ?_) (fun c5 => ?_)⟩
              · show atI L ((0 : Nat) : Int) = some c0
                refine atI_nat ?_
                rw [er]
                rfl
              · have n0 : c0 ≠ 48 := fun z => by
                  rw [z, str_nought] at c5
                  exact absurd c5 (by decide +kernel)
                refine ⟨_, rfl, _, _, rfl, SX.int_S (a := L) ad e (by omega), by rw [SX.S_len]; omega, ?_⟩
                refine yes _ (yy ?_) _ s1
                rw [er]
                unfold Canon
                rw [Bool.or_eq_true]
                exact .inr (decide_eq_true n0)
              · have n0 : c0 = 48 := Classical.byContradiction fun z => c5 (by
                  rw [decide_eq_false (fun y => z (by
                    have y' := V.str.inj y
                    rw [str_nought] at y'
                    have y2 : [c0] = [48] := congrArg TL.tl y'
                    cases y2
                    rfl))]
                  rfl)
                refine no (nn fun y => ?_) _ s1
                have y4 := y.2.2.2
                unfold Canon at y4
                rw [Bool.or_eq_true] at y4
                rcases y4 with y4 | y4
                · exact n48 (of_decide_eq_true y4)
                · rw [er] at y4
                  exact absurd n0 (of_decide_eq_true y4)
    · have g1 : ¬ (1 : Int) ≤ (L.length : Int) := fun z => c1 (decide_eq_true z)
      have e : L = [] := List.length_eq_zero_iff.mp (by omega)
      refine ⟨_, rfl, iteT (iteT (no (nn fun y => y.1 e) H (Same.refl H)))⟩
end
end Nv

set_option maxRecDepth 100000
set_option maxHeartbeats 4000000
namespace Nv
open PySem PySem.Spec PyProof.Rows L2 LamX
abbrev nShIn : List Str := ["_law_text", "_law_bare", "_law_words", "_law_numbers", "_law_word", "_law_below"]
theorem scShIn : FnScope nShIn ["_law_text"] (defScope sShIn) := ⟨rfl, rfl, rfl, by decide +kernel, rfl, by decide +kernel, by decide +kernel⟩
theorem spl_bound : ∀ (l acc : List Nat), (TL.spl [47] 0 acc l).length ≤ l.length + 1 ∧ 1 ≤ (TL.spl [47] 0 acc l).length ∧ ∀ w ∈ TL.spl [47] 0 acc l, w.length ≤ acc.length + l.length
  | [], acc => by
    rw [TL.spl_nil]
    refine ⟨Nat.le_refl _, Nat.le_refl _, fun w hw => ?_⟩
    rw [List.mem_singleton.mp hw]
    exact Nat.le_refl _
  | c :: r, acc => by
    cases h : TL.pre [47] (c :: r) with
    | true =>
      rw [TL.spl_hit h]
      obtain ⟨h1, h2, h3⟩ := spl_bound r []
      refine ⟨?_, ?_, fun w hw => ?_⟩
      · rw [List.length_cons, List.length_cons]
        exact Nat.succ_le_succ h1
      · rw [List.length_cons]
        omega
      · rcases List.mem_cons.mp hw with e | e
        · rw [e]
          omega
        · have := h3 w e
          rw [List.length_cons]
          have z : ([] : List Nat).length = 0 := rfl
          omega
    | false =>
      rw [TL.spl_miss h]
      obtain ⟨h1, h2, h3⟩ := spl_bound r (acc ++ [c])
      refine ⟨?_, h2, fun w hw => ?_⟩
      · rw [List.length_cons]
        omega
      · have := h3 w hw
        rw [List.length_append] at this
        rw [List.length_cons]
        have z : [c].length = 1 := rfl
        omega
/-- a text's words between its strokes -/
def ws (M : List Nat) : List (List Nat) := TL.spl [47] 0 [] M
theorem ws_none {M : List Nat} (h : (cutAt M).2 = none) : ws M = [(cutAt M).1] := by
  obtain ⟨e, n⟩ := cutAt_none h
  rw [e]
  exact TL.spl_last1 n
theorem ws_some {M B : List Nat} (h : (cutAt M).2 = some B) : ws M = (cutAt M).1 :: ws B := by
  obtain ⟨e, n⟩ := cutAt_some h
  unfold ws
  conv => lhs; rw [e]
  exact TL.spl_part1 (s := 47) (S := []) (rest := B) n
theorem ws_two {B : List Nat} (h : 47 ∉ B) : ws B = [B] := TL.spl_last1 h
theorem ws_more {B : List Nat} (h : 47 ∈ B) : 2 ≤ (ws B).length := by
  cases hc : (cutAt B).2 with
  | none =>
    obtain ⟨e, n⟩ := cutAt_none hc
    exact absurd h n
  | some q =>
    rw [ws_some hc, List.length_cons]
    have := (spl_bound q []).2.1
    unfold ws
    omega
theorem bare_same (L : List Nat) : bare L = L ↔ neg L ≠ true := by
  unfold bare
  constructor
  · intro h z
    rw [if_pos z] at h
    obtain ⟨r, e⟩ := neg_cons z
    rw [e] at h
    have := congrArg List.length h
    rw [List.length_drop, List.length_cons] at this
    omega
  · intro z
    rw [if_neg z]
theorem take_neg (L : List Nat) : (L.take 1 = [45]) ↔ neg L = true := by
  cases L with
  | nil => exact ⟨fun z => (nomatch z), fun z => (nomatch z)⟩
  | cons c r =>
    constructor
    · intro z
      have z' : [c] = [45] := z
      cases z'
      rfl
    · intro z
      obtain ⟨r', e⟩ := neg_cons z
      cases e
      rfl
def numV (w : List Nat) : V := optV (numIn w)
theorem numV_flat (w : List Nat) : flatV (numV w) = true := by
  unfold numV
  cases numIn w <;> rfl
theorem numV_non (w : List Nat) : eqV (numV w) .non = (numIn w).isNone := by
  unfold numV
  cases numIn w <;> rfl
def spShIn : Sp := fun vs H Q E => ∃ L : List Nat, vs = [.str (SX.S L)] ∧ L.length ≤ 900 ∧ (∀ t d, readL L = some (t, d) → newSh H Q t d) ∧ (readL L = none → ∀ H', Same H H' → Q .non H')
section
variable {P : Program} {w : World} {K : PySem.W.Frag} {mg : Str → Option Value} {base : Heap}
theorem ok_shIn {f : Addr} {fd : FuncData} (F : Fun K "_law_share_in" "_law_share_in" sShIn f fd) (T : Blt mg) (GN : C8.Cal P w K mg base 1 "_law_number_in" spNumIn []) (GG : C8.Cal P w K mg base 1 "_law_gcd" spGcd []) : FnOk P w K mg base CX0 2 f fd ["_law_text"] spShIn := by
  refine F.ok scShIn (fun vs H Q E h => ?_) (fun cdv A outer s H vs Q E hr h => ?_)
  · obtain ⟨L, rfl, _⟩ := h
    rfl
  · obtain ⟨L, rfl, hl0, q1, q0⟩ := h
    have hl : (SX.S L).length ≤ sizeLine := by rw [SX.S_len, sizeLine_eq]; omega
    refine ⟨_, pss_cons (ps_set (i := 1) scShIn.nd rfl (.inl rfl) (pe_ifExp (pt_cmpR op_eq (pe_slice C8.sl_txt (pv 0) po_none (po_some pe_int)) pe_str (nomark _)) (pe_slice C8.sl_txt (pv 0) (po_some pe_int) po_none) (pv 0)))
      (pss_cons (ps_set (i := 2) scShIn.nd rfl (.inl rfl) (pe_split (pv 1) pe_str))
      (pss_cons (ps_setLc (i := 3) (own := [("_law_word", 4)]) (g := gName 4) (tt := tYes) rfl scShIn.nd rfl rfl (sw_true rfl rfl rfl (by decide +kernel)) (pi_list (pv 2)) (blkOk_by (N := nShIn) (sc := defScope sShIn) (by decide +kernel))
            (fun _ _ _ _ _ => pg_name (i := 4) scShIn.nd rfl (Or.inl rfl)) (fun _ _ _ _ _ => pts_nil)
            (fun _ _ _ _ _ => C8.pe_c GN hr (by decide) (by rfl) (pa_cons (pv 4) pa_nil)))
      (pss_cons (ps_if (PW.pt (pw_or (pt_cmpR op_gt (pe_callB call_len_seq (by rfl) T.len PySem.boot_len (pa_cons (pv 2) pa_nil)) pe_int (nomark _)) (pw_or1 (pt_cmpR op_in_seq pe_non (pv 3) (by rfl))))) (pss_one (ps_ret pe_non)) pss_nil)
      (pss_cons (ps_set (i := 5) scShIn.nd rfl (.inl rfl) (pe_ifExp (pt_cmpR op_eq (pe_callB call_len_seq (by rfl) T.len PySem.boot_len (pa_cons (pv 2) pa_nil)) pe_int (nomark _)) pe_int (pe_ix ix_list (pv 3) pe_int (fun _ _ => rfl))))
      (pss_cons (ps_if (PW.pt (pw_or (PW.pt (pw_and (pt_cmpR op_eq (pe_callB call_len_seq (by rfl) T.len PySem.boot_len (pa_cons (pv 2) pa_nil)) pe_int (nomark _)) (pw_and1 (pt_cmpR op_lt (pv 5) pe_int (nomark _)))))
          (pw_or (PW.pt (pw_and (pt_cmpR op_ne (pv 1) (pv 0) (nomark _)) (pw_and1 (pt_cmpR op_eq (pe_ix ix_list (pv 3) pe_int (fun _ _ => rfl)) pe_int (nomark _)))))
          (pw_or1 (pt_cmpR op_ne (C8.pe_c GG hr (by decide) (by rfl) (pa_cons (pe_ix ix_list (pv 3) pe_int (fun _ _ => rfl)) (pa_cons (pv 5) pa_nil))) pe_int (nomark _)))))) (pss_one (ps_ret pe_non)) pss_nil)
      (pss_one (ps_ret (pe_tup (pa_cons (pe_ifExp (pt_cmpR op_eq (pv 1) (pv 0) (nomark _)) (pe_ix ix_list (pv 3) pe_int (fun _ _ => rfl)) (pe_op op_sub pe_int (pe_ix ix_list (pv 3) pe_int (fun _ _ => rfl)))) (pa_cons (pv 5) pa_nil)))))))))), ?_⟩
    have lb : (bare L).length ≤ 900 := Nat.le_trans (bare_len L) hl0
    obtain ⟨w1, _, w3⟩ := spl_bound (bare L) []
    have w1 : (ws (bare L)).length ≤ 901 := by
      show (TL.spl [47] 0 [] (bare L)).length ≤ 901
      omega
    have w3 : ∀ x ∈ ws (bare L), x.length ≤ 900 := fun x hx => by
      have z : ([] : List Nat).length = 0 := rfl
      have := w3 x hx
      omega
    have nn1 : numIn (cutAt (bare L)).1 = none → readL L = none := fun z => by
      unfold readL
      rw [z, pairL_none]
    have nn2 : botL (cutAt (bare L)).2 = none → readL L = none := fun z => by
      unfold readL
      rw [z, pairL_none2]
    refine keep (fun σ' H' => σ' = [some (.str (SX.S L)), some (.str (SX.S (bare L))), none, none, none, none] ∧ H' = H) (fun σ' H' hM => ?_) (fun rest => ?_)
    · obtain ⟨rfl, rfl⟩ := hM
      have hbl : (SX.S (bare L)).length + 2 ≤ sizeLine := by rw [SX.S_len, sizeLine_eq]; omega
      refine ⟨_, rfl, ⟨_, rfl⟩, _, _, rfl, rfl, by decide, hbl, fun W nW => ?_⟩
      have ew : (Txt.split (SX.S (bare L)) (Str.ofString "/")).map V.str = (ws (bare L)).map fun x => V.str (SX.S x) := by
        rw [str_stroke, SX.split_S (by decide) (by decide), List.map_map]
        rfl
      rw [ew]
      have sW := same_new (o := .lst ((ws (bare L)).map fun x => V.str (SX.S x))) nW
      refine ⟨_, rfl, W, rfl, ⟨_, SqL.of upd_same⟩, fun D hD => ?_⟩
      refine lc_list (K := K) (a := W) (xs := (ws (bare L)).map fun x => V.str (SX.S x)) (fun i J => Same H' J ∧ J W = some (.lst ((ws (bare L)).map fun x => V.str (SX.S x))) ∧ J D = some (.lst (((ws (bare L)).take i).map numV)) ∧ H' D = none) ⟨sW.trans (same_new hD), (same_new hD) _ _ upd_same, upd_same, sW.free hD⟩ (fun i J _ hP => SqL.of hP.2.1) (fun i x J hx hP => ?_) (fun J hP => ?_)
      · obtain ⟨s1, eW, eD, nD⟩ := hP
        rw [List.getElem?_map] at hx
        obtain ⟨x0, hx0, rfl⟩ : ∃ x0, (ws (bare L))[i]? = some x0 ∧ V.str (SX.S x0) = x := by
          cases hc : (ws (bare L))[i]? with
          | none => rw [hc] at hx; cases hx
          | some x0 => rw [hc] at hx; exact ⟨x0, rfl, Option.some.inj hx⟩
        have hWD : W ≠ D := fun z => by
          rw [← z, upd_same] at hD
          cases hD
        refine ⟨rfl, yes_if ⟨_, rfl, x0, rfl, Nat.le_trans (w3 x0 (List.mem_of_getElem? hx0)) (by decide), fun J1 s2 => ⟨_, s2 _ _ eD, ?_, ?_, ?_, ?_, nD⟩⟩⟩
        · rw [List.length_map, List.length_take]
          exact small1000 (by omega)
        · exact fun z o hz => by
            rw [upd_ne (ne_of_none hz nD)]
            exact s2 _ _ (s1 _ _ hz)
        · rw [upd_ne hWD]
          exact s2 _ _ eW
        · rw [upd_same, List.take_add_one, hx0, List.map_append]
          rfl
      · obtain ⟨s1, eW, eD, nD⟩ := hP
        rw [List.length_map, List.take_length] at eD
        have lW : ((ws (bare L)).map fun x => V.str (SX.S x)).length = (ws (bare L)).length := List.length_map ..
        have fl : ((ws (bare L)).map numV).all flatV = true := List.all_eq_true.mpr fun v hv => by
          obtain ⟨x, _, rfl⟩ := List.mem_map.mp hv
          exact numV_flat x
        have iv : inV .non ((ws (bare L)).map numV) = (ws (bare L)).any fun x => (numIn x).isNone := by
          unfold inV
          rw [List.any_map]
          exact congrArg (fun g => (ws (bare L)).any g) (funext fun x => numV_non x)
        refine keepN (fun σ' J' => J' = J ∧ ∃ (two : Bool) (a b : Nat) (rs : List V), σ' = [some (.str (SX.S L)), some (.str (SX.S (bare L))), some (.ref W), some (.ref D), none, none] ∧ (ws (bare L)).length = (if two = true then 2 else 1) ∧ (cutAt (bare L)).2.isSome = two ∧ numIn (cutAt (bare L)).1 = some a ∧ botL (cutAt (bare L)).2 = some b ∧ (ws (bare L)).map numV = .int (a : Nat) :: rs ∧ (two = true → rs = [.int (b : Nat)]) ∧ (two = false → b = 1)) (fun σ' J' hM => ?_) (fun rest => ?_)
        · obtain ⟨rfl, two, a, b, rs, rfl, ln, ho, ha, hb, en, e2, e1⟩ := hM
          rw [en] at eD
          refine keep (fun σ' J1 => J1 = J' ∧ σ' = [some (.str (SX.S L)), some (.str (SX.S (bare L))), some (.ref W), some (.ref D), none, some (.int (b : Nat))]) (fun σ' J1 hM => ?_) (fun rest => ?_)
          · obtain ⟨rfl, rfl⟩ := hM
            have at0 : atI (V.int (a : Nat) :: rs) 0 = some (.int (a : Nat)) := atI_nat (j := 0) rfl
            have rd : readL L = if (two = true ∧ b < 2) ∨ (neg L = true ∧ a = 0) ∨ Int.gcd a b ≠ 1 then none else some (sg (neg L) a, (b : Int)) := by
              unfold readL
              rw [ha, hb, ho]
              rfl
            have bad : (two = true ∧ b < 2) ∨ (neg L = true ∧ a = 0) ∨ Int.gcd a b ≠ 1 → Q .non J1 := fun z => q0 (by rw [rd, if_pos z]) _ s1
            have ed : (decide (V.str (SX.S (bare L)) = V.str (SX.S L))) = !neg L := by
              cases hn : neg L with
              | true => exact decide_eq_false fun y => (bare_same L).mp (congrArg TL.tl (V.str.inj y)) hn
              | false => exact decide_eq_true (by rw [(bare_same L).mpr (by rw [hn]; decide)])
            have fin : ¬ ((two = true ∧ b < 2) ∨ (neg L = true ∧ a = 0) ∨ Int.gcd a b ≠ 1) → _ := fun nb => q1 (sg (neg L) a) b (by rw [rd, if_neg nb])
            have fin' : ¬ ((two = true ∧ b < 2) ∨ (neg L = true ∧ a = 0) ∨ Int.gcd a b ≠ 1) → tRet (tTup (tCons (tIf (tTest (tOp rEq (tVar 1) (tVar 0))) (tOp (rIxL K) (tVar 3) (tC (V.int 0))) (tOp (rI0 fun i j => V.int (i - j)) (tC (V.int 0)) (tOp (rIxL K) (tVar 3) (tC (V.int 0))))) (tCons (tVar 5) tNil)))
                { nx := fun _ H' => Q V.non H', rt := Q } [some (V.str (SX.S L)), some (V.str (SX.S (bare L))), some (V.ref W), some (V.ref D), none, some (V.int (b : Nat))] J1 := fun nb => by
              refine ⟨_, rfl, _, rfl, rfl, _, rfl, ?_⟩
              rw [ed]
              cases hn : neg L with
              | true =>
                refine iteF ⟨_, rfl, D, _, 0, .int (a : Nat), rfl, rfl, SqL.of eD, at0, 0, a, rfl, rfl, _, rfl, (by show 2 ≤ sizeLine; decide), fun p hp => ?_⟩
                have z := (fin nb).same s1
                have e : sg (neg L) a = 0 - (a : Int) := by
                  unfold sg
                  rw [if_pos hn]
                  omega
                rw [e] at z
                exact z.at_ p hp
              | false =>
                refine iteT ⟨_, rfl, D, _, 0, .int (a : Nat), rfl, rfl, SqL.of eD, at0, _, rfl, (by show 2 ≤ sizeLine; decide), fun p hp => ?_⟩
                have z := (fin nb).same s1
                have e : sg (neg L) a = (a : Int) := by
                  unfold sg
                  rw [hn]
                  rfl
                rw [e] at z
                exact z.at_ p hp
            refine ⟨_, rfl, W, _, rfl, .inl (SqL.of eW), rfl, _, rfl, ?_⟩
            rw [lW, ln]
            cases htwo : two with
            | true =>
              refine iteT ⟨_, rfl, b, 2, rfl, rfl, _, rfl, ite2 (fun d1 => ?_) (fun d1 => ?_)⟩
              · have z := of_decide_eq_true d1
                exact iteT (bad (.inl ⟨htwo, by omega⟩))
              · have n1 : ¬ (two = true ∧ b < 2) := fun z => d1 (decide_eq_true (by omega))
                refine ⟨_, rfl, _, rfl, rfl, _, rfl, ?_⟩
                rw [ed]
                cases hn : neg L with
                | true =>
                  refine iteT ⟨_, rfl, D, _, 0, .int (a : Nat), rfl, rfl, SqL.of eD, at0, rfl, _, rfl, ite2 (fun d2 => ?_) (fun d2 => ?_)⟩
                  · exact iteT (bad (.inr (.inl ⟨hn, by have z := V.int.inj (of_decide_eq_true d2); omega⟩)))
                  · have n2 : ¬ (neg L = true ∧ a = 0) := fun z => d2 (by rw [z.2]; exact decide_eq_true rfl)
                    refine ⟨_, rfl, D, _, 0, .int (a : Nat), rfl, rfl, SqL.of eD, at0, _, rfl, a, b, rfl, rfl, _, rfl, ite2 (fun d3 => ?_) (fun d3 => ?_)⟩
                    · exact bad (.inr (.inr fun z => by
                        rw [z] at d3
                        exact absurd d3 (by decide)))
                    · have g1 : Int.gcd a b = 1 := Classical.byContradiction fun z => d3 (by
                        rw [decide_eq_false (fun y => z (by have y' := V.int.inj y; omega))]
                        rfl)
                      exact fin' (fun z => z.elim n1 (fun z => z.elim n2 (fun z => z g1)))
                | false =>
                  have n2 : ¬ (neg L = true ∧ a = 0) := fun z => by rw [hn] at z; exact absurd z.1 (by decide)
                  refine iteF (iteF ?_)
                  refine ⟨_, rfl, D, _, 0, .int (a : Nat), rfl, rfl, SqL.of eD, at0, _, rfl, a, b, rfl, rfl, _, rfl, ite2 (fun d3 => ?_) (fun d3 => ?_)⟩
                  · exact bad (.inr (.inr fun z => by
                      rw [z] at d3
                      exact absurd d3 (by decide)))
                  · have g1 : Int.gcd a b = 1 := Classical.byContradiction fun z => d3 (by
                      rw [decide_eq_false (fun y => z (by have y' := V.int.inj y; omega))]
                      rfl)
                    exact fin' (fun z => z.elim n1 (fun z => z.elim n2 (fun z => z g1)))
            | false =>
              have n1 : ¬ (two = true ∧ b < 2) := fun z => by rw [htwo] at z; exact absurd z.1 (by decide)
              refine iteF (iteF ?_)
              refine ⟨_, rfl, _, rfl, rfl, _, rfl, ?_⟩
              rw [ed]
              cases hn : neg L with
              | true =>
                refine iteT ⟨_, rfl, D, _, 0, .int (a : Nat), rfl, rfl, SqL.of eD, at0, rfl, _, rfl, ite2 (fun d2 => ?_) (fun d2 => ?_)⟩
                · exact iteT (bad (.inr (.inl ⟨hn, by have z := V.int.inj (of_decide_eq_true d2); omega⟩)))
                · have n2 : ¬ (neg L = true ∧ a = 0) := fun z => d2 (by rw [z.2]; exact decide_eq_true rfl)
                  refine ⟨_, rfl, D, _, 0, .int (a : Nat), rfl, rfl, SqL.of eD, at0, _, rfl, a, b, rfl, rfl, _, rfl, ite2 (fun d3 => ?_) (fun d3 => ?_)⟩
                  · exact bad (.inr (.inr fun z => by
                      rw [z] at d3
                      exact absurd d3 (by decide)))
                  · have g1 : Int.gcd a b = 1 := Classical.byContradiction fun z => d3 (by
                      rw [decide_eq_false (fun y => z (by have y' := V.int.inj y; omega))]
                      rfl)
                    exact fin' (fun z => z.elim n1 (fun z => z.elim n2 (fun z => z g1)))
              | false =>
                have n2 : ¬ (neg L = true ∧ a = 0) := fun z => by rw [hn] at z; exact absurd z.1 (by decide)
                refine iteF (iteF ?_)
                refine ⟨_, rfl, D, _, 0, .int (a : Nat), rfl, rfl, SqL.of eD, at0, _, rfl, a, b, rfl, rfl, _, rfl, ite2 (fun d3 => ?_) (fun d3 => ?_)⟩
                · exact bad (.inr (.inr fun z => by
                    rw [z] at d3
                    exact absurd d3 (by decide)))
                · have g1 : Int.gcd a b = 1 := Classical.byContradiction fun z => d3 (by
                    rw [decide_eq_false (fun y => z (by have y' := V.int.inj y; omega))]
                    rfl)
                  exact fin' (fun z => z.elim n1 (fun z => z.elim n2 (fun z => z g1)))
          · refine ⟨_, rfl, W, _, rfl, .inl (SqL.of eW), rfl, _, rfl, ?_⟩
            rw [lW, ln]
            cases two with
            | false =>
              refine iteT (rest _ _ ⟨rfl, ?_⟩)
              rw [e1 rfl]
              rfl
            | true =>
              refine iteF ⟨_, rfl, D, _, 1, .int (b : Nat), rfl, rfl, SqL.of eD, ?_, rest _ _ ⟨rfl, rfl⟩⟩
              rw [e2 rfl]
              exact atI_nat (j := 1) rfl
        · refine ⟨_, rfl, W, _, rfl, .inl (SqL.of eW), _, 2, rfl, rfl, _, rfl, ?_⟩
          rw [lW]
          cases ho : (cutAt (bare L)).2 with
          | none =>
            rw [ws_none ho] at rest iv fl eD ⊢
            refine iteF ⟨_, rfl, D, _, rfl, .inl (SqL.of eD), rfl, fl, _, rfl, ite2 (fun c => ?_) (fun c => ?_)⟩
            · have c' : inV .non ([(cutAt (bare L)).1].map numV) = true := c
              rw [iv] at c'
              refine q0 (nn1 ?_) _ s1
              cases hx : numIn (cutAt (bare L)).1 with
              | none => rfl
              | some a => rw [List.any_cons, hx] at c'; cases c'
            · have c' : inV .non ([(cutAt (bare L)).1].map numV) ≠ true := c
              rw [iv] at c'
              cases hx : numIn (cutAt (bare L)).1 with
              | none => rw [List.any_cons, hx] at c'; exact absurd rfl c'
              | some a =>
                refine rest _ _ ⟨rfl, false, a, 1, [], rfl, rfl, by rw [ho]; rfl, hx, by rw [ho]; rfl, ?_, (fun z => by cases z), fun _ => rfl⟩
                show [numV (cutAt (bare L)).1] = _
                unfold numV
                rw [hx]
                rfl
          | some B =>
            by_cases h47 : 47 ∈ B
            · have l3 : 3 ≤ (ws (bare L)).length := by
                rw [ws_some ho, List.length_cons]
                have := ws_more h47
                omega
              refine ite2 (fun c => iteT (q0 (nn2 ?_) _ s1)) (fun c => absurd (decide_eq_true (by omega)) c)
              rw [ho]
              exact if_pos h47
            · have e2w : ws (bare L) = [(cutAt (bare L)).1, B] := by rw [ws_some ho, ws_two h47]
              have hbo : botL (cutAt (bare L)).2 = numIn B := by
                rw [ho]
                exact if_neg h47
              rw [e2w] at rest iv fl eD ⊢
              refine iteF ⟨_, rfl, D, _, rfl, .inl (SqL.of eD), rfl, fl, _, rfl, ite2 (fun c => ?_) (fun c => ?_)⟩
              · have c' : inV .non ([(cutAt (bare L)).1, B].map numV) = true := c
                rw [iv] at c'
                cases hx : numIn (cutAt (bare L)).1 with
                | none => exact q0 (nn1 hx) _ s1
                | some a =>
                  cases hy : numIn B with
                  | none => exact q0 (nn2 (by rw [hbo, hy])) _ s1
                  | some b => rw [List.any_cons, List.any_cons, hx, hy] at c'; cases c'
              · have c' : inV .non ([(cutAt (bare L)).1, B].map numV) ≠ true := c
                rw [iv] at c'
                cases hx : numIn (cutAt (bare L)).1 with
                | none => rw [List.any_cons, hx] at c'; exact absurd rfl c'
                | some a =>
                  cases hy : numIn B with
                  | none => rw [List.any_cons, List.any_cons, hx, hy] at c'; exact absurd rfl c'
                  | some b =>
                    refine rest _ _ ⟨rfl, true, a, b, [.int (b : Nat)], rfl, rfl, by rw [ho]; rfl, hx, by rw [hbo, hy], ?_, (fun _ => rfl), (fun z => by cases z)⟩
                    show [numV (cutAt (bare L)).1, numV B] = _
                    unfold numV
                    rw [hx, hy]
                    rfl
    · refine ⟨_, rfl, _, rfl, _, rfl, hl, rfl, _, rfl, ?_⟩
      rw [SX.slice_to (by decide)]
      refine ite2 (fun c => ?_) (fun c => ?_)
      · have e : neg L = true := (take_neg L).mp (by
          have z := V.str.inj (of_decide_eq_true c)
          rw [str_minus] at z
          exact congrArg TL.tl z)
        refine ⟨_, rfl, _, rfl, _, rfl, hl, rest _ _ ⟨?_, rfl⟩⟩
        rw [SX.slice_from (by decide)]
        unfold bare
        rw [if_pos e]
        rfl
      · have e : neg L ≠ true := fun z => c (by
          have y : L.take (1 : Int).toNat = [45] := (take_neg L).mpr z
          rw [y, str_minus]
          exact decide_eq_true rfl)
        refine ⟨_, rfl, rest _ _ ⟨?_, rfl⟩⟩
        rw [(bare_same L).mpr e]
        rfl
end
end Nv

set_option maxRecDepth 100000
set_option maxHeartbeats 8000000
namespace Nv
open PySem PySem.Spec PyProof.Rows L2 LamX
abbrev sLST : Stmt := topS 82
abbrev sPutI : Stmt := topS 83
abbrev sWro : Stmt := topS 84
theorem scLST : FnScope ["_law_one"] ["_law_one"] (defScope sLST) := ⟨rfl, rfl, rfl, by decide +kernel, rfl, by decide +kernel, by decide +kernel⟩
theorem scPutI : FnScope ["_law_term", "_law_least", "_law_first"] ["_law_term", "_law_least", "_law_first"] (defScope sPutI) := ⟨rfl, rfl, rfl, by decide +kernel, rfl, by decide +kernel, by decide +kernel⟩
theorem scWro : FnScope ["_law_term", "_law_first", "_law_text", "_law_level", "_law_sign"] ["_law_term", "_law_first"] (defScope sWro) := ⟨rfl, rfl, rfl, by decide +kernel, rfl, by decide +kernel, by decide +kernel⟩
theorem ofString_append (a b : String) : Str.ofString (a ++ b) = Str.ofString a ++ Str.ofString b := by
  rw [Str.ofString_eq_toList, Str.ofString_eq_toList a, Str.ofString_eq_toList b]
  refine TL.ext_tl ?_
  show ((a ++ b).toList.map Char.toNat).toArray.toList = ((a.toList.map Char.toNat).toArray ++ (b.toList.map Char.toNat).toArray).toList
  rw [String.toList_append, List.map_append, Array.toList_append]
theorem str_num (t : Int) : Str.ofString (toString t) = SX.S ((if t < 0 then [45] else []) ++ TL.numL t.natAbs) := by
  by_cases h : t < 0
  · rw [toString_neg h, if_pos h]
    have e : (0 - t) = ((t.natAbs : Nat) : Int) := by omega
    rw [e]
    have : Str.ofString ("-" ++ toString ((t.natAbs : Nat) : Int)) = Str.ofString "-" ++ Str.ofString (toString ((t.natAbs : Nat) : Int)) := ofString_append _ _
    rw [this, ofS, str_minus, SX.S_cat]
  · rw [if_neg h]
    have e : t = ((t.natAbs : Nat) : Int) := by omega
    conv => lhs; rw [e]
    rw [ofS]
    rfl
def spLST : Sp := fun vs H Q _ => ∃ (p : Addr) (t d : Int), vs = [.ref p] ∧ H p = some (.tup [.int t, .int d]) ∧ t.natAbs < 10 ^ 12 ∧ 0 < d ∧ d.natAbs < 10 ^ 12 ∧ Q (.str (SX.S (textL t d))) H
def spWro (n : Nat) : Sp := fun vs H Q _ => ∃ (T : AT) (f : Bool), vs = [T.v, .bl f] ∧ T.In H ∧ T.Ok ∧ T.count ≤ n ∧ n ≤ 24 ∧ ∀ H', Same H H' → Q (.str (SX.S (T.wrL f))) H'
def spPutI (n : Nat) : Sp := fun vs H Q _ => ∃ (T : AT) (k : Nat) (f : Bool), vs = [T.v, .int (k : Int), .bl f] ∧ T.In H ∧ T.Ok ∧ T.count ≤ n ∧ n ≤ 24 ∧ ∀ H', Same H H' → Q (.str (SX.S (T.heldL k f))) H'
section
variable {P : Program} {w : World} {K : PySem.W.Frag} {mg : Str → Option Value} {base : Heap}
theorem ok_lst {f : Addr} {fd : FuncData} {k : Nat} (F : Fun K "_law_share_text" "_law_share_text" sLST f fd) (B : Blt mg) : FnOk P w K mg base CX0 (k + 1) f fd ["_law_one"] spLST := by
  refine F.ok scLST (fun vs H Q E h => ?_) (fun cdv A outer s H vs Q E hr h => ?_)
  · obtain ⟨p, t, d, rfl, _⟩ := h
    rfl
  · obtain ⟨p, t, d, rfl, hp, ht, d0, hd, q⟩ := h
    refine ⟨_, pss_one (ps_ret (pe_op op_add_str (pe_callTy call_str_int (by rfl) B.str (by decide +kernel) (pa_cons (pe_ix ix_tup (pv 0) pe_int (fun _ _ => rfl)) pa_nil))
      (pe_ifExp (pt_cmpR op_gt (pe_ix ix_tup (pv 0) pe_int (fun _ _ => rfl)) pe_int (nomark _)) (pe_op op_add_str pe_str (pe_callTy call_str_int (by rfl) B.str (by decide +kernel) (pa_cons (pe_ix ix_tup (pv 0) pe_int (fun _ _ => rfl)) pa_nil))) pe_str))), ?_⟩
    have l60 : ∀ {i : Int}, i.natAbs < 10 ^ 12 → i.natAbs.log2 < 1920 := fun h => log60 (Nat.lt_of_lt_of_le h (by decide))
    have lt : (TL.numL t.natAbs).length ≤ 12 := TL.numL_len (by decide) ht
    have ld : (TL.numL d.natAbs).length ≤ 12 := TL.numL_len (by decide) hd
    have ls : (if t < 0 then [45] else [] : List Nat).length ≤ 1 := by split <;> decide
    have ed : Str.ofString (toString d) = SX.S (TL.numL d.natAbs) := by
      rw [str_num, if_neg (by omega)]
      rfl
    have l1 : ((if t < 0 then [45] else []) ++ TL.numL t.natAbs).length ≤ 13 := by rw [List.length_append]; omega
    refine ⟨_, rfl, p, _, 0, .int t, rfl, rfl, SqT.of hp, rfl, t, rfl, l60 ht, ?_⟩
    refine ⟨_, rfl, p, _, 1, .int d, rfl, rfl, SqT.of hp, rfl, d, 1, rfl, rfl, _, rfl, ite2 (fun c => ?_) (fun c => ?_)⟩
    · have c : 1 < d := of_decide_eq_true c
      refine ⟨_, rfl, p, _, 1, .int d, rfl, rfl, SqT.of hp, rfl, d, rfl, l60 hd, _, _, rfl, rfl, ?_, _, _, rfl, rfl, ?_, ?_⟩
      · rw [ed, str_stroke, SX.S_len, SX.S_len, sizeLine_eq]
        show 1 + _ ≤ _
        omega
      · rw [ed, str_num, str_stroke, SX.S_cat, SX.S_len, SX.S_len, sizeLine_eq]
        have e47 : ([47] ++ TL.numL d.natAbs).length = 1 + (TL.numL d.natAbs).length := by
          rw [List.length_append]
          rfl
        omega
      · rw [ed, str_num, str_stroke, SX.S_cat, SX.S_cat]
        unfold textL at q
        rw [if_pos (show d ≠ 1 by omega)] at q
        exact q
    · have c : ¬ 1 < d := fun z => c (decide_eq_true z)
      refine ⟨_, _, rfl, rfl, ?_, ?_⟩
      · rw [str_num, str_empty, SX.S_len, SX.S_len, sizeLine_eq]
        show _ + 0 ≤ _
        omega
      · rw [str_num, str_empty, SX.S_cat]
        unfold textL at q
        rw [if_neg (show ¬ d ≠ 1 by omega)] at q
        exact q
theorem ok_puti {f : Addr} {fd : FuncData} {n j : Nat} (F : Fun K "_law_put_in" "_law_put_in" sPutI f fd) (GB : C8.Cal P w K mg base 1 "_law_bind" spBnd []) (GW : C8.Cal P w K mg base (j + 1) "_law_wrote" (spWro n) []) : FnOk P w K mg base CX0 (j + 2) f fd ["_law_term", "_law_least", "_law_first"] (spPutI n) := by
  refine F.ok scPutI (fun vs H Q E h => ?_) (fun cdv A outer s H vs Q E hr h => ?_)
  · obtain ⟨T, k, g, rfl, _⟩ := h
    rfl
  · obtain ⟨T, k, g, rfl, hin, ok, hc, hn, q⟩ := h
    refine ⟨_, pss_one (ps_ret (pe_ifExp (pt_cmpR op_ge (C8.pe_c GB hr (by omega) (by rfl) (pa_cons (pv 0) pa_nil)) (pv 1) (nomark _)) (C8.pe_c GW hr (by omega) (by rfl) (pa_cons (pv 0) (pa_cons (pv 2) pa_nil)))
      (pe_op op_add_str (pe_op op_add_str pe_str (C8.pe_c GW hr (by omega) (by rfl) (pa_cons (pv 0) (pa_cons pe_bl pa_nil)))) pe_str))), ?_⟩
    have len := wr_len ok true
    refine ⟨_, rfl, T, rfl, hin, fun H0 s0 => ?_⟩
    have hin0 := hin.keep (Same.tk s0)
    refine ⟨_, rfl, _, _, rfl, rfl, _, rfl, ?_⟩
    by_cases h : T.bind < k
    · refine ite2 (fun c => absurd (of_decide_eq_true c) (by omega)) (fun _ => ?_)
      refine ⟨_, rfl, T, true, rfl, hin0, ok, hc, hn, fun H1 s1 => ?_⟩
      refine ⟨_, _, rfl, rfl, ?_, _, _, rfl, rfl, ?_, ?_⟩
      · rw [str_open, SX.S_len, SX.S_len, sizeLine_eq]
        show 1 + (T.wrL true).length ≤ _
        omega
      · rw [str_open, SX.S_cat, str_shut, SX.S_len, SX.S_len, sizeLine_eq, List.length_append]
        show 1 + (T.wrL true).length + 1 ≤ _
        omega
      · have := q H1 (s0.trans s1)
        unfold AT.heldL at this
        rw [if_pos h] at this
        rw [str_open, SX.S_cat, str_shut, SX.S_cat]
        exact this
    · refine ite2 (fun _ => ?_) (fun c => absurd (decide_eq_true (show (k : Int) ≤ (T.bind : Int) by omega)) c)
      refine ⟨_, rfl, _, rfl, T, g, rfl, hin0, ok, hc, hn, fun H1 s1 => ?_⟩
      have := q H1 (s0.trans s1)
      unfold AT.heldL at this
      rw [if_neg h] at this
      exact this
def inLN (x : Str) : Bool := if false = true then !inV (V.str x) [V.str (Str.ofString "letter"), V.str (Str.ofString "name")] else inV (V.str x) [V.str (Str.ofString "letter"), V.str (Str.ofString "name")]
theorem in_le : inLN "letter" = true := by decide +kernel
theorem in_sh : inLN "share" = false := by decide +kernel
theorem in_un : inLN "undo" = false := by decide +kernel
theorem in_op (o : Op) : inLN o.word = false := by cases o <;> decide +kernel
def sgD : List (Key × V) := [(Sum.inr "plus", .str " + "), (Sum.inr "less", .str " - "), (Sum.inr "times", .str "*")]
theorem sg_at (o : Op) : valV (mergeK [] sgD) (Sum.inr o.word : Key) = some (.str (SX.S o.sgn)) := by cases o <;> decide +kernel
theorem ok_wro {f fH : Addr} {fd fdH : FuncData} (F : Fun K "_law_wrote" "_law_wrote" sWro f fd) (gf : mg "_law_wrote" = some (.ref f)) (bf : Binds K fd ["_law_term", "_law_first"] []) (FH : Fun K "_law_put_in" "_law_put_in" sPutI fH fdH) (gH : mg "_law_put_in" = some (.ref fH)) (bH : Binds K fdH ["_law_term", "_law_least", "_law_first"] [])
    (GB : C8.Cal P w K mg base 1 "_law_bind" spBnd []) (GT : C8.Cal P w K mg base 1 "_law_share_text" spLST []) : ∀ n : Nat, FnOk P w K mg base CX0 (2 * n + 2) f fd ["_law_term", "_law_first"] (spWro n) := by
  intro n
  induction n with
  | zero => exact ⟨fun vs H Q E h => by obtain ⟨T, g, rfl, _⟩ := h; rfl, fun A outer s H args us vs Q E _ _ _ _ h => by
      obtain ⟨T, g, _, _, _, c, _⟩ := h
      have := T.count_pos
      omega⟩
  | succ n ih =>
    have GH : C8.Cal P w K mg base (2 * n + 3) "_law_put_in" (spPutI n) [] := ⟨fH, fdH, _, [], ok_puti (j := 2 * n + 1) FH GB ⟨f, fd, _, [], ih, gf, F.kp, bf, .nil⟩, gH, FH.kp, bH, .nil⟩
    refine F.ok scWro (fun vs H Q E h => ?_) (fun cdv A outer s H vs Q E hr h => ?_)
    · obtain ⟨T, g, rfl, _⟩ := h
      rfl
    · obtain ⟨T, g, rfl, hin, ok, hc, hn, q⟩ := h
      refine ⟨_, pss_cons (ps_if (pt_cmpR op_in_seq (pe_ix ix_tup (pv 0) pe_int (fun _ _ => rfl)) (pe_tup (pa_cons pe_str (pa_cons pe_str pa_nil))) (by rfl)) (pss_one (ps_ret (pe_ix ix_tup (pv 0) pe_int (fun _ _ => rfl)))) pss_nil)
        (pss_cons (ps_if (pt_cmpR op_eq (pe_ix ix_tup (pv 0) pe_int (fun _ _ => rfl)) pe_str (nomark _)) (pss_cons (ps_set (i := 2) scWro.nd rfl (.inl rfl) (C8.pe_c GT hr (by omega) (by rfl) (pa_cons (pe_ix ix_tup (pv 0) pe_int (fun _ _ => rfl)) pa_nil)))
            (pss_one (ps_ret (pe_ifExp (PW.pt (pw_or (pt_val (pv 1)) (pw_or1 (pt_cmpR op_ge (pe_ix ix_tup (pe_ix ix_tup (pv 0) pe_int (fun _ _ => rfl)) pe_int (fun _ _ => rfl)) pe_int (nomark _))))) (pv 2) (pe_op op_add_str (pe_op op_add_str pe_str (pv 2)) pe_str))))) pss_nil)
        (pss_cons (ps_if (pt_cmpR op_eq (pe_ix ix_tup (pv 0) pe_int (fun _ _ => rfl)) pe_str (nomark _)) (pss_one (ps_ret (pe_op op_add_str pe_str (C8.pe_c GH hr (by omega) (by rfl) (pa_cons (pe_ix ix_tup (pv 0) pe_int (fun _ _ => rfl)) (pa_cons pe_int (pa_cons pe_bl pa_nil))))))) pss_nil)
        (pss_cons (ps_set (i := 3) scWro.nd rfl (.inl rfl) (C8.pe_c GB hr (by omega) (by rfl) (pa_cons (pv 0) pa_nil)))
        (pss_cons (ps_set (i := 4) scWro.nd rfl (.inl rfl) (pe_dget (hu_of hr) (pe_disp (pps_cons pe_str pe_str (pps_cons pe_str pe_str (pps_cons pe_str pe_str pps_nil))) (by rfl) (by rfl) (fun z => by cases z) (by decide)) (pe_ix ix_tup (pv 0) pe_int (fun _ _ => rfl)) (fun _ _ => rfl)))
        (pss_one (ps_ret (pe_op op_add_str (pe_op op_add_str (C8.pe_c GH hr (by omega) (by rfl) (pa_cons (pe_ix ix_tup (pv 0) pe_int (fun _ _ => rfl)) (pa_cons (pv 3) (pa_cons (pv 1) pa_nil)))) (pv 4))
            (C8.pe_c GH hr (by omega) (by rfl) (pa_cons (pe_ix ix_tup (pv 0) pe_int (fun _ _ => rfl)) (pa_cons (pe_op op_add (pv 3) pe_int) (pa_cons pe_bl pa_nil))))))))))), ?_⟩
      refine ⟨_, rfl, T.at_, _, 0, .str T.word, rfl, rfl, SqT.of hin.items, atI_nat (j := 0) rfl, (by show 2 ≤ sizeLine; decide), fun p0 np0 => ?_⟩
      have s0 := same_new (o := .tup [.str "letter", .str "name"]) np0
      have e0 : (upd H p0 (.tup [.str "letter", .str "name"])) p0 = some (.tup [.str "letter", .str "name"]) := upd_same
      replace hin := hin.keep (Same.tk s0)
      replace q : ∀ H', Same (upd H p0 (.tup [.str "letter", .str "name"])) H' → Q (.str (SX.S (T.wrL g))) H' := fun H' s' => q H' (s0.trans s')
      generalize upd H p0 (.tup [.str "letter", .str "name"]) = H0 at hin q e0
      refine ⟨p0, _, rfl, .inr (SqT.of e0), rfl, rfl, _, rfl, ?_⟩
      match T, hin, ok, hc, q with
      | .le p x, hin, ok, hc, q =>
        refine if_t in_le ?_
        have := q H0 (Same.refl H0)
        rw [show (AT.le p x).wrL g = x.cps.toList from rfl, SX.S_tl] at this
        exact ⟨_, rfl, p, _, 1, .str x, rfl, rfl, SqT.of hin, rfl, this⟩
      | .sh p z t d, hin, ok, hc, q =>
        have ok : ShOk t d := ok
        have d0 := ok.pos
        have dd : d.natAbs < 10 ^ 12 := by have := ok.bot; omega
        have l26 := text_len ok.top dd
        refine if_f in_sh ?_
        refine ⟨_, rfl, p, _, 0, _, rfl, rfl, SqT.of hin.1, atI_nat (j := 0) rfl, rfl, _, rfl, iteT ?_⟩
        refine ⟨_, rfl, p, _, 1, .ref z, rfl, rfl, SqT.of hin.1, rfl, z, t, d, rfl, hin.2, ok.top, by omega, dd, ?_⟩
        have q1 := q H0 (Same.refl H0)
        have ew : (AT.sh p z t d).wrL g = if g = true ∨ 0 ≤ t then textL t d else inB (textL t d) := rfl
        rw [ew] at q1
        refine ⟨_, rfl, g, rfl, ite2 (fun c => iteT ?_) (fun c => ?_)⟩
        · rw [if_pos (.inl c)] at q1
          exact ⟨_, rfl, q1⟩
        · refine ⟨_, rfl, p, _, 1, .ref z, rfl, rfl, SqT.of hin.1, rfl, z, _, 0, .int t, rfl, rfl, SqT.of hin.2, rfl, t, 0, rfl, rfl, _, rfl, ite2 (fun c2 => ?_) (fun c2 => ?_)⟩
          · rw [if_pos (.inr (of_decide_eq_true c2))] at q1
            exact ⟨_, rfl, q1⟩
          · rw [if_neg (fun z => z.elim c (fun z => c2 (decide_eq_true z)))] at q1
            refine ⟨_, rfl, _, _, rfl, rfl, ?_, _, _, rfl, rfl, ?_, ?_⟩
            · rw [str_open, SX.S_len, SX.S_len, sizeLine_eq]
              show 1 + (textL t d).length ≤ _
              omega
            · rw [str_open, SX.S_cat, str_shut, SX.S_len, SX.S_len, sizeLine_eq, List.length_append]
              show 1 + (textL t d).length + 1 ≤ _
              omega
            · rw [str_open, SX.S_cat, str_shut, SX.S_cat]
              exact q1
      | .un p A, hin, ok, hc, q =>
        have hc : 1 + A.count ≤ n + 1 := hc
        refine if_f in_un ?_
        refine ⟨_, rfl, p, _, 0, _, rfl, rfl, SqT.of hin.1, atI_nat (j := 0) rfl, rfl, _, rfl, iteF ?_⟩
        refine ⟨_, rfl, p, _, 0, _, rfl, rfl, SqT.of hin.1, atI_nat (j := 0) rfl, rfl, _, rfl, iteT ?_⟩
        refine ⟨_, rfl, p, _, 1, A.v, rfl, rfl, SqT.of hin.1, rfl, A, 3, false, rfl, hin.2, ok, by omega, by omega, fun H1 s1 => ?_⟩
        have l := wr_len (T := A) ok
        have l2 : (A.heldL 3 false).length ≤ 40 * A.count + 2 := by
          have := l true
          have := l false
          unfold AT.heldL
          split
          · rw [inB_len]; omega
          · omega
        refine ⟨_, _, rfl, rfl, ?_, ?_⟩
        · rw [str_wave, SX.S_len, SX.S_len, sizeLine_eq]
          show 1 + (A.heldL 3 false).length ≤ _
          omega
        · rw [str_wave, SX.S_cat]
          exact q H1 s1
      | .two p o A B, hin, ok, hc, q =>
        have hc : 1 + A.count + B.count ≤ n + 1 := hc
        have nw : ∀ x : Str, (x = "share" ∨ x = "undo") → decide (V.str o.word = V.str x) = false := fun x hx => by
          rcases hx with rfl | rfl <;> cases o <;> decide +kernel
        refine if_f (in_op o) ?_
        refine ⟨_, rfl, p, _, 0, _, rfl, rfl, SqT.of hin.1, atI_nat (j := 0) rfl, rfl, _, rfl, if_f (nw _ (.inl rfl)) ?_⟩
        refine ⟨_, rfl, p, _, 0, _, rfl, rfl, SqT.of hin.1, atI_nat (j := 0) rfl, rfl, _, rfl, if_f (nw _ (.inr rfl)) ?_⟩
        refine ⟨_, rfl, .two p o A B, rfl, hin, fun H1 s1 => ?_⟩
        have hin1 := hin.keep (Same.tk s1)
        intro p2 np2
        have s2 := same_new (o := .dK []) np2
        refine ⟨upd_same, sgD, rfl, by decide, ?_⟩
        rw [upd_twice]
        have s3 := same_new (o := .dK (mergeK [] sgD)) np2
        have e3 : (upd H1 p2 (.dK (mergeK [] sgD))) p2 = some (.dK (mergeK [] sgD)) := upd_same
        have hin3 := hin1.keep (Same.tk s3)
        have s13 := s1.trans s3
        generalize upd H1 p2 (.dK (mergeK [] sgD)) = H3 at e3 hin3 s13
        have eg := sg_at o
        have dg : DGet H3 p2 (.str o.word) (some (.str (SX.S o.sgn))) := by
          have := DGet.k (k := Sum.inr o.word) e3
          rw [eg] at this
          exact this
        refine ⟨_, rfl, p, _, 0, _, rfl, rfl, SqT.of hin3.1, atI_nat (j := 0) rfl, p2, _, rfl, dg, ?_⟩
        have la := wr_len (T := A) ok.1
        have lb := wr_len (T := B) ok.2
        have l1 : ∀ (k : Nat) (f : Bool), (A.heldL k f).length ≤ 40 * A.count + 2 := fun k f => by
          have := la true
          have := la f
          unfold AT.heldL
          split
          · rw [inB_len]; omega
          · omega
        have l2 : ∀ (k : Nat) (f : Bool), (B.heldL k f).length ≤ 40 * B.count + 2 := fun k f => by
          have := lb true
          have := lb f
          unfold AT.heldL
          split
          · rw [inB_len]; omega
          · omega
        have ls : o.sgn.length ≤ 3 := by cases o <;> decide
        have m1 := l1 o.lev g
        have m2 := l2 (o.lev + 1) false
        refine ⟨_, rfl, p, _, 1, A.v, rfl, rfl, SqT.of hin3.1, rfl, _, rfl, _, rfl, A, o.lev, g, rfl, hin3.2.1, ok.1, by omega, by omega, fun H4 s4 => ?_⟩
        refine ⟨_, rfl, _, _, rfl, rfl, ?_, ?_⟩
        · rw [SX.S_len, SX.S_len, sizeLine_eq]; omega
        rw [SX.S_cat]
        have hin4 := hin3.keep (Same.tk s4)
        refine ⟨_, rfl, p, _, 2, B.v, rfl, rfl, SqT.of hin4.1, rfl, _, rfl, _, 1, rfl, rfl, B, o.lev + 1, false, rfl, hin4.2.2, ok.2, by omega, by omega, fun H5 s5 => ?_⟩
        refine ⟨_, _, rfl, rfl, ?_, ?_⟩
        · rw [SX.S_len, SX.S_len, sizeLine_eq, List.length_append]; omega
        · rw [SX.S_cat]
          exact q H5 ((s13.trans s4).trans s5)
end
end Nv

set_option maxRecDepth 100000
set_option maxHeartbeats 8000000
namespace Nv
open PySem PySem.Spec PyProof.Rows L2 L2H LamX
abbrev sLRun : Stmt := topS 85
abbrev sWan : Stmt := topS 88
theorem scLRun : FnScope ["_law_text", "_law_at", "_law_signs", "_law_end"] ["_law_text", "_law_at", "_law_signs"] (defScope sLRun) := ⟨rfl, rfl, rfl, by decide +kernel, rfl, by decide +kernel, by decide +kernel⟩
abbrev nWan : List Str := ["_law_text", "_law_at", "_law_first", "_law_named", "_law_sign", "_law_small", "_law_word", "_law_lead"]
theorem scWan : FnScope nWan ["_law_text", "_law_at", "_law_first", "_law_named"] (defScope sWan) := ⟨rfl, rfl, rfl, by decide +kernel, rfl, by decide +kernel, by decide +kernel⟩
def spLRun : Sp := fun vs H Q _ => ∃ (L : List Nat) (i : Nat) (z : Str), vs = [.str (SX.S L), .int (i : Int), .str z] ∧ i ≤ L.length ∧ L.length ≤ 100000 ∧ Q (.str (SX.S ((L.drop i).take (lenW (inS z) (L.drop i))))) H
/-- what the law reads where something is wanted -/
def wantL (c : Nat) (r : List Nat) (fr : Bool) : List Nat := match lexF c r fr with
  | some k => k.chars
  | none => []
def spWan : Sp := fun vs H Q _ => ∃ (L : List Nat) (i : Nat) (fr : Bool) (c : Nat) (r : List Nat), vs = [.str (SX.S L), .int (i : Int), .bl fr, .bl false] ∧ L.drop i = c :: r ∧ L.length ≤ 5000 ∧ Few L ∧ c ≠ 40 ∧ c ≠ 126 ∧ ∀ H', Same H H' → Q (.str (SX.S (wantL c r fr))) H'
section
variable {P : Program} {w : World} {K : PySem.W.Frag} {mg : Str → Option Value} {base : Heap}
theorem ok_lrun {f : Addr} {fd : FuncData} {k : Nat} (F : Fun K "_law_run" "_law_run" sLRun f fd) (B : Blt mg) : FnOk P w K mg base CX0 (k + 1) f fd ["_law_text", "_law_at", "_law_signs"] spLRun := by
  refine F.ok scLRun (fun vs H Q E h => ?_) (fun cdv A outer s H vs Q E hr h => ?_)
  · obtain ⟨L, i, z, rfl, _⟩ := h
    rfl
  · obtain ⟨L, i, z, rfl, hi, hL, q⟩ := h
    refine ⟨_, pss_cons (ps_set (i := 3) scLRun.nd rfl (.inl rfl) (pv 1))
      (pss_cons (ps_while PassesOwn.never (PW.pt (pw_and (pt_cmpR op_lt (pv 3) (pe_callB call_len_str (by rfl) B.len PySem.boot_len (pa_cons (pv 0) pa_nil)) (nomark _))
          (pw_and1 (pt_cmpR op_in_sign (pe_item_str (pv 0) (pv 3) (fun _ _ => rfl)) (pv 2) (by rfl)))))
        (pss_one (ps_set (i := 3) scLRun.nd rfl (.inl rfl) (pe_op op_add (pv 3) pe_int))))
      (pss_one (ps_ret (pe_slice sl_str (pv 0) (po_some (pv 1)) (po_some (pv 3)))))), ?_⟩
    have lb := lenW_le (inS z) (L.drop i)
    rw [List.length_drop] at lb
    have hlen : (SX.S L).length ≤ sizeLine := by rw [SX.S_len, sizeLine_eq]; omega
    refine ⟨_, rfl, ?_⟩
    refine while_by (fun σ H' => ∃ j : Nat, i ≤ j ∧ j ≤ i + lenW (inS z) (L.drop i) ∧ σ = [some (.str (SX.S L)), some (.int (i : Int)), some (.str z), some (.int (j : Int))] ∧ H' = H) (fun σ _ => match σ with
        | [_, _, _, some (.int j)] => L.length - j.toNat
        | _ => 0) ⟨i, Nat.le_refl _, Nat.le_add_right _ _, rfl, rfl⟩ (fun σ H' hP => ?_) (MonT.m ?_)
    · obtain ⟨j, l1, l2, rfl, rfl⟩ := hP
      have fin : j = i + lenW (inS z) (L.drop i) → tRet (tSl rSlS (tVar 0) (tPart (tVar 1)) (tPart (tVar 3))) { nx := fun _ H' => Q .non H', rt := Q } [some (.str (SX.S L)), some (.int (i : Int)), some (.str z), some (.int (j : Int))] H' := fun e => by
        refine ⟨_, rfl, _, rfl, _, rfl, _, rfl, _, rfl, _, rfl, hlen, ?_⟩
        rw [cut_S (by omega), show j - i = lenW (inS z) (L.drop i) by omega]
        exact q
      refine ⟨_, rfl, _, rfl, _, rfl, hlen, _, _, rfl, rfl, _, rfl, ite2 (fun c => ?_) (fun c => ?_)⟩
      · have c := of_decide_eq_true c
        rw [SX.S_len] at c
        have jl : j < L.length := by omega
        obtain ⟨ch, hch⟩ : ∃ ch, L[j]? = some ch := ⟨_, List.getElem?_eq_getElem jl⟩
        have hcp : (SX.S L).cps[(j : Int).toNat]? = some ch := by
          rw [Int.toNat_natCast]
          simpa [SX.S] using hch
        have hd : (L.drop i)[j - i]? = some ch := by rw [List.getElem?_drop, show i + (j - i) = j by omega]; exact hch
        refine ⟨_, rfl, _, rfl, _, _, ch, rfl, rfl, by omega, by omega, by rw [SX.S_len]; exact c, hcp, _, rfl, ch, z, rfl, rfl, _, rfl, ?_⟩
        rcases Nat.lt_or_eq_of_le l2 with l3 | l3
        · obtain ⟨c2, e2, e3⟩ := lenW_in (inS z) (L.drop i) (j - i) (by omega)
          rw [hd] at e2
          cases e2
          refine if_t e3 ?_
          refine ⟨_, rfl, _, _, rfl, rfl, ⟨j + 1, by omega, by omega, rfl, rfl⟩, ?_⟩
          show L.length - ((j : Int) + 1).toNat < L.length - ((j : Nat) : Int).toNat
          omega
        · have e3 := lenW_out (inS z) (L.drop i) ch (by rw [show lenW (inS z) (L.drop i) = j - i by omega]; exact hd)
          exact if_f e3 (fin l3)
      · have c : ¬ ((j : Int) < ((SX.S L).length : Int)) := fun z => c (decide_eq_true z)
        rw [SX.S_len] at c
        exact fin (by omega)
    · exact mon_and (mon_test (mon_op mon_var (mon_cb (mon_cons mon_var mon_nil) (fun x H Q Q' h ⟨z, e1, e2, q⟩ => ⟨z, e1, e2, h _ _ q⟩)) ⟨fun x y H Q Q' h ⟨i, j, e1, e2, q⟩ => ⟨i, j, e1, e2, h _ _ q⟩⟩))
        (mon_test (mon_op (mon_op mon_var mon_var ⟨fun x y H Q Q' h ⟨z, i, c, e1, e2, e3, e4, e5, e6, q⟩ => ⟨z, i, c, e1, e2, e3, e4, e5, e6, h _ _ q⟩⟩) mon_var ⟨fun x y H Q Q' h ⟨c, z, e1, e2, q⟩ => ⟨c, z, e1, e2, h _ _ q⟩⟩))
theorem wantL_let {c : Nat} {r : List Nat} {fr : Bool} (h1 : c ≠ 40) (h2 : c ≠ 126) (ha : inS zAbc c = true) : wantL c r fr = if abL (c :: r) ≤ 6 then (c :: r).take (abL (c :: r)) else [] := by
  have el : lexF c r fr = if abL (c :: r) ≤ 6 then some (.lf (.le (SX.S ((c :: r).take (abL (c :: r)))))) else none := by
    unfold lexF
    rw [if_neg h1, if_neg h2, if_pos ha]
  unfold wantL
  rw [el]
  split
  · rename_i k hk
    split at hk
    · cases hk
      rw [if_pos (by assumption)]
      rfl
    · cases hk
  · rename_i hk
    split at hk
    · cases hk
    · rw [if_neg (by assumption)]
theorem wantL_num {c : Nat} {r : List Nat} {fr : Bool} (h1 : c ≠ 40) (h2 : c ≠ 126) (ha : ¬ inS zAbc c = true) : wantL c r fr = if (readP (wordF c r fr)).isSome = true then wordF c r fr else [] := by
  have el : lexF c r fr = (readP (wordF c r fr)).map fun p => .lf (.sh p.1 p.2) := by
    unfold lexF
    rw [if_neg h1, if_neg h2, if_neg ha]
  unfold wantL
  rw [el]
  cases h : readP (wordF c r fr) with
  | none => rfl
  | some p =>
    obtain ⟨t, d⟩ := p
    exact (readP_ok h).2
theorem ok_wan {f : Addr} {fd : FuncData} (F : Fun K "_law_wanted" "_law_wanted" sWan f fd) (B : Blt mg) (GR : C8.Cal P w K mg base 1 "_law_run" spLRun []) (GS : C8.Cal P w K mg base 2 "_law_share_in" spShIn []) : FnOk P w K mg base CX0 3 f fd ["_law_text", "_law_at", "_law_first", "_law_named"] spWan := by
  refine F.ok scWan (fun vs H Q E h => ?_) (fun cdv A outer s H vs Q E hr h => ?_)
  · obtain ⟨L, i, fr, c, r, rfl, _⟩ := h
    rfl
  · obtain ⟨L, i, fr, c, r, rfl, hd, hL, fw, c40, c126, q⟩ := h
    refine ⟨_, pss_cons (ps_set (i := 4) scWan.nd rfl (.inl rfl) (pe_item_str (pv 0) (pv 1) (fun _ _ => rfl)))
      (pss_cons (ps_set (i := 5) scWan.nd rfl (.inl rfl) pe_str)
      (pss_cons (ps_if (pt_cmpR op_in_sign (pv 4) (pv 5) (by rfl))
        (pss_cons (ps_set (i := 6) scWan.nd rfl (.inl rfl) (C8.pe_c GR hr (by decide) (by rfl) (pa_cons (pv 0) (pa_cons (pv 1) (pa_cons (pv 5) pa_nil)))))
        (pss_one (ps_ret (pe_ifExp (pt_cmpR op_lt (pe_callB call_len_str (by rfl) B.len PySem.boot_len (pa_cons (pv 6) pa_nil)) pe_int (nomark _)) (pv 6) pe_str)))) pss_nil)
      (pss_cons (ps_if (PW.pt (pw_and (pt_val (pv 3)) (pw_and1 (pt_cmpR op_in_sign (pv 4) pe_str (by rfl))))) pss_never pss_nil)
      (pss_cons (ps_set (i := 7) scWan.nd rfl (.inl rfl) (pe_ifExp (PW.pt (pw_and (pt_cmpR op_eq (pv 4) pe_str (nomark _)) (pw_and1 (pt_val (pv 2))))) pe_str pe_str))
      (pss_cons (ps_set (i := 6) scWan.nd rfl (.inl rfl) (pe_op op_add_str (pv 7) (C8.pe_c GR hr (by decide) (by rfl) (pa_cons (pv 0) (pa_cons (pe_op op_add (pv 1) (pe_callB call_len_str (by rfl) B.len PySem.boot_len (pa_cons (pv 7) pa_nil))) (pa_cons pe_str pa_nil))))))
      (pss_one (ps_ret (pe_ifExp (pt_cmpR op_notN (C8.pe_c GS hr (by decide) (by rfl) (pa_cons (pv 6) pa_nil)) pe_non (nomark _)) (pv 6) pe_str)))))))), ?_⟩
    obtain ⟨hch, il⟩ := get_at hd rfl
    have hcp : (SX.S L).cps[(i : Int).toNat]? = some c := by
      rw [Int.toNat_natCast]
      simpa [SX.S] using hch
    have s0 : Same H H := fun _ _ h => h
    refine ⟨_, rfl, _, rfl, _, _, c, rfl, rfl, by omega, by omega, by rw [SX.S_len]; omega, hcp, ?_⟩
    refine ⟨_, rfl, _, rfl, c, _, rfl, rfl, _, rfl, ?_⟩
    have ll : (c :: r).length = L.length - i := by rw [← hd, List.length_drop]
    by_cases ha : inS zAbc c = true
    · refine if_t ha ?_
      have ew := wantL_let (r := r) (fr := fr) c40 c126 ha
      have hn : abL (c :: r) ≤ (c :: r).length := lenW_le _ _
      have lt : ((c :: r).take (abL (c :: r))).length = abL (c :: r) := by rw [List.length_take]; omega
      refine ⟨_, rfl, _, rfl, _, rfl, L, i, _, rfl, by omega, by omega, ?_⟩
      rw [hd, show lenW (inS (Str.ofString "abcdefghijklmnopqrstuvwxyz")) (c :: r) = abL (c :: r) from rfl]
      refine ⟨_, rfl, _, rfl, by rw [SX.S_len, lt, sizeLine_eq]; omega, _, _, rfl, rfl, _, rfl, ?_⟩
      rw [SX.S_len, lt]
      rw [ew] at q
      by_cases l6 : abL (c :: r) ≤ 6
      · rw [if_pos l6] at q
        exact ifP (by omega) ⟨_, rfl, q _ s0⟩
      · rw [if_neg l6] at q
        refine ifN (by omega) ?_
        have := q _ s0
        rw [← eE] at this
        exact this
    · refine if_f (Bool.eq_false_iff.mpr ha) ?_
      have ew := wantL_num (r := r) (fr := fr) c40 c126 ha
      refine ⟨_, rfl, false, rfl, iteF ?_⟩
      have f0 : fgL (45 :: r) = 0 := by
        unfold fgL lenW
        rw [if_neg (fun z => by have := in_fig.mp z; omega)]
      have ez : Str.ofString "0123456789/" = zFig := by decide +kernel
      have str0 : Str.ofString "" = SX.S [] := by decide +kernel
      refine iteF ?_
      have hL2 : L.length ≤ 5000 := hL
      have two : ∀ (k : Nat) (LD : List Nat), LD.length = k → k ≤ 1 → i + k ≤ L.length → LD ++ (L.drop (i + k)).take (fgL (L.drop (i + k))) = wordF c r fr → wordF c r fr = LD ++ (L.drop (i + k)).take (fgL (L.drop (i + k))) ∧ (wordF c r fr).length ≤ 801 := fun k LD l1 l2 l3 e => by
        refine ⟨e.symm, ?_⟩
        have := fw (i + k)
        rw [← e, List.length_append, List.length_take]
        omega
      obtain ⟨k, LD, l1, l2, l3, ew2, eLD⟩ : ∃ (k : Nat) (LD : List Nat), LD.length = k ∧ k ≤ 1 ∧ i + k ≤ L.length ∧ LD ++ (L.drop (i + k)).take (fgL (L.drop (i + k))) = wordF c r fr ∧ LD = (if c = 45 ∧ fr = true then [45] else []) := by
        by_cases z : c = 45 ∧ fr = true
        · refine ⟨1, [45], rfl, Nat.le_refl _, by omega, ?_, (if_pos z).symm⟩
          have e3 : L.drop (i + 1) = r := by
            obtain ⟨rfl, _⟩ := z
            exact drop_add (A := [45]) (R := r) hd
          unfold wordF
          rw [if_pos z, e3]
          rfl
        · refine ⟨0, [], rfl, by omega, by omega, ?_, (if_neg z).symm⟩
          unfold wordF
          rw [if_neg z, Nat.add_zero, hd]
          rfl
      have wl := (two k LD l1 l2 l3 ew2).2
      refine keepN (fun σ' H' => σ' = [some (.str (SX.S L)), some (.int (i : Int)), some (.bl fr), some (.bl false), some (.str ⟨#[c]⟩), some (.str "abcdefghijklmnopqrstuvwxyz"), none, some (.str (SX.S LD))] ∧ H' = H) (fun σ' H' hM => ?_) (fun rest => ?_)
      · obtain ⟨rfl, rfl⟩ := hM
        refine ⟨_, rfl, _, rfl, _, rfl, _, rfl, _, rfl, by rw [SX.S_len, sizeLine_eq]; omega, _, _, rfl, rfl, L, i + k, zFig, ?_, l3, by omega, ?_⟩
        · rw [ez, SX.S_len, l1]
          rfl
        rw [show lenW (inS zFig) (L.drop (i + k)) = fgL (L.drop (i + k)) from rfl]
        have lt : ((L.drop (i + k)).take (fgL (L.drop (i + k)))).length ≤ 800 := by
          have := fw (i + k)
          rw [List.length_take]
          omega
        refine ⟨_, _, rfl, rfl, by rw [SX.S_len, SX.S_len, sizeLine_eq]; omega, ?_⟩
        rw [SX.S_cat, ew2]
        refine ⟨_, rfl, wordF c r fr, rfl, by omega, fun t d hr2 p H1 s1 np ep => ?_, fun hr2 H1 s1 => ?_⟩
        · rw [← read_same] at hr2
          refine ⟨rfl, _, rfl, iteT ⟨_, rfl, ?_⟩⟩
          rw [ew, hr2] at q
          exact q _ s1
        · rw [← read_same] at hr2
          refine ⟨rfl, _, rfl, iteF ?_⟩
          rw [ew, hr2] at q
          have := q _ s1
          rw [show (if (none : Option (Int × Int)).isSome = true then wordF c r fr else []) = [] from rfl, ← str0] at this
          exact this
      · refine ⟨_, rfl, rfl, _, rfl, ?_⟩
        by_cases z : c = 45
        · subst z
          refine ifP rfl ⟨_, rfl, fr, rfl, ?_⟩
          cases fr with
          | true =>
            refine iteT (rest _ _ ⟨?_, rfl⟩)
            rw [eLD, if_pos ⟨rfl, rfl⟩, ← str_minus]
            rfl
          | false =>
            refine iteF (rest _ _ ⟨?_, rfl⟩)
            rw [eLD, if_neg (fun z => by cases z.2), ← str0]
            rfl
        · refine ifN (fun y => z ?_) (rest _ _ ⟨?_, rfl⟩)
          · have e4 : (⟨#[c]⟩ : Str) = SX.S [45] := (V.str.inj y).trans (by decide +kernel)
            exact List.head_eq_of_cons_eq (congrArg TL.tl e4)
          · rw [eLD, if_neg (fun y => z y.1), ← str0]
            rfl
end
end Nv

set_option maxRecDepth 100000
set_option maxHeartbeats 8000000
namespace Nv
open PySem PySem.Spec PyProof.Rows L2 L2H LamX
abbrev sRdA : Stmt := topS 89
abbrev nRdA : List Str := ["_law_text", "_law_named", "_law_at", "_law_wants", "_law_first", "_law_deep", "_law_many", "_law_sign", "_law_word"]
theorem scRdA : FnScope nRdA ["_law_text", "_law_named"] (defScope sRdA) := ⟨rfl, rfl, rfl, by decide +kernel, rfl, by decide +kernel, by decide +kernel⟩
/-- the law's refusals -/
def noAt (H : Hp) (Q : VK) (j : Nat) : Prop := ∀ (p : Addr) (H' : Hp), Same H H' → H p = none → H' p = some (.tup [.str "no", .str "BadText", .int (j : Int)]) → Q (.ref p) H'
def noMany (H : Hp) (Q : VK) : Prop := ∀ (p : Addr) (H' : Hp), Same H H' → H p = none → H' p = some (.tup [.str "no", .str "BadTerm", .str "many"]) → Q (.ref p) H'
def spRdA : Sp := fun vs H Q _ => ∃ L : List Nat, vs = [.str (SX.S L), .bl false] ∧ L.length ≤ 5000 ∧ Few L ∧ (∀ j, GG L 0 init = .inl j → noAt H Q j) ∧
  ∀ F, GG L 0 init = .inr F → RInv F → (24 < F.many → noMany H Q) ∧ (F.many ≤ 24 → ∀ H', Same H H' → Q .non H')
/-- where something is wanted and no bracket nor wave stands -/
theorem nxt_lf {D : List Pc} {W : List Wd} {br : Nat} {fr : Bool} {c : Nat} {r : List Nat} (h1 : c ≠ 40) (h2 : c ≠ 126) : (wantL c r fr = [] ∧ nxt ⟨false, D, W, br, fr⟩ c r = none) ∨
    ∃ l, wantL c r fr = l.chars ∧ l.chars ≠ [] ∧ nxt ⟨false, D, W, br, fr⟩ c r = some (.lf l, ⟨true, D ++ [.lf l], W, br, false⟩) := by
  have en : nxt ⟨false, D, W, br, fr⟩ c r = (lexF c r fr).bind fun k => ((RS.mk false D W br fr).step k).map fun S' => (k, S') := rfl
  cases hl : lexF c r fr with
  | none =>
    refine .inl ⟨?_, by rw [en, hl]; rfl⟩
    unfold wantL
    rw [hl]
  | some k =>
    obtain ⟨ok, n1, _⟩ := lexF_ok hl
    have hw : wantL c r fr = k.chars := by
      unfold wantL
      rw [hl]
    obtain ⟨l, rfl, hneg⟩ : ∃ l, k = .lf l ∧ (l.neg = true → fr = true) := by
      unfold lexF at hl
      rw [if_neg h1, if_neg h2] at hl
      split at hl
      · split at hl
        · cases hl
          exact ⟨_, rfl, fun z => Bool.noConfusion z⟩
        · cases hl
      · obtain ⟨⟨t, d⟩, e1, e2⟩ := Option.map_eq_some_iff.mp hl
        cases e2
        exact ⟨_, rfl, fun z => word_neg e1 (of_decide_eq_true z)⟩
    refine .inr ⟨l, hw, fun z => ?_, ?_⟩
    · have : (Tk.lf l).chars.length = 0 := by
        show l.chars.length = 0
        rw [z]; rfl
      omega
    · rw [en, hl]
      show ((RS.mk false D W br fr).step (.lf l)).map (fun S' => (Tk.lf l, S')) = _
      rw [step_lf hneg]
      rfl
def cntK : Tk → Nat
  | .opn => 0
  | .sht => 0
  | _ => 1
def mRdA (n : Nat) (σ : L2.St) (_ : Hp) : Nat := match σ with
  | [_, _, some (.int j), _, _, _, _, _, _] => n - j.toNat
  | _ => 0
theorem in_ops (c : Nat) : decide (c ∈ (Str.ofString "+-*").cps.toList) = (opT c).isSome := by
  have e : (Str.ofString "+-*").cps.toList = [43, 45, 42] := by decide +kernel
  rw [e]
  unfold opT
  by_cases h1 : c = 43
  · subst h1; rfl
  by_cases h2 : c = 45
  · subst h2; rfl
  by_cases h3 : c = 42
  · subst h3; rfl
  rw [if_neg h1, if_neg h2, if_neg h3]
  exact decide_eq_false (by simp [h1, h2, h3])
section
variable {P : Program} {w : World} {K : PySem.W.Frag} {mg : Str → Option Value} {base : Heap}
theorem ok_rda {f : Addr} {fd : FuncData} (F : Fun K "_law_read_at" "_law_read_at" sRdA f fd) (B : Blt mg) (GW : C8.Cal P w K mg base 3 "_law_wanted" spWan []) : FnOk P w K mg base CX0 4 f fd ["_law_text", "_law_named"] spRdA := by
  refine F.ok scRdA (fun vs H Q E h => ?_) (fun cdv A outer s H vs Q E hr h => ?_)
  · obtain ⟨L, rfl, _⟩ := h
    rfl
  · obtain ⟨L, rfl, hL, fw, qe, q⟩ := h
    refine ⟨_, (pss_cons (ps_asg (pe_tup (pa_cons pe_int (pa_cons pe_bl (pa_cons pe_bl (pa_cons pe_int (pa_cons pe_int pa_nil)))))) (pg_tup rfl (pgs_cons (pg_name (i := 2) scRdA.nd rfl (.inl rfl)) (pgs_cons (pg_name (i := 3) scRdA.nd rfl (.inl rfl)) (pgs_cons (pg_name (i := 4) scRdA.nd rfl (.inl rfl)) (pgs_cons (pg_name (i := 5) scRdA.nd rfl (.inl rfl)) (pgs_cons (pg_name (i := 6) scRdA.nd rfl (.inl rfl)) pgs_nil)))))))
 (pss_cons (ps_while PassesOwn.never (pt_cmpR op_lt (pv 2) (pe_callB call_len_str (by rfl) B.len PySem.boot_len (pa_cons (pv 0) pa_nil)) (nomark _)) (pss_cons (ps_set (i := 7) scRdA.nd rfl (.inl rfl) (pe_item_str (pv 0) (pv 2) (fun _ _ => rfl)))
 (pss_one (ps_if (pt_cmpR op_eq (pv 7) pe_str (nomark _)) (pss_one (ps_set (i := 2) scRdA.nd rfl (.inl rfl) (pe_op op_add (pv 2) pe_int))) (pss_one (ps_if (PW.pt (pw_and (pt_val (pv 3)) (pw_and1 (pt_cmpR op_eq (pv 7) pe_str (nomark _))))) (pss_cons (ps_par3 (i := 5) (j := 2) (l := 4) (by rfl) scRdA.nd rfl rfl rfl (by decide) (by decide) (by decide) rfl rfl rfl (pa_cons (pe_op op_add (pv 5) pe_int) (pa_cons (pe_op op_add (pv 2) pe_int) (pa_cons pe_bl pa_nil))) (by rfl))
 (pss_one (ps_if (pt_cmpR op_gt (pv 5) pe_int (nomark _)) (pss_one (ps_ret (pe_tup (pa_cons pe_str (pa_cons pe_str (pa_cons (pe_op op_sub (pv 2) pe_int) pa_nil)))))) pss_nil))) (pss_one (ps_if (PW.pt (pw_and (pt_val (pv 3)) (pw_and1 (pt_cmpR op_eq (pv 7) pe_str (nomark _))))) (pss_one (ps_par3 (i := 2) (j := 4) (l := 6) (by rfl) scRdA.nd rfl rfl rfl (by decide) (by decide) (by decide) rfl rfl rfl (pa_cons (pe_op op_add (pv 2) pe_int) (pa_cons pe_bl (pa_cons (pe_op op_add (pv 6) pe_int) pa_nil))) (by rfl))) (pss_one (ps_if (pt_val (pv 3)) (pss_cons (ps_set (i := 8) scRdA.nd rfl (.inl rfl) (C8.pe_c GW hr (by decide) (by rfl) (pa_cons (pv 0) (pa_cons (pv 2) (pa_cons (pv 4) (pa_cons (pv 1) pa_nil))))))
 (pss_cons (ps_if (pt_cmpR op_eq (pv 8) pe_str (nomark _)) (pss_one (ps_ret (pe_tup (pa_cons pe_str (pa_cons pe_str (pa_cons (pv 2) pa_nil)))))) pss_nil)
 (pss_one (ps_asg (pe_tup (pa_cons (pe_op op_add (pv 2) (pe_callB call_len_str (by rfl) B.len PySem.boot_len (pa_cons (pv 8) pa_nil))) (pa_cons pe_bl (pa_cons pe_bl (pa_cons (pe_op op_add (pv 6) pe_int) pa_nil))))) (pg_tup rfl (pgs_cons (pg_name (i := 2) scRdA.nd rfl (.inl rfl)) (pgs_cons (pg_name (i := 3) scRdA.nd rfl (.inl rfl)) (pgs_cons (pg_name (i := 4) scRdA.nd rfl (.inl rfl)) (pgs_cons (pg_name (i := 6) scRdA.nd rfl (.inl rfl)) pgs_nil))))))))) (pss_one (ps_if (PW.pt (pw_and (pt_cmpR op_eq (pv 7) pe_str (nomark _)) (pw_and1 (pt_cmpR op_gt (pv 5) pe_int (nomark _))))) (pss_one (ps_par (i := 5) (j := 2) (by rfl) scRdA.nd rfl rfl (by decide) rfl rfl (pa_cons (pe_op op_sub (pv 5) pe_int) (pa_cons (pe_op op_add (pv 2) pe_int) pa_nil)) (by rfl))) (pss_one (ps_if (pt_cmpR op_in_sign (pv 7) pe_str (by rfl)) (pss_one (ps_par3 (i := 2) (j := 3) (l := 6) (by rfl) scRdA.nd rfl rfl rfl (by decide) (by decide) (by decide) rfl rfl rfl (pa_cons (pe_op op_add (pv 2) pe_int) (pa_cons pe_bl (pa_cons (pe_op op_add (pv 6) pe_int) pa_nil))) (by rfl))) (pss_one (ps_ret (pe_tup (pa_cons pe_str (pa_cons pe_str (pa_cons (pv 2) pa_nil))))))))))))))))))))
 (pss_cons (ps_if (PW.pt (pw_or (pt_val (pv 3)) (pw_or1 (pt_cmpR op_gt (pv 5) pe_int (nomark _))))) (pss_one (ps_ret (pe_tup (pa_cons pe_str (pa_cons pe_str (pa_cons (pe_callB call_len_str (by rfl) B.len PySem.boot_len (pa_cons (pv 0) pa_nil)) pa_nil)))))) pss_nil)
 (pss_one (ps_ret (pe_ifExp (pt_cmpR op_gt (pv 6) pe_int (nomark _)) (pe_tup (pa_cons pe_str (pa_cons pe_str (pa_cons pe_str pa_nil)))) pe_non)))))), ?_⟩
    have hlen : (SX.S L).length ≤ sizeLine := by rw [SX.S_len, sizeLine_eq]; omega
    refine ⟨(by show 5 ≤ sizeLine; decide), fun p0 np0 => ?_⟩
    have s0 := same_new (o := .tup [.int 0, .bl true, .bl true, .int 0, .int 0]) np0
    refine ⟨p0, _, rfl, SqT.of upd_same, rfl, _, _, rfl, _, _, rfl, _, _, rfl, _, _, rfl, _, _, rfl, rfl, ?_⟩
    generalize upd H p0 (.tup [.int 0, .bl true, .bl true, .int 0, .int 0]) = H0 at s0
    refine while_by (fun σ H' => ∃ (i : Nat) (S : RS) (y7 y8 : Option V), σ = [some (.str (SX.S L)), some (.bl false), some (.int (i : Int)), some (.bl (!S.st)), some (.bl S.fr), some (.int (S.br : Int)), some (.int (S.many : Int)), y7, y8] ∧ Same H H' ∧ i ≤ L.length ∧ RInv S ∧ GG (L.drop i) i S = GG L 0 init)
      (mRdA L.length) ⟨0, init, none, none, rfl, s0, Nat.zero_le _, rinv0, rfl⟩ (fun σ H1 hP => ?_) (MonT.m ?_)
    · obtain ⟨i, S, y7, y8, rfl, s1, hi, ri, eg⟩ := hP
      -- a turn
      have next : ∀ (j : Nat) (S2 : RS) (y7 y8 : Option V) (H2 : Hp), i < j → j ≤ L.length → RInv S2 → GG (L.drop j) j S2 = GG L 0 init → Same H1 H2 →
          (∃ (i : Nat) (S : RS) (y7' y8' : Option V), [some (V.str (SX.S L)), some (.bl false), some (.int (j : Int)), some (.bl (!S2.st)), some (.bl S2.fr), some (.int (S2.br : Int)), some (.int (S2.many : Int)), y7, y8] = [some (.str (SX.S L)), some (.bl false), some (.int (i : Int)), some (.bl (!S.st)), some (.bl S.fr), some (.int (S.br : Int)), some (.int (S.many : Int)), y7', y8'] ∧ Same H H2 ∧ i ≤ L.length ∧ RInv S ∧ GG (L.drop i) i S = GG L 0 init) ∧
          mRdA L.length [some (V.str (SX.S L)), some (.bl false), some (.int (j : Int)), some (.bl (!S2.st)), some (.bl S2.fr), some (.int (S2.br : Int)), some (.int (S2.many : Int)), y7, y8] H2 < mRdA L.length [some (V.str (SX.S L)), some (.bl false), some (.int (i : Int)), some (.bl (!S.st)), some (.bl S.fr), some (.int (S.br : Int)), some (.int (S.many : Int)), (none : Option V), none] H1 := fun j S2 y7 y8 H2 h1 h2 h3 h4 h5 => by
        refine ⟨⟨j, S2, y7, y8, rfl, s1.trans h5, h2, h3, h4⟩, ?_⟩
        show L.length - ((j : Nat) : Int).toNat < L.length - ((i : Nat) : Int).toNat
        omega
      have refuse : ∀ j : Nat, GG L 0 init = .inl j → ∀ p, H1 p = none → Q (.ref p) (upd H1 p (.tup [.str "no", .str "BadText", .int (j : Int)])) := fun j ej p np => qe j ej p _ (s1.trans (same_new np)) (s1.free np) upd_same
      refine ⟨_, rfl, _, rfl, _, rfl, hlen, _, _, rfl, rfl, _, rfl, ite2 (fun c => ?_) (fun c => ?_)⟩
      · have c := of_decide_eq_true c
        rw [SX.S_len] at c
        have il : i < L.length := by omega
        obtain ⟨ch, r, hd⟩ : ∃ ch r, L.drop i = ch :: r := by
          cases hd : L.drop i with
          | nil =>
            have := congrArg List.length hd
            rw [List.length_drop, List.length_nil] at this
            omega
          | cons c r => exact ⟨c, r, rfl⟩
        obtain ⟨hch, _⟩ := get_at hd rfl
        have hcp : (SX.S L).cps[(i : Int).toNat]? = some ch := by
          rw [Int.toNat_natCast]
          simpa [SX.S] using hch
        refine ⟨_, rfl, _, rfl, _, _, ch, rfl, rfl, by omega, by omega, by rw [SX.S_len]; omega, hcp, ?_⟩
        refine ⟨_, rfl, rfl, _, rfl, ?_⟩
        rw [hd] at eg
        by_cases c32 : ch = 32
        · subst c32
          refine ifP ((sg_eq (by decide +kernel)).mpr rfl) ?_
          refine ⟨_, rfl, _, _, rfl, rfl, ?_⟩
          refine next (i + 1) S _ _ H1 (by omega) (by omega) ri ?_ (fun _ _ h => h)
          rw [GG_bl] at eg
          rw [← eg, drop_tok hd (Nat.le_refl 1)]
          rfl
        refine ifN (fun z => c32 ((sg_eq (by decide +kernel)).mp z)) ?_
        -- what a sign leads to
        have step : ∀ (k : Tk) (S2 : RS), nxt S ch r = some (k, S2) → i + k.chars.length ≤ L.length ∧ RInv S2 ∧ GG (L.drop (i + k.chars.length)) (i + k.chars.length) S2 = GG L 0 init ∧ i < i + k.chars.length ∧ S2.many = S.many + cntK k := fun k S2 hn => by
          obtain ⟨ok, hs, n1, ec⟩ := nxt_ok hn
          obtain ⟨ri2, hm2⟩ := step_inv ri ok hs
          have hl := drop_len (A := k.chars) (by rw [hd]; exact ec) hi
          exact ⟨hl, ri2, by rw [← eg, GG_tok c32 hn, drop_tok hd n1], by omega, by cases k <;> exact hm2⟩
        obtain ⟨st0, D0, W0, br0, fr0⟩ := S
        have br12 : br0 ≤ 12 := ri.few
        cases st0 with
        | false =>
          refine ⟨_, rfl, true, rfl, iteT ?_⟩
          refine ⟨_, rfl, rfl, _, rfl, ?_⟩
          by_cases c40 : ch = 40
          · subst c40
            refine ifP ((sg_eq str_open).mpr rfl) ?_
            refine ⟨_, rfl, _, _, rfl, rfl, _, rfl, _, _, rfl, rfl, _, _, _, rfl, ?_⟩
            refine ⟨_, rfl, _, _, rfl, rfl, _, rfl, ?_⟩
            have en : nxt ⟨false, D0, W0, br0, fr0⟩ 40 r = (if br0 < 12 then some (⟨false, D0, .br :: W0, br0 + 1, true⟩ : RS) else none).map fun S' => (Tk.opn, S') := rfl
            by_cases hb : br0 < 12
            · rw [if_pos hb] at en
              obtain ⟨a1, a2, a3, a4, a5⟩ := step .opn _ en
              refine ifN (show ¬ (12 : Int) < (br0 : Int) + 1 by omega) ?_
              have z := next (i + 1) _ (some (.str ⟨#[40]⟩)) y8 H1 a4 a1 a2 a3 (fun _ _ h => h)
              rw [a5] at z
              exact z
            · rw [if_neg hb] at en
              refine ifP (show (12 : Int) < (br0 : Int) + 1 by omega) ?_
              refine ⟨_, rfl, _, _, rfl, rfl, (by show 3 ≤ sizeLine; decide), fun p np => ?_⟩
              have := refuse i (by rw [← eg, GG_err c32 en]) p np
              show Q (.ref p) (upd H1 p (.tup [.str "no", .str "BadText", .int ((i : Int) + 1 - 1)]))
              rw [show ((i : Int) + 1 - 1) = (i : Int) by omega]
              exact this
          refine ifN (fun z => c40 ((sg_eq str_open).mp z)) ?_
          refine ⟨_, rfl, true, rfl, iteT ?_⟩
          refine ⟨_, rfl, rfl, _, rfl, ?_⟩
          by_cases c126 : ch = 126
          · subst c126
            refine ifP ((sg_eq str_wave).mpr rfl) ?_
            have en : nxt ⟨false, D0, W0, br0, fr0⟩ 126 r = some (.wav, ⟨false, D0, .undo :: W0, br0, false⟩) := rfl
            obtain ⟨a1, a2, a3, a4, a5⟩ := step .wav _ en
            refine ⟨_, rfl, _, _, rfl, rfl, _, rfl, _, _, rfl, rfl, _, _, _, rfl, ?_⟩
            have z := next (i + 1) _ (some (.str ⟨#[126]⟩)) y8 H1 a4 a1 a2 a3 (fun _ _ h => h)
            rw [a5] at z
            exact z
          refine ifN (fun z => c126 ((sg_eq str_wave).mp z)) ?_
          refine ⟨_, rfl, true, rfl, iteT ?_⟩
          refine ⟨_, rfl, _, rfl, _, rfl, _, rfl, L, i, fr0, ch, r, rfl, hd, hL, fw, c40, c126, fun H2 s2 => ?_⟩
          rcases nxt_lf (D := D0) (W := W0) (br := br0) (fr := fr0) (r := r) c40 c126 with ⟨e1, en⟩ | ⟨l, e1, ne, en⟩
          · rw [e1]
            refine ⟨_, rfl, rfl, _, rfl, ifP (by rw [← eE]; rfl) ?_⟩
            refine ⟨_, rfl, (by show 3 ≤ sizeLine; decide), fun p np => ?_⟩
            exact qe i (by rw [← eg, GG_err c32 en]) p _ ((s1.trans s2).trans (same_new np)) ((s1.trans s2).free np) upd_same
          · rw [e1]
            obtain ⟨a1, a2, a3, a4, a5⟩ := step (.lf l) _ en
            have a1 : i + l.chars.length ≤ L.length := a1
            refine ⟨_, rfl, rfl, _, rfl, ifN (fun z => ne ?_) ?_⟩
            · have e3 : SX.S l.chars = SX.S [] := (V.str.inj z).trans (by decide +kernel)
              exact congrArg TL.tl e3
            refine ⟨_, rfl, _, rfl, _, rfl, by rw [SX.S_len, sizeLine_eq]; omega, _, _, rfl, rfl, _, rfl, _, _, rfl, rfl, (by show 4 ≤ sizeLine; decide), fun p np => ?_⟩
            rw [SX.S_len]
            have sp := same_new (o := .tup [.int ((i : Int) + (l.chars.length : Int)), .bl false, .bl false, .int (((RS.mk false D0 W0 br0 fr0).many : Int) + 1)]) np
            refine ⟨p, _, rfl, SqT.of upd_same, rfl, _, _, rfl, _, _, rfl, _, _, rfl, _, _, rfl, rfl, ?_⟩
            have z := next (i + l.chars.length) _ (some (.str ⟨#[ch]⟩)) (some (.str (SX.S l.chars))) _ a4 a1 a2 a3 (s2.trans sp)
            rw [a5] at z
            exact z
        | true =>
          refine ⟨_, rfl, false, rfl, iteF ?_⟩
          refine ⟨_, rfl, false, rfl, iteF ?_⟩
          refine ⟨_, rfl, false, rfl, iteF ?_⟩
          refine ⟨_, rfl, rfl, _, rfl, ?_⟩
          have en : nxt ⟨true, D0, W0, br0, fr0⟩ ch r = (lexT ch).bind fun k => ((RS.mk true D0 W0 br0 fr0).step k).map fun S' => (k, S') := rfl
          by_cases c41 : ch = 41
          · subst c41
            refine ifP ((sg_eq str_shut).mpr rfl) ?_
            by_cases hb : 0 < br0
            · obtain ⟨D1, W1, es⟩ := settle_br D0 (show 0 < brN W0 by have : brN W0 = br0 := ri.brs; omega)
              have e3 : (RS.mk true D0 W0 br0 fr0).step .sht = some ⟨true, D1, W1, br0 - 1, fr0⟩ := by
                show (if 0 < br0 then (match settle 1 D0 W0 with
                  | (D2, .br :: W2) => some (⟨true, D2, W2, br0 - 1, fr0⟩ : RS)
                  | _ => none) else none) = _
                rw [if_pos hb, es]
              have en2 : nxt ⟨true, D0, W0, br0, fr0⟩ 41 r = some (.sht, ⟨true, D1, W1, br0 - 1, fr0⟩) := by
                rw [en]
                show ((RS.mk true D0 W0 br0 fr0).step .sht).map (fun S' => (Tk.sht, S')) = _
                rw [e3]
                rfl
              obtain ⟨a1, a2, a3, a4, a5⟩ := step .sht _ en2
              refine ⟨_, rfl, _, _, rfl, rfl, _, rfl, ifP (show (0 : Int) < (br0 : Int) by omega) ?_⟩
              refine ⟨_, rfl, _, _, rfl, rfl, _, rfl, _, _, rfl, rfl, _, _, rfl, ?_⟩
              have z := next (i + 1) _ (some (.str ⟨#[41]⟩)) y8 H1 a4 a1 a2 a3 (fun _ _ h => h)
              rw [a5] at z
              have eB : ((br0 - 1 : Nat) : Int) = (br0 : Int) - 1 := by omega
              have z2 := z
              rw [show (RS.mk true D1 W1 (br0 - 1) fr0).br = br0 - 1 from rfl, eB] at z2
              exact z2
            · refine ⟨_, rfl, _, _, rfl, rfl, _, rfl, ifN (show ¬ (0 : Int) < (br0 : Int) by omega) ?_⟩
              have e3 : (RS.mk true D0 W0 br0 fr0).step .sht = none := if_neg hb
              have no : nxt ⟨true, D0, W0, br0, fr0⟩ 41 r = none := by
                rw [en]
                show ((RS.mk true D0 W0 br0 fr0).step .sht).map (fun S' => (Tk.sht, S')) = none
                rw [e3]
                rfl
              refine ⟨_, rfl, 41, _, rfl, rfl, _, rfl, if_f (by rw [in_ops]; rfl) ?_⟩
              exact ⟨_, rfl, (by show 3 ≤ sizeLine; decide), fun p np => refuse i (by rw [← eg, GG_err c32 no]) p np⟩
          refine ifN (fun z => c41 ((sg_eq str_shut).mp z)) ?_
          have el : lexT ch = (opT ch).map .op := if_neg c41
          rw [el] at en
          refine ⟨_, rfl, ch, _, rfl, rfl, _, rfl, ?_⟩
          rw [in_ops]
          cases ho : opT ch with
          | none =>
            have no : nxt ⟨true, D0, W0, br0, fr0⟩ ch r = none := by rw [en, ho]; rfl
            refine iteF ?_
            exact ⟨_, rfl, (by show 3 ≤ sizeLine; decide), fun p np => refuse i (by rw [← eg, GG_err c32 no]) p np⟩
          | some o =>
            rw [ho] at en
            have en2 : nxt ⟨true, D0, W0, br0, fr0⟩ ch r = some (.op o, ⟨false, (settle o.lev D0 W0).1, .op o :: (settle o.lev D0 W0).2, br0, fr0⟩) := en
            obtain ⟨a1, a2, a3, a4, a5⟩ := step (.op o) _ en2
            refine iteT ?_
            refine ⟨_, rfl, _, _, rfl, rfl, _, rfl, _, _, rfl, rfl, _, _, _, rfl, ?_⟩
            have z := next (i + 1) _ (some (.str ⟨#[ch]⟩)) y8 H1 a4 a1 a2 a3 (fun _ _ h => h)
            rw [a5] at z
            exact z
      · have c : ¬ (i : Int) < ((SX.S L).length : Int) := fun z => c (decide_eq_true z)
        rw [SX.S_len] at c
        have ie : i = L.length := by omega
        rw [ie, List.drop_length, GG_nil] at eg
        refine ⟨_, rfl, !S.st, rfl, ?_⟩
        cases hs : S.st with
        | false =>
          rw [hs, if_neg (fun z => by cases z.1)] at eg
          refine iteT (iteT ?_)
          refine ⟨_, rfl, _, rfl, hlen, (by show 3 ≤ sizeLine; decide), fun p np => ?_⟩
          rw [SX.S_len]
          exact refuse _ eg.symm p np
        | true =>
          rw [hs] at eg
          refine iteF ⟨_, rfl, _, _, rfl, rfl, _, rfl, ite2 (fun cb => ?_) (fun cb => ?_)⟩
          · have cb : (0 : Int) < (S.br : Int) := of_decide_eq_true cb
            rw [if_neg (fun z => by have := z.2; omega)] at eg
            refine ⟨_, rfl, _, rfl, hlen, (by show 3 ≤ sizeLine; decide), fun p np => ?_⟩
            rw [SX.S_len]
            exact refuse _ eg.symm p np
          · have cb : ¬ (0 : Int) < (S.br : Int) := fun z => cb (decide_eq_true z)
            rw [if_pos ⟨rfl, by omega⟩] at eg
            obtain ⟨q1, q2⟩ := q S eg.symm ri
            refine ⟨_, rfl, _, _, rfl, rfl, _, rfl, ite2 (fun c24 => ?_) (fun c24 => ?_)⟩
            · have c24 : (24 : Int) < (S.many : Int) := of_decide_eq_true c24
              exact ⟨(by show 3 ≤ sizeLine; decide), fun p np => q1 (by omega) p _ (s1.trans (same_new np)) (s1.free np) upd_same⟩
            · have c24 : ¬ (24 : Int) < (S.many : Int) := fun z => c24 (decide_eq_true z)
              exact q2 (by omega) _ s1
    · exact mon_test (mon_op mon_var (mon_cb (mon_cons mon_var mon_nil) (fun x H Q Q' h ⟨z, e1, e2, q⟩ => ⟨z, e1, e2, h _ _ q⟩)) ⟨fun x y H Q Q' h ⟨i, j, e1, e2, q⟩ => ⟨i, j, e1, e2, h _ _ q⟩⟩)
end
end Nv

set_option maxRecDepth 100000
set_option maxHeartbeats 4000000
namespace Nv
open PySem PySem.Spec PyProof.Rows L2
/-- the signs of a text, each by itself -/
def signsV (z : Str) : List V := z.cps.toList.map fun c => V.str ⟨#[c]⟩
section
variable {X : Cx}
/-- list(text) -/
theorem call_list_txt (hc : X.calm = true) : CallR X (.type "list") (fun xs H Q => ∃ z : Str, xs = [.str z] ∧ z.length ≤ sizeLine ∧ ∀ q, H q = none → Q (.ref q) (upd H q (.lst (signsV z)))) := by
  intro pins s σ H xs us Q I r h
  obtain ⟨z, rfl, hz, q⟩ := h
  obtain ⟨u, rfl, t, rfl⟩ : ∃ u, us = [u] ∧ RelV (.str z) u := by
    cases r with
    | cons p q => cases q; exact ⟨_, rfl, p⟩
  refine call_list_str (hn := hz) (I.ok.hd hc) z t fun h' tk acc c' hk e hi => ?_
  refine ⟨.ref s.heap.objs.size, upd H s.heap.objs.size (.lst (signsV z)), I.laid hk (Nat.le_refl _) ⟨by unfold signsV; rw [List.length_map]; exact hz, acc.toList, c', ?_, by rw [Array.toArray_toList]; exact e⟩, rfl, q _ (I.hok.fresh (Nat.le_refl _))⟩
  refine vals_of_idx _ _ (by unfold signsV; rw [List.length_map, Array.length_toList]; exact hi.1) fun j u hj => ?_
  obtain ⟨c, t', hc, rfl⟩ := hi.2 j u (by rw [← Array.getElem?_toList]; exact hj)
  exact ⟨.str ⟨#[c]⟩, by unfold signsV; rw [List.getElem?_map, Array.getElem?_toList, hc]; rfl, ⟨_, rfl⟩⟩
/-- a text so many times -/
def repL (L : List Nat) (n : Nat) : List Nat := (List.replicate n L).flatten
theorem fold_app : ∀ (n : Nat) (a b : Array Nat), ((List.replicate n a).foldl (· ++ ·) b).toList = b.toList ++ (List.replicate n a.toList).flatten
  | 0, a, b => by simp
  | n + 1, a, b => by
    rw [List.replicate_succ, List.foldl_cons, fold_app n a, Array.toList_append, List.replicate_succ, List.flatten_cons, List.append_assoc]
theorem op_mul_str : OpR X (binaryOp .Mult) (fun x y H Q => ∃ (L : List Nat) (n : Nat), x = .str (SX.S L) ∧ y = .int (n : Int) ∧ n ≤ 5000 ∧ L.length ≤ 1000 ∧ Q (.str (SX.S (repL L n))) H) := by
  intro pins s σ H x y v u Q I rx ry h
  obtain ⟨L, n, rfl, rfl, h2, h3, q⟩ := h
  obtain ⟨t, rfl⟩ := rx
  obtain ⟨t', rfl⟩ := ry
  have hm : L.length * n ≤ 5000000 := Nat.mul_le_mul h3 h2
  rcases Nat.eq_zero_or_pos n with rfl | h1
  · refine PySem.P.mul_str_none (by decide) (by decide) ⟨.str (SX.S (repL L 0)), H, I.tok _, ⟨s.toks, congrArg (fun z => Value.str z s.toks) (show Str.empty = SX.S (repL L 0) from (by decide +kernel : Str.empty = SX.S []))⟩, q⟩
  have n1 : ¬ (n : Int) < 1 := by omega
  have hn : (n : Int).toNat = n := Int.toNat_natCast n
  refine PySem.P.mul_str ?_ (fun _ _ => ?_) (fun _ _ => ?_) ?_
  · rw [decide_eq_false (by omega), decide_eq_false (by omega)]; rfl
  · rw [SX.S_len]
    intro z
    have : (L.length : Int) * (n : Int) > 5000000 := by
      have e := Int.lt_mul_of_ediv_lt (show (0 : Int) < (n : Int) by omega) z
      omega
    have e2 : ((L.length * n : Nat) : Int) = (L.length : Int) * (n : Int) := Int.natCast_mul ..
    omega
  · rw [SX.S_len, hn]
    exact decide_eq_false (by rw [sizeLine_eq]; omega)
  · rw [if_neg n1, SX.S_len]
    split
    · rename_i e
      refine ⟨.str (SX.S (repL L n)), H, I, ?_, q⟩
      have er : repL L n = L := by
        rcases Bool.or_eq_true _ _ ▸ e with e | e
        · have : n = 1 := by have := eq_of_beq e; omega
          rw [this]
          simp [repL]
        · have e0 : L = [] := List.length_eq_zero_iff.mp (eq_of_beq e)
          rw [e0]
          simp [repL]
      rw [er]
      exact ⟨_, rfl⟩
    · have er : (⟨(List.replicate (n : Int).toNat (SX.S L).cps).foldl (· ++ ·) #[]⟩ : Str) = SX.S (repL L n) := by
        refine TL.ext_tl ?_
        show ((List.replicate (n : Int).toNat (SX.S L).cps).foldl (· ++ ·) #[]).toList = repL L n
        rw [hn, fold_app]
        simp [SX.S, repL]
      rw [er]
      refine ⟨?_, .str (SX.S (repL L n)), H, I.tok _, ⟨_, rfl⟩, q⟩
      show (SX.S (repL L n)).length ≤ sizeLine
      rw [SX.S_len, sizeLine_eq]
      have : (repL L n).length = n * L.length := by simp [repL]
      rw [this, Nat.mul_comm]
      omega
end
end Nv

set_option maxRecDepth 100000
set_option maxHeartbeats 8000000
namespace Nv
open PySem PySem.Spec PyProof.Rows L2 L2H LamX
abbrev sBen : Stmt := topS 90
abbrev nBen : List Str := ["_law_bag_here", "_law_text", "_law_at", "_law_way", "_law_sign", "_law_many"]
theorem scBen : FnScope nBen ["_law_bag_here", "_law_text"] (defScope sBen) := ⟨rfl, rfl, rfl, by decide +kernel, rfl, by decide +kernel, by decide +kernel⟩
theorem cut_to {L : List Nat} {j : Nat} : cutS (SX.S L) none (some (j : Int)) = SX.S (L.take j) := by
  unfold cutS
  rw [SX.S_len, HT.sIx_none, HT.sIx_nat]
  show SX.S ((L.drop 0).take (min j L.length - 0)) = _
  rw [List.drop_zero, Nat.sub_zero]
  congr 1
  rcases Nat.le_total j L.length with h | h
  · rw [Nat.min_eq_left h]
  · rw [Nat.min_eq_right h, List.take_length, List.take_of_length_le h]
theorem cut_from {L : List Nat} {j : Nat} : cutS (SX.S L) (some (j : Int)) none = SX.S (L.drop j) := by
  unfold cutS
  rw [SX.S_len, HT.sIx_none, HT.sIx_nat]
  show SX.S ((L.drop (min j L.length)).take (L.length - min j L.length)) = _
  rw [List.take_of_length_le (by rw [List.length_drop]; exact Nat.le_refl _)]
  congr 1
  rcases Nat.le_total j L.length with h | h
  · rw [Nat.min_eq_left h]
  · rw [Nat.min_eq_right h, List.drop_length, List.drop_of_length_le h]
/-- a text, at most so long -/
def Short (n : Nat) (x : V) : Prop := ∃ M : List Nat, x = .str (SX.S M) ∧ M.length ≤ n
theorem short_of {z : Str} {n : Nat} (h : z.length ≤ n) : Short n (.str z) := ⟨z.cps.toList, by rw [SX.S_tl], by rw [Array.length_toList]; exact h⟩
def nine9 : List V := [.str (Str.ofString "\n"), .str (Str.ofString "07"), .str (Str.ofString "1/2"), .str (Str.ofString "2/4"), .str (Str.ofString "abcdefg"), .str (SX.S (repL [49] 13)), .str (Str.ofString "-3"), .str (Str.ofString " - "), .str (Str.ofString "~~")]
def spBen : Sp := fun vs H Q _ => ∃ (l b : Addr) (L : List Nat), vs = [.ref b, .str (SX.S L)] ∧ L.length ≤ 4000 ∧ Bag l b H ∧ ∀ (M : List Nat) (H' : Hp), M.length ≤ L.length + 30 → Bag l b H' → Grow b H H' → Q (.str (SX.S M)) H'
section
variable {P : Program} {w : World} {K : PySem.W.Frag} {mg : Str → Option Value} {base : Heap}
theorem ok_ben {f : Addr} {fd : FuncData} (F : Fun K "_law_bent_text" "_law_bent_text" sBen f fd) (B : Blt mg) (GP : C8.Cal P w K mg base 1 "_law_pull" spPull []) (GO : C8.Cal P w K mg base 2 "_law_of" spOf []) : FnOk P w K mg base CX0 3 f fd ["_law_bag_here", "_law_text"] spBen := by
  refine F.ok scBen (fun vs H Q E h => ?_) (fun cdv A outer s H vs Q E hr h => ?_)
  · obtain ⟨l, b, L, rfl, _⟩ := h
    rfl
  · obtain ⟨l, b, L, rfl, hL, hB, q⟩ := h
    refine ⟨_, (pss_cons (ps_par (i := 2) (j := 3) (by rfl) scBen.nd rfl rfl (by decide) rfl rfl (pa_cons (C8.pe_c GP hr (by decide) (by rfl) (pa_cons (pv 0) (pa_cons (pe_op op_add (pe_callB call_len_str (by rfl) B.len PySem.boot_len (pa_cons (pv 1) pa_nil)) pe_int) pa_nil))) (pa_cons (C8.pe_c GP hr (by decide) (by rfl) (pa_cons (pv 0) (pa_cons pe_int pa_nil))) pa_nil)) (by rfl))
 (pss_cons (ps_set (i := 4) scBen.nd rfl (.inl rfl) (C8.pe_c GO hr (by decide) (by rfl) (pa_cons (pv 0) (pa_cons (pe_op op_cat (pe_callTy (call_list_txt rfl) (by rfl) B.lst (by decide +kernel) (pa_cons pe_str pa_nil)) (pe_lst (pa_cons pe_str (pa_cons pe_str (pa_cons pe_str (pa_cons pe_str (pa_cons pe_str (pa_cons (pe_op op_mul_str pe_str pe_int) (pa_cons pe_str (pa_cons pe_str (pa_cons pe_str pa_nil))))))))))) pa_nil))))
 (pss_cons (ps_if (pt_cmpR op_eq (pv 3) pe_int (nomark _)) (pss_one (ps_ret (pe_op op_add_str (pe_slice sl_str (pv 1) po_none (po_some (pv 2))) (pe_slice sl_str (pv 1) (po_some (pe_op op_add (pv 2) pe_int)) po_none)))) pss_nil)
 (pss_cons (ps_if (pt_cmpR op_eq (pv 3) pe_int (nomark _)) (pss_one (ps_ret (pe_op op_add_str (pe_op op_add_str (pe_slice sl_str (pv 1) po_none (po_some (pv 2))) (pv 4)) (pe_slice sl_str (pv 1) (po_some (pe_op op_add (pv 2) pe_int)) po_none)))) pss_nil)
 (pss_cons (ps_if (pt_cmpR op_eq (pv 3) pe_int (nomark _)) (pss_cons (ps_set (i := 5) scBen.nd rfl (.inl rfl) (pe_op op_add pe_int (C8.pe_c GP hr (by decide) (by rfl) (pa_cons (pv 0) (pa_cons pe_int pa_nil)))))
 (pss_one (ps_ret (pe_op op_add_str (pe_op op_add_str (pe_op op_mul_str pe_str (pv 5)) (pv 1)) (pe_op op_mul_str pe_str (pv 5)))))) pss_nil)
 (pss_one (ps_ret (pe_op op_add_str (pe_op op_add_str (pe_slice sl_str (pv 1) po_none (po_some (pv 2))) (pv 4)) (pe_slice sl_str (pv 1) (po_some (pv 2)) po_none))))))))), ?_⟩
    have sl : (SX.S L).length = L.length := SX.S_len L
    have hlen : (SX.S L).length ≤ sizeLine := by rw [sl, sizeLine_eq]; omega
    refine ⟨_, rfl, _, rfl, _, rfl, hlen, _, _, rfl, rfl, l, b, ((SX.S L).length : Int) + 1, rfl, by omega, ?_, hB, fun a H1 a0 a1 B1 t1 => ?_⟩
    · refine Nat.lt_of_le_of_lt (m := 4001) (by rw [sl]; omega) (Nat.lt_of_lt_of_le (show 4001 < 2 ^ 12 by decide) (Nat.pow_le_pow_right (by decide) (by decide)))
    refine ⟨_, rfl, l, b, 6, rfl, by decide, fit8 (n := 6) (by decide) (by decide), B1, fun y H2 y0 y1 B2 t2 => ?_⟩
    have g2 := t1.grow.trans t2.grow
    rw [sl] at a1
    obtain ⟨j, rfl⟩ : ∃ j : Nat, a = (j : Int) := ⟨a.toNat, by omega⟩
    refine ⟨_, _, rfl, ?_⟩
    have e1 : Str.ofString "1" = SX.S [49] := by decide +kernel
    refine ⟨_, rfl, _, rfl, (by decide +kernel), fun p1 n1 => ⟨[49], 13, congrArg V.str e1, rfl, by decide, by decide, (by show 9 ≤ sizeLine; decide), fun p2 n2 => ⟨p1, p2, signsV (Str.ofString "+-*~()xzA 0123/.="), _, rfl, rfl, same_new n2 _ _ upd_same, upd_same, ?_, fun p3 n3 => ?_⟩⟩⟩
    · rw [show (signsV (Str.ofString "+-*~()xzA 0123/.=")).length = 17 by decide +kernel, sizeLine_eq]
      show 17 + 9 ≤ _
      decide
    have sA := Same.trans (same_new (o := .lst (signsV (Str.ofString "+-*~()xzA 0123/.="))) n1) (same_new (o := .lst nine9) n2)
    have sB := Same.trans sA (same_new (o := .lst (signsV (Str.ofString "+-*~()xzA 0123/.=") ++ nine9)) n3)
    have B3 := B2.same sB
    refine ⟨l, b, p3, _, rfl, B2.ne (sA.free n3), upd_same, ?_, ?_, B3, fun z H4 hz B4 t4 => ?_⟩
    · rw [List.length_append]
      show 0 < _ + 9
      omega
    · rw [List.length_append, show (signsV (Str.ofString "+-*~()xzA 0123/.=")).length = 17 by decide +kernel]
      show 17 + 9 ≤ 1000
      decide
    have g4 := g2.trans ((Same.grow sB).trans t4.grow)
    obtain ⟨M, rfl, hM⟩ : Short 13 z := by
      rcases List.mem_append.mp hz with h | h
      · obtain ⟨c, _, rfl⟩ := List.mem_map.mp h
        exact short_of (by show 1 ≤ 13; decide)
      · simp only [List.mem_cons, List.not_mem_nil, or_false] at h
        rcases h with rfl | rfl | rfl | rfl | rfl | rfl | rfl | rfl | rfl
        · exact short_of (by decide +kernel)
        · exact short_of (by decide +kernel)
        · exact short_of (by decide +kernel)
        · exact short_of (by decide +kernel)
        · exact short_of (by decide +kernel)
        · exact ⟨_, rfl, by decide⟩
        · exact short_of (by decide +kernel)
        · exact short_of (by decide +kernel)
        · exact short_of (by decide +kernel)
    have lt : ∀ k, (L.take k).length ≤ L.length := fun k => by rw [List.length_take]; omega
    have ld : ∀ k, (L.drop k).length ≤ L.length := fun k => by rw [List.length_drop]; omega
    have ltd : ∀ k, (L.take k).length + (L.drop k).length ≤ L.length := fun k => by rw [List.length_take, List.length_drop]; omega
    have ltd1 : ∀ k, (L.take k).length + (L.drop (k + 1)).length ≤ L.length := fun k => by rw [List.length_take, List.length_drop]; omega
    have ej : ((j : Int) + 1) = ((j + 1 : Nat) : Int) := by omega
    refine ⟨_, rfl, rfl, _, rfl, ite2 (fun _ => ?_) (fun _ => ?_)⟩
    · refine ⟨_, rfl, _, rfl, _, rfl, _, rfl, hlen, _, rfl, _, rfl, _, _, rfl, rfl, _, rfl, _, rfl, hlen, _, _, rfl, rfl, ?_, ?_⟩
      · rw [cut_to, ej, cut_from, SX.S_len, SX.S_len, sizeLine_eq]
        have := ltd1 j
        omega
      · rw [cut_to, ej, cut_from, SX.S_cat]
        refine q _ _ ?_ B4 g4
        rw [List.length_append]
        have := ltd1 j
        omega
    refine ⟨_, rfl, rfl, _, rfl, ite2 (fun _ => ?_) (fun _ => ?_)⟩
    · refine ⟨_, rfl, _, rfl, _, rfl, _, rfl, hlen, _, rfl, _, _, rfl, rfl, ?_, _, rfl, _, rfl, _, _, rfl, rfl, _, rfl, _, rfl, hlen, _, _, rfl, rfl, ?_, ?_⟩
      · rw [cut_to, SX.S_len, SX.S_len, sizeLine_eq]
        have := lt j
        omega
      · rw [cut_to, ej, cut_from, SX.S_cat, SX.S_len, SX.S_len, List.length_append, sizeLine_eq]
        have := ltd1 j
        omega
      · rw [cut_to, ej, cut_from, SX.S_cat, SX.S_cat]
        refine q _ _ ?_ B4 g4
        rw [List.length_append, List.length_append]
        have := ltd1 j
        omega
    refine ⟨_, rfl, rfl, _, rfl, ite2 (fun _ => ?_) (fun _ => ?_)⟩
    · refine ⟨_, rfl, l, b, 5, rfl, by decide, fit8 (n := 5) (by decide) (by decide), B4, fun y5 H5 z0 z1 B5 t5 => ?_⟩
      have g5 := g4.trans t5.grow
      obtain ⟨m, rfl⟩ : ∃ m : Nat, y5 = (m : Int) := ⟨y5.toNat, by omega⟩
      have em : (10 : Int) + (m : Int) = ((10 + m : Nat) : Int) := by omega
      refine ⟨_, _, rfl, rfl, ?_⟩
      have l1 : (repL [40] (10 + m)).length = 10 + m := by simp [repL]
      have l2 : (repL [41] (10 + m)).length = 10 + m := by simp [repL]
      refine ⟨_, rfl, [40], 10 + m, congrArg V.str str_open, congrArg V.int em, by omega, by decide, _, rfl, _, _, rfl, rfl, ?_, _, rfl, [41], 10 + m, congrArg V.str str_shut, congrArg V.int em, by omega, by decide, _, _, rfl, rfl, ?_, ?_⟩
      · rw [SX.S_len, SX.S_len, sizeLine_eq]
        omega
      · rw [SX.S_cat, SX.S_len, SX.S_len, List.length_append, sizeLine_eq]
        omega
      · rw [SX.S_cat, SX.S_cat]
        refine q _ _ ?_ B5 g5
        rw [List.length_append, List.length_append]
        omega
    · refine ⟨_, rfl, _, rfl, _, rfl, _, rfl, hlen, _, rfl, _, _, rfl, rfl, ?_, _, rfl, _, rfl, _, rfl, _, rfl, hlen, _, _, rfl, rfl, ?_, ?_⟩
      · rw [cut_to, SX.S_len, SX.S_len, sizeLine_eq]
        have := lt j
        omega
      · rw [cut_to, cut_from, SX.S_cat, SX.S_len, SX.S_len, List.length_append, sizeLine_eq]
        have := ltd j
        omega
      · rw [cut_to, cut_from, SX.S_cat, SX.S_cat]
        refine q _ _ ?_ B4 g4
        rw [List.length_append, List.length_append]
        have := ltd j
        omega
end
end Nv

set_option maxRecDepth 100000
set_option maxHeartbeats 8000000
namespace Nv
open PySem PySem.Spec PyProof.Rows L2 L2H LamX
abbrev sAsked : Stmt := topS 68
theorem scAsked : FnScope ["_law_ask", "e"] ["_law_ask"] (defScope sAsked) := ⟨rfl, rfl, rfl, by decide +kernel, rfl, by decide +kernel, by decide +kernel⟩
/-- what the law wishes of a refusal: of BadTerm (at CM) and of BadText (at CT) -/
def eAsked (CM CT : Addr) (Q : VK) : XK := fun cls d H' => (cls = .ref CM ∧ ∃ (dd : Addr) (x : Str), d = some dd ∧ H' dd = some (.xd (flawOf x)) ∧ ∀ p, H' p = none → Q (.ref p) (upd H' p (.tup [.str "no", .str "BadTerm", .str x]))) ∨
  (cls = .ref CT ∧ ∃ (dd : Addr) (i : Int), d = some dd ∧ H' dd = some (.xd (atOf i)) ∧ ∀ p, H' p = none → Q (.ref p) (upd H' p (.tup [.str "no", .str "BadText", .int i])))
def TAsked (CM CT : Addr) : (XK → Hp → VK → Prop) → Hp → VK → Prop := fun tl H Q => tl (eAsked CM CT Q) H fun v H' => [V.str "told", v].length ≤ sizeLine ∧ ∀ p, H' p = none → Q (.ref p) (upd H' p (.tup [.str "told", v]))
/-- the classes' order -/
structure AskC (K : PySem.W.Frag) (mg : Str → Option Value) (CM CT CA : Addr) : Prop where
  gA : mg "BadTable" = some (.ref CA)
  hitM : PySem.W.exmOne K (.ref CM) (.ref CM) = some true
  miss : PySem.W.exmOne K (.ref CT) (.ref CM) = some false
  hitT : PySem.W.exmAny K (.ref CT) [.ref CA, .ref CT] = some true
section
variable {X : Cx}
theorem asked_gives {CN CM CT CA fN fI fN2 fI2 g : Addr} {cdg : Value} {q : Str} (RM : ErrF X.K X.mg "BadTerm" "flaw" CN CM fN fI) (RT : ErrF X.K X.mg "BadText" "at" CN CT fN2 fI2) (S : AskC X.K X.mg CM CT CA) :
    GivesTo X ["_law_ask", "e"] "_law_asked" (defScope sAsked) g cdg (defBody sAsked) "_law_ask" q (TAsked CM CT) := by
  intro f c' s H Q tl act hc h
  refine ⟨_, pss_one (ps_try_named (X := (cxOf C8.CX0 X.prog X.w X.K X.mg X.base ["_law_ask", "e"] "_law_asked" (defScope sAsked) g cdg X.A X.stack s H C8.E0).nox)
      (cl := [([.ref CM], 1, fun a cls d => tRet (tTup (tCons (tC (.str "no")) (tCons (tXf a cls d CM "word" (tVar 1)) (tCons (tXf a cls d CM "flaw" (tVar 1)) tNil))))),
        ([.ref CA, .ref CT], 1, fun a cls d => tRet (tTup (tCons (tC (.str "no")) (tCons (tXf a cls d CT "word" (tVar 1)) (tCons (tXf a cls d CT "at" (tVar 1)) tNil)))))])
      (tb := fun W D σ H => ∃ Ech : XK, (∀ cls d σ' H', Ech cls d H' → σ'.length = 2 → W cls d σ' H') ∧ σ = [some (.ref f), none] ∧ H c' = some (CodeO c' q) ∧ tl Ech H fun v H' => [V.str "told", v].length ≤ sizeLine ∧ ∀ p, H' p = none → D.rt (.ref p) (upd H' p (.tup [.str "told", v])))
      rfl rfl scAsked.nd (fun W pn xe tk _ => ?_)
      (.one rfl rfl ⟨by rfl, by decide, .inl RM.gC⟩ (fun a oe cls d pn hz hf => pss_one (ps_ret (pe_tup (pa_cons pe_str (pa_cons (pe_xf RM.xf RM.word hz hf (pv 1)) (pa_cons (pe_xf RM.xf RM.fld hz hf (pv 1)) pa_nil))))))
        (.two rfl rfl (by rfl) (by decide) S.gA (by rfl) (by decide) RT.gC (fun a oe cls d pn hz hf => pss_one (ps_ret (pe_tup (pa_cons pe_str (pa_cons (pe_xf RT.xf RT.word hz hf (pv 1)) (pa_cons (pe_xf RT.xf RT.fld hz hf (pv 1)) pa_nil)))))) .stop))), ?_⟩
  · refine ⟨fun pins s' σ H' D I h' => ?_⟩
    obtain ⟨Ech, hW, h1, h2, h3⟩ := h'
    have tk' : Takes ((cxOf C8.CX0 X.prog X.w X.K X.mg X.base ["_law_ask", "e"] "_law_asked" (defScope sAsked) g cdg X.A X.stack s H C8.E0).tr pn xe) (fun cls d σ H => σ.length = 2 → W cls d σ H) := fun u s2 z => by
      obtain ⟨a, B, sI, pins2, σ2, H2, cls, d, e, J, nb, up, sky, na, os, ag, w⟩ := z
      exact tk u s2 ⟨a, B, sI, pins2, σ2, H2, cls, d, e, J, nb, up, sky, na, os, ag, w J.len⟩
    have hp := fun p1 p2 => act _ pn xe Ech p1 p2 tk' hW
    refine (pss_one (ps_ret (pe_tup (pa_cons pe_str (pa_cons (hp _ _) pa_nil))))).run pins s' σ H' D I ?_
    subst h1
    exact ⟨rfl, h2, h3⟩
  · refine ⟨eAsked CM CT Q, fun cls d σ' H' hE hl => ?_, rfl, hc, h⟩
    rcases hE with ⟨rfl, dd, x, rfl, hd, hq⟩ | ⟨rfl, dd, i, rfl, hd, hq⟩
    · refine ⟨true, S.hitM, fun _ a na => ?_, (fun z => nomatch z)⟩
      have hs : (σ'.set 1 (some (V.ref a)))[1]? = some (some (V.ref a)) := by
        rw [List.getElem?_set_self (by omega)]
      exact ⟨_, hs, rfl, rfl, dd, flawOf x, .str "BadTerm", rfl, hd, rfl, _, hs, rfl, rfl, dd, flawOf x, .str x, rfl, hd, rfl, (by show 3 ≤ sizeLine; decide), fun p hp => hq p hp⟩
    · refine ⟨false, S.miss, (fun z => nomatch z), fun _ => ⟨true, S.hitT, fun _ a na => ?_, (fun z => nomatch z)⟩⟩
      have hs : (σ'.set 1 (some (V.ref a)))[1]? = some (some (V.ref a)) := by
        rw [List.getElem?_set_self (by omega)]
      exact ⟨_, hs, rfl, rfl, dd, atOf i, .str "BadText", rfl, hd, rfl, _, hs, rfl, rfl, dd, atOf i, .int i, rfl, hd, rfl, (by show 3 ≤ sizeLine; decide), fun p hp => hq p hp⟩
end
end Nv

set_option maxRecDepth 100000
set_option maxHeartbeats 8000000
namespace Nv
open PySem PySem.Spec PyProof.Rows L2 L2H LamX
theorem stops_not {z : Str} {R : List Nat} (h : Stops R) (hz : inS z 32 = false ∧ inS z 41 = false ∧ inS z 42 = false ∧ inS z 43 = false ∧ inS z 45 = false) : ∀ c, R.head? = some c → inS z c = false := fun c hc => by
  rcases h c hc with rfl | rfl | rfl | rfl | rfl
  · exact hz.1
  · exact hz.2.1
  · exact hz.2.2.1
  · exact hz.2.2.2.1
  · exact hz.2.2.2.2
def sgnL (a : Int) : List Nat := if a < 0 then [45] else []
def bodL (a b : Int) : List Nat := TL.numL a.natAbs ++ (if b ≠ 1 then 47 :: TL.numL b.natAbs else [])
theorem text_split (a b : Int) : textL a b = sgnL a ++ bodL a b := by
  unfold textL sgnL bodL
  rw [List.append_assoc]
theorem bod_in {a b : Int} : ∀ c ∈ bodL a b, inS zFig c = true := fun c hc => by
  have h : c = 47 ∨ (48 ≤ c ∧ c ≤ 57) := by
    unfold bodL at hc
    rcases List.mem_append.mp hc with hc | hc
    · exact .inr (TL.numL_digits _ c hc)
    · split at hc
      · rcases List.mem_cons.mp hc with rfl | hc
        · exact .inl rfl
        · exact .inr (TL.numL_digits _ c hc)
      · cases hc
  unfold inS
  rw [zFig_eq]
  refine decide_eq_true ?_
  simp only [List.mem_cons, List.not_mem_nil, or_false]
  omega
theorem bod_head (a b : Int) : ∃ c r, bodL a b = c :: r ∧ 48 ≤ c ∧ c ≤ 57 := by
  unfold bodL
  have ne := TL.numL_ne a.natAbs
  have hd := TL.numL_digits a.natAbs
  cases h : TL.numL a.natAbs with
  | nil => exact absurd h ne
  | cons c r =>
    rw [h] at hd
    exact ⟨c, _, rfl, hd c List.mem_cons_self⟩
theorem tk_head {k : Tk} (ok : TkOk k) : ∃ c r, k.chars = c :: r ∧ c ≠ 32 := by
  cases k with
  | opn => exact ⟨40, [], rfl, by decide⟩
  | sht => exact ⟨41, [], rfl, by decide⟩
  | wav => exact ⟨126, [], rfl, by decide⟩
  | op o => exact ⟨o.chr, [], rfl, by cases o <;> decide⟩
  | lf l =>
    have ne := leaf_ne ok
    have hc := leaf_chars ok
    cases h : l.chars with
    | nil => exact absurd h ne
    | cons c r =>
      refine ⟨c, r, h, ?_⟩
      have := hc c (by rw [h]; exact List.mem_cons_self)
      omega
theorem lead_tk {k : Tk} (ok : TkOk k) (b : Nat) (R : List Nat) : lenW isBl (blk b ++ (k.chars ++ R)) = b := by
  obtain ⟨c, r, e, n⟩ := tk_head ok
  rw [e]
  have := lenW_all (p := isBl) (A := blk b) (R := c :: r ++ R) (fun x hx => by rw [List.eq_of_mem_replicate hx]; rfl) (fun x hx => by
    cases hx
    exact beq_eq_false_iff_ne.mpr n)
  rw [this]
  exact List.length_replicate
theorem lead_end (e : Nat) : lenW isBl (blk e) = e := by
  have := lenW_all (p := isBl) (A := blk e) (R := []) (fun x hx => by rw [List.eq_of_mem_replicate hx]; rfl) (fun x hx => by cases hx)
  rw [List.append_nil] at this
  rw [this]
  exact List.length_replicate

theorem nxt_st {D : List Pc} {W : List Wd} {br : Nat} {fr : Bool} {c : Nat} {r : List Nat} {k : Tk} {S2 : RS} (h : lexF c r fr = some k) (hs : (RS.mk false D W br fr).step k = some S2) : nxt ⟨false, D, W, br, fr⟩ c r = some (k, S2) := by
  have en : nxt ⟨false, D, W, br, fr⟩ c r = (lexF c r fr).bind fun k => ((RS.mk false D W br fr).step k).map fun S' => (k, S') := rfl
  rw [en, h]
  show ((RS.mk false D W br fr).step k).map (fun S' => (k, S')) = _
  rw [hs]
  rfl
theorem nxt_tt {D : List Pc} {W : List Wd} {br : Nat} {fr : Bool} {c : Nat} {r : List Nat} {k : Tk} {S2 : RS} (h : lexT c = some k) (hs : (RS.mk true D W br fr).step k = some S2) : nxt ⟨true, D, W, br, fr⟩ c r = some (k, S2) := by
  have en : nxt ⟨true, D, W, br, fr⟩ c r = (lexT c).bind fun k => ((RS.mk true D W br fr).step k).map fun S' => (k, S') := rfl
  rw [en, h]
  show ((RS.mk true D W br fr).step k).map (fun S' => (k, S')) = _
  rw [hs]
  rfl
/-- a sign that stands is read so -/
theorem nxt_of {k : Tk} {S S2 : RS} {R : List Nat} (ok : TkOk k) (hs : S.step k = some S2) (hst : S2.st = true → S.st = false → Stops R) : ∃ c r0, k.chars = c :: r0 ∧ nxt S c (r0 ++ R) = some (k, S2) := by
  obtain ⟨st, D, W, br, fr⟩ := S
  cases k with
  | opn =>
    cases st with
    | true => cases hs
    | false => exact ⟨40, [], rfl, nxt_st rfl hs⟩
  | wav =>
    cases st with
    | true => cases hs
    | false => exact ⟨126, [], rfl, nxt_st rfl hs⟩
  | sht =>
    cases st with
    | false => cases hs
    | true => exact ⟨41, [], rfl, nxt_tt rfl hs⟩
  | op o =>
    cases st with
    | false => cases hs
    | true => exact ⟨o.chr, [], rfl, nxt_tt (by cases o <;> rfl) hs⟩
  | lf l =>
    cases st with
    | true => cases hs
    | false =>
      have hs0 : (if l.neg = true → fr = true then some (⟨true, D ++ [.lf l], W, br, false⟩ : RS) else none) = some S2 := hs
      have hneg : l.neg = true → fr = true := Classical.byContradiction fun z => by rw [if_neg z] at hs0; cases hs0
      rw [if_pos hneg] at hs0
      have stp : Stops R := hst (by cases hs0; rfl) rfl
      cases l with
      | le x =>
        have sm : Small x := ok
        have xl : x.cps.toList.length = x.length := Array.length_toList
        cases hx : x.cps.toList with
        | nil =>
          have := sm.lo
          rw [hx] at xl
          simp at xl
          omega
        | cons c r0 =>
          refine ⟨c, r0, hx, nxt_st ?_ hs⟩
          have all : ∀ y ∈ c :: r0, inS zAbc y = true := fun y hy => decide_eq_true (sm.all y (by rw [hx]; exact hy))
          have hc := in_abc.mp (all c List.mem_cons_self)
          have la : abL (c :: (r0 ++ R)) = (c :: r0).length := lenW_all all (stops_not stp (by decide +kernel))
          have l6 := sm.hi
          rw [hx] at xl
          unfold lexF
          rw [if_neg (by omega), if_neg (by omega), if_pos (all c List.mem_cons_self), la, if_pos (by omega)]
          have et : (c :: (r0 ++ R)).take (c :: r0).length = c :: r0 := List.take_left
          rw [et, ← hx, SX.S_tl]
      | sh a b =>
        have ok : ShOk a b := ok
        have d12 : b.natAbs < 10 ^ 12 := by have := ok.bot; have := ok.pos; omega
        have hread : readP (textL a b) = some (a, b) := read_text (by have := ok.pos; omega) ok.low ok.top d12
        obtain ⟨hc0, hr0, hb0, c48, c57⟩ := bod_head a b
        have lb : fgL (bodL a b ++ R) = (bodL a b).length := lenW_all bod_in (stops_not stp (by decide +kernel))
        have et : textL a b = sgnL a ++ bodL a b := text_split a b
        by_cases ha : a < 0
        · have hf : fr = true := hneg (decide_eq_true ha)
          have es : textL a b = 45 :: bodL a b := by rw [et]; unfold sgnL; rw [if_pos ha]; rfl
          refine ⟨45, bodL a b, es, nxt_st ?_ hs⟩
          have ew : wordF 45 (bodL a b ++ R) fr = textL a b := by
            unfold wordF
            rw [if_pos ⟨rfl, hf⟩, lb, List.take_left, es]
          unfold lexF
          rw [if_neg (by decide), if_neg (by decide), if_neg (fun z => by have := in_abc.mp z; omega), ew, hread]
          rfl
        · have es : textL a b = hc0 :: hr0 := by rw [et, ← hb0]; unfold sgnL; rw [if_neg ha]; rfl
          refine ⟨hc0, hr0, es, nxt_st ?_ hs⟩
          have e2 : hc0 :: (hr0 ++ R) = bodL a b ++ R := by rw [hb0]; rfl
          have ew : wordF hc0 (hr0 ++ R) fr = textL a b := by
            unfold wordF
            rw [if_neg (fun z => by have := z.1; omega), e2, lb, List.take_left, es, hb0]
          unfold lexF
          rw [if_neg (by omega), if_neg (by omega), if_neg (fun z => by have := in_abc.mp z; omega), ew, hread]
          rfl
/-- a text of signs is read as they stand -/
theorem GG_rend : ∀ (ks : List (Nat × Tk)) (e i : Nat) (S F : RS), (∀ k ∈ ks.map (·.2), TkOk k) → RS.run (ks.map (·.2)) S = some F → F.st = true → F.br = 0 → GG (rend ks e) i S = .inr F
  | [], e, i, S, F, _, h, h1, h2 => by
    cases h
    show GG (blk e) i S = _
    rw [GG_skip, lead_end, show (blk e).drop e = [] from List.drop_eq_nil_of_le (by rw [show (blk e).length = e from List.length_replicate]; exact Nat.le_refl _), GG_nil, if_pos ⟨h1, h2⟩]
  | (b, k) :: r, e, i, S, F, ok, h, h1, h2 => by
    have h : (S.step k).bind (RS.run (r.map (·.2))) = some F := h
    obtain ⟨S2, e1, e2⟩ := Option.bind_eq_some_iff.mp h
    have okk := ok k List.mem_cons_self
    show GG (blk b ++ (k.chars ++ rend r e)) i S = _
    obtain ⟨c, r0, ec, en⟩ := nxt_of (R := rend r e) okk e1 (fun z _ => stops_rend z e2)
    have c32 : c ≠ 32 := by
      obtain ⟨c', r', e', n'⟩ := tk_head okk
      rw [ec] at e'
      cases e'
      exact n'
    rw [GG_skip, lead_tk okk, show (blk b ++ (k.chars ++ rend r e)).drop b = k.chars ++ rend r e by
      conv => lhs; arg 1; rw [show b = (blk b).length from List.length_replicate.symm]
      exact List.drop_left, ec, List.cons_append, GG_tok c32 en]
    have ed : (r0 ++ rend r e).drop (k.chars.length - 1) = rend r e := by
      rw [ec, List.length_cons, Nat.add_sub_cancel, List.drop_left]
    rw [ed]
    exact GG_rend r e _ S2 F (fun z hz => ok z (List.mem_cons_of_mem _ hz)) e2 h1 h2
/-- the written text of a reckoning is read so -/
theorem GG_wr {T : AT} (ok : T.Ok) (hc : T.count ≤ 24) : ∃ F, GG (T.wrL true) 0 init = .inr F ∧ evo (settle 1 F.D F.W).1 [] = some [T.er] ∧ (settle 1 F.D F.W).1.length = T.count ∧ F.st = true ∧ F.br = 0 := by
  have hn := (nst_le T true).2
  obtain ⟨P, Q, fr, hr, hs⟩ := run_all T (by omega)
  refine ⟨⟨true, Q, P, 0, fr⟩, ?_, ?_, ?_, rfl, rfl⟩
  · have := GG_rend (T.bks true 0) 0 0 init ⟨true, Q, P, 0, fr⟩ (by rw [bks_tks]; exact tks_ok ok true) (by rw [bks_tks]; exact hr) rfl rfl
    rw [bks_rend] at this
    exact this
  · show evo (settle 1 Q P).1 [] = _
    rw [hs]
    have := evo_post T [] []
    rw [List.append_nil] at this
    exact this
  · show (settle 1 Q P).1.length = _
    rw [hs]
    exact post_len T
end Nv


set_option maxRecDepth 100000
set_option maxHeartbeats 16000000
namespace Nv
open PySem PySem.Spec PyProof.Rows L2 L2H LamX
theorem C9.pe_cx {X : Cx} {k j : Nat} {x : Str} {sp : Sp} {dvs : List V} {e : Expr} {es : List Expr} {p pos : Pos} {t : TA} (c : C9.CalX X.prog X.w X.K X.mg X.base k x sp dvs) (hr : Room j X.A) (hk : k ≤ j) (hg : Gl X x) (ha : PA X (e :: es) t)
    (hdb : (x == ("__debug__" : Str)) = false := by decide) (he : starEach (e :: es) X.env = (false, eval e X.env) :: starEach es X.env := by rfl) (hpl : (backTo pos (starEach es X.env)).any (·.1) = false := by rfl) :
    PE X (.Call (.Name x p) (e :: es) [] pos) (tCall sp dvs E0 t) := C9.pe_cxE c hr hk passL hg ha hdb he hpl
abbrev sLaw : Stmt := topS 91
abbrev nLaw : List Str := ["_law_script", "_law_bag_here", "_law_odd", "_law_far", "_law_turn", "_law_text", "_law_bend", "_law_one", "_law_due", "_law_found"]
theorem scLaw : FnScope nLaw ["_law_script"] (defScope sLaw) := ⟨rfl, rfl, rfl, by decide +kernel, rfl, by decide +kernel, by decide +kernel⟩
def qLam : Str := "law.<locals>.<lambda>"
def spLaw (K : PySem.W.Frag) (Pt : Addr) : Sp := fun vs H Q _ => ∃ (a : Addr) (ns : List Int), vs = [.ref a] ∧ SqL K H a (ns.map V.int) ∧ Tabs [(Pt, qLam)] H ∧ ∀ H', Q (.bl true) H'
/-- the odd ones, and the far ones -/
def oddL : List V := ["", "  ", "x +", "(x", "x)", "~", "x y", "x -1", "x - -1", "x*(-1)", "- 1", "(- 1)", "-1/2*x", "( -1)", "X", "x~", "1/1"].map fun z => V.str (Str.ofString z)
def far1 : List Nat := [120] ++ repL [32] 3000 ++ [43, 32, 121]
def far2 (n : Nat) : List Nat := repL [40] n ++ [120] ++ repL [41] n
def far3 : List Nat := repL [120] 3999 ++ [43]
def farL : List V := [.str (SX.S far1), .str (SX.S (far2 12)), .str (SX.S (far2 13)), .str (SX.S far3)]
def farRaw : List V := [.str (Str.ofString "x" ++ SX.S (repL [32] 3000) ++ Str.ofString "+ y"), .str (SX.S (repL [40] 12) ++ Str.ofString "x" ++ SX.S (repL [41] 12)), .str (SX.S (repL [40] 13) ++ Str.ofString "x" ++ SX.S (repL [41] 13)), .str (SX.S (repL [120] 3999) ++ Str.ofString "+")]
theorem far_eq : farRaw = farL := by
  have e2 : Str.ofString "x" = SX.S [120] := by decide +kernel
  have e3 : Str.ofString "+ y" = SX.S [43, 32, 121] := by decide +kernel
  have e4 : Str.ofString "+" = SX.S [43] := by decide +kernel
  unfold farRaw farL far1 far2 far3
  rw [e2, e3, e4]
  simp only [SX.S_cat]
theorem rep_len (c n : Nat) : (repL [c] n).length = n := by simp [repL]
/-- a text as the readings take it -/
def TxtOk (v : V) : Prop := ∃ L : List Nat, v = .str (SX.S L) ∧ L.length ≤ 5000 ∧ Few L
theorem few_len {L : List Nat} (h : L.length ≤ 800) : Few L := fun j => by
  have := lenW_le (inS zFig) (L.drop j)
  rw [List.length_drop] at this
  unfold fgL
  omega
theorem few_none {L : List Nat} (h : ∀ c ∈ L, inS zFig c = false) : Few L := fun j => by
  unfold fgL
  cases hd : L.drop j with
  | nil => show 0 ≤ 800; decide
  | cons c r =>
    have hc : c ∈ L := List.mem_of_mem_drop (i := j) (by rw [hd]; exact List.mem_cons_self)
    unfold lenW
    rw [if_neg (by rw [h c hc]; decide)]
    decide
theorem rep_mem {c n x : Nat} (h : x ∈ repL [c] n) : x = c := by
  obtain ⟨l, h1, h2⟩ := List.mem_flatten.mp h
  rw [List.eq_of_mem_replicate h1] at h2
  exact List.mem_singleton.mp h2
theorem far_ok : ∀ v ∈ farL, TxtOk v := fun v hv => by
  have b2 : ∀ n, n ≤ 20 → TxtOk (.str (SX.S (far2 n))) := fun n hn => ⟨_, rfl, by unfold far2; rw [List.length_append, List.length_append, rep_len, rep_len, List.length_singleton]; omega, few_len (by unfold far2; rw [List.length_append, List.length_append, rep_len, rep_len, List.length_singleton]; omega)⟩
  simp only [farL, List.mem_cons, List.not_mem_nil, or_false] at hv
  rcases hv with rfl | rfl | rfl | rfl
  · refine ⟨_, rfl, by unfold far1; rw [List.length_append, List.length_append, rep_len]; decide, few_none fun c hc => ?_⟩
    unfold far1 at hc
    rcases List.mem_append.mp hc with hc | hc
    · rcases List.mem_append.mp hc with hc | hc
      · rw [List.mem_singleton.mp hc]; decide +kernel
      · rw [rep_mem hc]; decide +kernel
    · simp only [List.mem_cons, List.not_mem_nil, or_false] at hc
      rcases hc with rfl | rfl | rfl <;> decide +kernel
  · exact b2 12 (by decide)
  · exact b2 13 (by decide)
  · refine ⟨_, rfl, by unfold far3; rw [List.length_append, rep_len]; decide, few_none fun c hc => ?_⟩
    unfold far3 at hc
    rcases List.mem_append.mp hc with hc | hc
    · rw [rep_mem hc]; decide +kernel
    · rw [List.mem_singleton.mp hc]; decide +kernel
theorem odd_ok : ∀ v ∈ oddL, TxtOk v := fun v hv => by
  obtain ⟨z, hz, rfl⟩ := List.mem_map.mp hv
  obtain ⟨M, e, hM⟩ : Short 20 (.str (Str.ofString z)) := by
    simp only [List.mem_cons, List.not_mem_nil, or_false] at hz
    rcases hz with rfl | rfl | rfl | rfl | rfl | rfl | rfl | rfl | rfl | rfl | rfl | rfl | rfl | rfl | rfl | rfl | rfl <;> exact short_of (by decide +kernel)
  exact ⟨M, e, by omega, few_len (by omega)⟩
theorem two_shaped {x : Str} (h : x = Str.ofString "letters" ∨ x = Str.ofString "deep") : SeqAt.shaped (.tuple [.str "BadTerm", .str x]) = true := by
  rcases h with rfl | rfl <;> (unfold SeqAt.shaped; simp [PyData.canLay0, PyData.canLayAll0, PyData.depth, PyData.depthAll]; decide +kernel)
theorem lst_shaped : SeqAt.shaped (.list [.tuple [.str "BadTerm", .str "letters"], .tuple [.str "BadTerm", .str "deep"]]) = true := by
  unfold SeqAt.shaped; simp [PyData.canLay0, PyData.canLayAll0, PyData.depth, PyData.depthAll]; decide +kernel
theorem any_two {x : Str} (h : x = Str.ofString "letters" ∨ x = Str.ofString "deep") : ([PyData.tuple [.str "BadTerm", .str "letters"], .tuple [.str "BadTerm", .str "deep"]].any fun z => PyData.eqv z (.tuple [.str "BadTerm", .str x])) = true := by
  rcases h with rfl | rfl
  · exact List.any_eq_true.mpr ⟨_, List.mem_cons_self, SeqAt.eqv_refl _ (SeqAt.canLay_of_shaped (two_shaped (.inl rfl)))⟩
  · exact List.any_eq_true.mpr ⟨_, List.mem_cons_of_mem _ (List.mem_singleton.mpr rfl), SeqAt.eqv_refl _ (SeqAt.canLay_of_shaped (two_shaped (.inr rfl)))⟩
theorem lenW_pre (p : Nat → Bool) : ∀ (L : List Nat) (c : Nat) (j : Nat), L[j]? = some c → p c = false → lenW p L ≤ j
  | [], c, j, h, _ => by cases h
  | a :: r, c, 0, h, hp => by
    cases h
    unfold lenW
    rw [if_neg (by rw [hp]; decide)]
    exact Nat.le_refl _
  | a :: r, c, j + 1, h, hp => by
    unfold lenW
    have := lenW_pre p r c j h hp
    split <;> omega
theorem wr_len30 : ∀ {T : AT}, T.Ok → ∀ f, (T.wrL f).length ≤ 30 * T.count
  | .le _ x, ok, f => by
    have h : x.length ≤ 6 := (show Small x from ok).hi
    show x.cps.toList.length ≤ 30
    have : x.cps.toList.length = x.length := Array.length_toList
    omega
  | .sh _ _ t d, ok, f => by
    have ok : ShOk t d := ok
    have l := text_len ok.top (show d.natAbs < 10 ^ 12 by have := ok.bot; have := ok.pos; omega)
    show (if f = true ∨ 0 ≤ t then textL t d else inB (textL t d)).length ≤ 30
    split
    · omega
    · rw [inB_len]; omega
  | .un _ A, ok, f => by
    have h1 := wr_len30 (T := A) ok true
    have h2 := wr_len30 (T := A) ok false
    show (126 :: (if A.bind < 3 then inB (A.wrL true) else A.wrL false)).length ≤ 30 * (1 + A.count)
    rw [List.length_cons]
    split
    · rw [inB_len]; omega
    · omega
  | .two _ o A B, ok, f => by
    have a1 := wr_len30 (T := A) ok.1 true
    have a2 := wr_len30 (T := A) ok.1 f
    have b1 := wr_len30 (T := B) ok.2 true
    have b2 := wr_len30 (T := B) ok.2 false
    have s : o.sgn.length ≤ 3 := by cases o <;> decide
    show ((if A.bind < o.lev then inB (A.wrL true) else A.wrL f) ++ o.sgn ++ (if B.bind < o.lev + 1 then inB (B.wrL true) else B.wrL false)).length ≤ 30 * (1 + A.count + B.count)
    rw [List.length_append, List.length_append]
    have ha : (if A.bind < o.lev then inB (A.wrL true) else A.wrL f).length ≤ 30 * A.count + 2 := by
      split
      · rw [inB_len]; omega
      · omega
    have hb : (if B.bind < o.lev + 1 then inB (B.wrL true) else B.wrL false).length ≤ 30 * B.count + 2 := by
      split
      · rw [inB_len]; omega
      · omega
    omega
theorem few_wr {T : AT} (ok : T.Ok) (hc : T.count ≤ 24) : Few (T.wrL true) := few_len (by have := wr_len30 ok true; omega)
structure Calls (P : Program) (w : World) (K : PySem.W.Frag) (mg : Str → Option Value) (base : Heap) (CT CM : Addr) : Prop where
  bag : C8.Cal P w K mg base 1 "_law_bag" (spBag K) []
  pull : C8.Cal P w K mg base 1 "_law_pull" spPull []
  pick : C8.Cal P w K mg base 2 "_law_of" spOf []
  abc : C8.Cal P w K mg base 3 "_law_abc" spAbc []
  drawn : C8.Cal P w K mg base 13 "_law_drawn" (spDrawn 9) []
  wrote : C8.Cal P w K mg base 50 "_law_wrote" (spWro 24) []
  ben : C8.Cal P w K mg base 3 "_law_bent_text" spBen []
  rda : C8.Cal P w K mg base 4 "_law_read_at" spRdA []
  rtm : C9.CalX P w K mg base 9 "read_term" (spRTm CT CM) []
  fault : C8.Cal P w K mg base 28 "_law_fault" (spFault 24) []
  same : C8.Cal P w K mg base 28 "_law_same" (spSame K 27) []
section
variable {P : Program} {w : World} {K : PySem.W.Frag} {mg : Str → Option Value} {base : Heap} {CN CM CT CA fN fI fN2 fI2 : Addr}
theorem ok_law {f fT c Pt : Addr} {fdT : FuncData} {oc doc pm ct kV : Value} {od an : Option Addr} {osl : Array (Option Value)}
    (lk : K.lookup f = some ⟨oc, od, .func (PySem.W.fnOf "law" "law" (defArgs sLaw) (defBody sLaw) (defScope sLaw) .none kV doc pm an (.ref c) ct), osl⟩) (hcd : PySem.W.codeIn K (.ref c) "law" = true)
    (G : Calls P w K mg base CT CM) (B : Blt mg) (RM : ErrF K mg "BadTerm" "flaw" CN CM fN fI) (RT : ErrF K mg "BadText" "at" CN CT fN2 fI2) (SA : AskC K mg CM CT CA) (FT : Fun K "_law_asked" "_law_asked" sAsked fT fdT) (gT : mg "_law_asked" = some (.ref fT)) (TB : TabB base mg c Pt) :
    FnOk P w K mg base CX0 60 f (PySem.W.fnOf "law" "law" (defArgs sLaw) (defBody sLaw) (defScope sLaw) .none kV doc pm an (.ref c) ct) ["_law_script"] (spLaw K Pt) := by
  have bT := FT.binds (ps := ["_law_ask"]) fun _ _ _ _ _ _ us hl => match us, hl with | [_], _ => rfl
  obtain ⟨ocT, odT, kVT, docT, pmT, anT, cdT, ctT, oslT, rfl, lkT, hcT⟩ := FT.ex
  refine fn_of lk hcd scLaw (fun vs H Q E h => ?_) (fun A outer s H vs Q E hr h => ?_)
  · obtain ⟨a, ns, rfl, _⟩ := h
    rfl
  · obtain ⟨a, ns, rfl, hS, hT, q⟩ := h
    suffices hh : ∃ t, PSs (cxOf CX0 P w K mg base nLaw "law" (defScope sLaw) f (.ref c) A outer s H E).nox (defBody sLaw) t ∧ t { nx := fun _ H' => Q .non H', rt := Q } (L2.start nLaw [.ref a]) H by
      obtain ⟨t, h1, h2⟩ := hh
      exact ⟨t, h1.nox, h2⟩
    have hu65 : (A.deeper (envOfC "law" (defScope sLaw) s.heap.objs.size f (.ref c))).units + 65 < cLine := by have := hr.un; omega
    refine ⟨_, (pss_cons (ps_set (i := 1) scLaw.nd rfl (by first | exact .inl rfl | exact .inr rfl) (C8.pe_c G.bag hr (by decide) (by rfl) (pa_cons (pv 0) pa_nil)))
 (pss_cons (ps_set (i := 2) scLaw.nd rfl (by first | exact .inl rfl | exact .inr rfl) (pe_lst (pa_cons pe_str (pa_cons pe_str (pa_cons pe_str (pa_cons pe_str (pa_cons pe_str (pa_cons pe_str (pa_cons pe_str (pa_cons pe_str (pa_cons pe_str (pa_cons pe_str (pa_cons pe_str (pa_cons pe_str (pa_cons pe_str (pa_cons pe_str (pa_cons pe_str (pa_cons pe_str (pa_cons pe_str pa_nil)))))))))))))))))))
 (pss_cons (ps_set (i := 3) scLaw.nd rfl (by first | exact .inl rfl | exact .inr rfl) (pe_lst (pa_cons (pe_op op_add_str (pe_op op_add_str pe_str (pe_op op_mul_str pe_str pe_int)) pe_str) (pa_cons (pe_op op_add_str (pe_op op_add_str (pe_op op_mul_str pe_str pe_int) pe_str) (pe_op op_mul_str pe_str pe_int)) (pa_cons (pe_op op_add_str (pe_op op_add_str (pe_op op_mul_str pe_str pe_int) pe_str) (pe_op op_mul_str pe_str pe_int)) (pa_cons (pe_op op_add_str (pe_op op_mul_str pe_str pe_int) pe_str) pa_nil))))))
 (pss_cons (ps_for PassesOwn.never rfl (pi_range1 (by rfl) B.rng (pa_cons pe_int pa_nil)) (pg_name (i := 4) scLaw.nd rfl (.inl rfl)) (pss_cons (ps_set (i := 5) scLaw.nd rfl (by first | exact .inl rfl | exact .inr rfl) (C8.pe_c G.wrote hr (by decide) (by rfl) (pa_cons (C8.pe_c G.drawn hr (by decide) (by rfl) (pa_cons (pv 1) (pa_cons (C8.pe_c G.abc hr (by decide) (by rfl) (pa_cons (pv 1) (pa_cons pe_int pa_nil))) (pa_cons pe_int (pa_cons pe_int pa_nil))))) (pa_cons pe_bl pa_nil))))
 (pss_cons (ps_for PassesOwn.never rfl (pi_range1 (by rfl) B.rng (pa_cons (C8.pe_c G.pull hr (by decide) (by rfl) (pa_cons (pv 1) (pa_cons pe_int pa_nil))) pa_nil)) (pg_name (i := 6) scLaw.nd rfl (.inl rfl)) (pss_one (ps_set (i := 5) scLaw.nd rfl (by first | exact .inl rfl | exact .inr rfl) (C8.pe_c G.ben hr (by decide) (by rfl) (pa_cons (pv 1) (pa_cons (pv 5) pa_nil))))))
 (pss_one (ps_for PassesOwn.never rfl (pi_list (pe_lst (pa_cons (pe_slice sl_str (pv 5) po_none (po_some pe_int)) (pa_cons (C8.pe_c G.pick hr (by decide) (by rfl) (pa_cons (pv 1) (pa_cons (pv 2) pa_nil))) (pa_cons (pe_op op_add_str (pe_op op_mul_str pe_str (C8.pe_c G.pull hr (by decide) (by rfl) (pa_cons (pv 1) (pa_cons pe_int pa_nil)))) pe_str) (pa_cons (pe_op op_add_str pe_str (pe_op op_mul_str pe_str (C8.pe_c G.pull hr (by decide) (by rfl) (pa_cons (pv 1) (pa_cons pe_int pa_nil))))) (pa_cons (pe_ix ix_list (pv 3) (pe_op op_mod (pv 4) pe_int) (fun _ _ => rfl)) pa_nil))))))) (pg_name (i := 7) scLaw.nd rfl (by first | exact .inl rfl | exact .inr rfl)) (pss_cons (ps_par (i := 8) (j := 9) (by rfl) scLaw.nd rfl rfl (by decide) rfl rfl (pa_cons (C8.pe_c G.rda hr (by decide) (by rfl) (pa_cons (pv 7) (pa_cons pe_bl pa_nil))) (pa_cons (pe_lamcall (T := [(Pt, qLam)]) (k := 28) (by rfl) gT FT.kp lkT hcT bT scAsked rfl (.inl rfl) (asked_gives RM RT SA) TB rfl (List.mem_singleton.mpr (by rfl)) (fun p hp _ => by rw [List.mem_singleton.mp hp]; rfl) (hr.mono (by decide)) (lamS_by (sc := defScope sLaw) (by decide +kernel)) rfl (fun _ _ _ _ _ => rfl) (fun A outer s H E f c' hr2 => C9.pe_cxE G.rtm hr2 (by decide) (passes_call (takes_of rfl rfl rfl rfl) (fun _ _ _ _ z => z)) (by rfl) (pa_cons (pv 7) pa_nil))) pa_nil)) (by rfl))
 (pss_cons (ps_if (PW.pt (pw_and (pt_cmpR op_notN (pv 8) pe_non (nomark _)) (pw_and1 (pt_not (pt_val (C8.pe_c G.same hr (by decide) (by rfl) (pa_cons (pv 9) (pa_cons (pv 8) pa_nil)))))))) (pss_one (ps_ret pe_bl)) pss_nil)
 (pss_cons (ps_if (PW.pt (pw_and (pt_cmpR op_isN (pv 8) pe_non (nomark _)) (pw_and (pt_cmpR op_eq (pe_ix ix_tup (pv 9) pe_int (fun _ _ => rfl)) pe_str (nomark _)) (pw_and1 (pt_cmpR (op_notInD hu65) (pe_slice sl_tup (pv 9) (po_some pe_int) po_none) (pe_lst (pa_cons (pe_tup (pa_cons pe_str (pa_cons pe_str pa_nil))) (pa_cons (pe_tup (pa_cons pe_str (pa_cons pe_str pa_nil))) pa_nil))) (by rfl)))))) (pss_one (ps_ret pe_bl)) pss_nil)
 (pss_cons (ps_if (PW.pt (pw_and (pt_cmpR op_isN (pv 8) pe_non (nomark _)) (pw_and (pt_cmpR op_eq (pe_ix ix_tup (pv 9) pe_int (fun _ _ => rfl)) pe_str (nomark _)) (pw_and1 (pt_cmpR op_notN (C8.pe_c G.fault hr (by decide) (by rfl) (pa_cons (pe_ix ix_tup (pv 9) pe_int (fun _ _ => rfl)) pa_nil)) pe_non (nomark _)))))) (pss_one (ps_ret pe_bl)) pss_nil)
 (pss_one (ps_if (PW.pt (pw_and (pt_cmpR op_isN (pv 8) pe_non (nomark _)) (pw_and (pt_cmpR op_eq (pe_ix ix_tup (pv 9) pe_int (fun _ _ => rfl)) pe_str (nomark _)) (pw_and1 (pt_not (pt_val (C8.pe_c G.same hr (by decide) (by rfl) (pa_cons (C9.pe_cx G.rtm hr (by decide) (by rfl) (pa_cons (C8.pe_c G.wrote hr (by decide) (by rfl) (pa_cons (pe_ix ix_tup (pv 9) pe_int (fun _ _ => rfl)) (pa_cons pe_bl pa_nil))) pa_nil)) (pa_cons (pe_ix ix_tup (pv 9) pe_int (fun _ _ => rfl)) pa_nil))))))))) (pss_one (ps_ret pe_bl)) pss_nil)))))))))))
 (pss_one (ps_ret pe_bl)))))), ?_⟩
    have e1 : Str.ofString " " = SX.S [32] := by decide +kernel
    have e2 : Str.ofString "x" = SX.S [120] := by decide +kernel
    have e3 : Str.ofString "+ y" = SX.S [43, 32, 121] := by decide +kernel
    have e4 : Str.ofString "+" = SX.S [43] := by decide +kernel
    refine ⟨_, rfl, a, ns, rfl, hS, fun l b H1 s1 nb nl B1 => ?_⟩
    have O1 : Ok l b [(Pt, qLam)] H1 := ⟨B1, hT.ext s1⟩
    refine ⟨(by show 17 ≤ sizeLine; decide), fun od nod => ?_⟩
    have s2 := same_new (o := .lst oddL) nod
    have eod : upd H1 od (.lst oddL) od = some (.lst oddL) := upd_same
    have O2 := O1.same s2
    have ndb := O1.bag.ne nod
    replace eod : (upd H1 od (.lst oddL)) od = some (.lst oddL) := eod
    have l1 : (repL [32] 3000).length = 3000 := by simp [repL]
    have l2 : ∀ (c n : Nat), (repL [c] n).length = n := fun c n => by simp [repL]
    have fl : ∀ A B : List Nat, A.length + B.length ≤ 10000 → (SX.S A).length + (SX.S B).length ≤ sizeLine := fun A B h => by rw [SX.S_len, SX.S_len, sizeLine_eq]; omega
    refine ⟨[32], 3000, congrArg V.str e1, rfl, by decide, by decide, _, _, rfl, rfl, ?_, _, _, rfl, rfl, ?_, [40], 12, congrArg V.str str_open, rfl, by decide, by decide, _, _, rfl, rfl, ?_, [41], 12, congrArg V.str str_shut, rfl, by decide, by decide, _, _, rfl, rfl, ?_,
      [40], 13, congrArg V.str str_open, rfl, by decide, by decide, _, _, rfl, rfl, ?_, [41], 13, congrArg V.str str_shut, rfl, by decide, by decide, _, _, rfl, rfl, ?_, [120], 3999, congrArg V.str e2, rfl, by decide, by decide, _, _, rfl, rfl, ?_, (by show 4 ≤ sizeLine; decide), fun fa nfa => ?_⟩
    · rw [e2]; exact fl _ _ (by rw [l2]; decide)
    · rw [e2, e3, SX.S_cat]; exact fl _ _ (by rw [List.length_append, l2]; decide)
    · rw [e2]; exact fl _ _ (by rw [l2]; decide)
    · rw [e2, SX.S_cat]; exact fl _ _ (by rw [List.length_append, l2, l2]; decide)
    · rw [e2]; exact fl _ _ (by rw [l2]; decide)
    · rw [e2, SX.S_cat]; exact fl _ _ (by rw [List.length_append, l2, l2]; decide)
    · rw [e4]; exact fl _ _ (by rw [l2]; decide)
    have s3 := same_new (o := .lst farRaw) nfa
    have efa : upd (upd H1 od (.lst oddL)) fa (.lst farRaw) fa = some (.lst farRaw) := upd_same
    have O3 := O2.same s3
    have nfb := O2.bag.ne nfa
    have eod3 := s3 _ _ eod
    refine ⟨8, rfl, by decide, by decide, for_range (lo := 0) (n := (8 : Int).toNat) (fun i σ H' => ∃ y4 y5 y6 y7 y8 y9, σ = [some (.ref a), some (.ref b), some (.ref od), some (.ref fa), y4, y5, y6, y7, y8, y9] ∧ Ok l b [(Pt, qLam)] H' ∧ H' od = some (.lst oddL) ∧ H' fa = some (.lst farRaw)) ⟨none, none, none, none, none, none, rfl, O3, eod3, efa⟩ ?_ ?_⟩
    · rintro i σ H0 hi ⟨y4, y5, y6, y7, y8, y9, rfl, O0, eo0, ef0⟩
      have T0 := O0.tab
      refine ⟨_, rfl, _, rfl, l, b, 2, rfl, by decide, O0.bag, fun D0 L0 H2 lL sL nL B2 g2 nD0 eD0 => ?_⟩
      have nD0b : D0 ≠ b := fun z => by
        obtain ⟨_, _, _, ⟨_, _, _, _, hb, _⟩⟩ := O0.bag
        rw [z, hb] at nD0
        cases nD0
      refine ⟨l, b, D0, L0, 9, 3, rfl, by decide, by decide, by decide, by decide, nD0b, eD0, by omega, by omega, sL, B2, fun Z H4 inZ okZ cZ dZ lZ B4 g4 => ?_⟩
      refine ⟨Z, true, rfl, inZ, okZ, by omega, by decide, fun H5 s5 => ?_⟩
      have O5 := (O0.grow (g2.trans g4) B4).same s5
      have g5 := (g2.trans g4).trans (Same.grow s5)
      have eo5 := g5 _ _ ndb eo0
      have ef5 := g5 _ _ nfb ef0
      have wl := wr_len okZ true
      let st (y5 y6 y7 y8 y9 : Option V) : L2.St := [some (.ref a), some (.ref b), some (.ref od), some (.ref fa), some (.int (0 + (i : Int))), y5, y6, y7, y8, y9]
      let stand (H' : Hp) : Prop := Ok l b [(Pt, qLam)] H' ∧ H' od = some (.lst oddL) ∧ H' fa = some (.lst farRaw)
      have stand_g : ∀ {Ha Hb : Hp}, stand Ha → Grow b Ha Hb → Bag l b Hb → stand Hb := fun ⟨x1, x2, x3⟩ g B => ⟨x1.grow g B, g _ _ ndb x2, g _ _ nfb x3⟩
      have stand_s : ∀ {Ha Hb : Hp}, stand Ha → Same Ha Hb → stand Hb := fun ⟨x1, x2, x3⟩ s => ⟨x1.same s, s _ _ x2, s _ _ x3⟩
      refine ⟨_, rfl, l, b, 4, rfl, by decide, fit8 (n := 4) (by decide) (by decide), O5.bag, fun r H6 r0 r1 B6 t6 => ?_⟩
      have st6 : stand H6 := stand_g ⟨O5, eo5, ef5⟩ t6.grow B6
      refine ⟨r, rfl, by omega, by omega, for_range (lo := 0) (n := r.toNat) (fun k σ H' => ∃ (M : List Nat) (y6' : Option V), σ = st (some (.str (SX.S M))) y6' y7 y8 y9 ∧ M.length ≤ 360 + 30 * k ∧ stand H') ⟨Z.wrL true, y6, rfl, by omega, st6⟩ ?_ ?_⟩
      · rintro k σ H7 hk ⟨M, y6', rfl, lM, st7⟩
        refine ⟨_, rfl, _, rfl, l, b, M, rfl, by omega, st7.1.bag, fun M' H8 lM' B8 g8 => ?_⟩
        exact ⟨M', some (.int (0 + (k : Int))), rfl, by omega, stand_g st7 g8 B8⟩
      rintro σ H7 ⟨M, y6', rfl, lM, st7⟩
      have lM : M.length ≤ 450 := by omega
      -- the texts
      have hM : (SX.S M).length ≤ sizeLine := by rw [SX.S_len, sizeLine_eq]; omega
      refine ⟨_, rfl, _, rfl, _, rfl, hM, _, rfl, _, rfl, l, b, od, oddL, rfl, ndb, st7.2.1, by decide, by decide, st7.1.bag, fun v2 H8 hv2 B8 t8 => ?_⟩
      have st8 := stand_g st7 t8.grow B8
      refine ⟨_, rfl, l, b, 40, rfl, by decide, fit8 (n := 40) (by decide) (by decide), B8, fun r3 H9 z0 z1 B9 t9 => ?_⟩
      have st9 := stand_g st8 t9.grow B9
      obtain ⟨n3, rfl⟩ : ∃ n : Nat, r3 = (n : Int) := ⟨r3.toNat, by omega⟩
      have e5 : Str.ofString "*x" = SX.S [42, 120] := by decide +kernel
      refine ⟨[126], n3, congrArg V.str str_wave, rfl, by omega, by decide, _, _, rfl, rfl, by rw [e2]; exact fl _ _ (by rw [l2]; show n3 + 1 ≤ 10000; omega), _, rfl, l, b, 14, rfl, by decide, fit8 (n := 14) (by decide) (by decide), B9, fun r4 H10 w0 w1 B10 t10 => ?_⟩
      have st10 := stand_g st9 t10.grow B10
      obtain ⟨n4, rfl⟩ : ∃ n : Nat, r4 = (n : Int) := ⟨r4.toNat, by omega⟩
      have l4 : (repL [42, 120] n4).length = n4 * 2 := by simp [repL]
      refine ⟨[42, 120], n4, congrArg V.str e5, rfl, by omega, by decide, _, _, rfl, rfl, by rw [e2]; exact fl _ _ (by rw [l4]; show 1 + n4 * 2 ≤ 10000; omega), ?_⟩
      have hi4 : (0 + (i : Int)) % 4 = ((i % 4 : Nat) : Int) := by omega
      obtain ⟨f5, hf5⟩ : ∃ f, farRaw[i % 4]? = some f := ⟨_, List.getElem?_eq_getElem (by show i % 4 < 4; omega)⟩
      refine ⟨_, rfl, _, rfl, _, 4, rfl, rfl, (show (0 : Int) < 4 by decide), fa, _, ((i % 4 : Nat) : Int), f5, rfl, congrArg V.int hi4, SqL.of st10.2.2, atI_nat (j := i % 4) hf5, (by show 5 ≤ sizeLine; decide), fun p np => ?_⟩
      have sp := same_new (o := .lst [.str (cutS (SX.S M) none (some 400)), v2, .str (SX.S (repL [126] n3) ++ Str.ofString "x"), .str (Str.ofString "x" ++ SX.S (repL [42, 120] n4)), f5]) np
      have ep : (upd H10 p (.lst [.str (cutS (SX.S M) none (some 400)), v2, .str (SX.S (repL [126] n3) ++ Str.ofString "x"), .str (Str.ofString "x" ++ SX.S (repL [42, 120] n4)), f5])) p = _ := upd_same
      have st11 := stand_s st10 sp
      have npb := st10.1.bag.ne np
      have tx : ∀ v ∈ [V.str (cutS (SX.S M) none (some 400)), v2, .str (SX.S (repL [126] n3) ++ Str.ofString "x"), .str (Str.ofString "x" ++ SX.S (repL [42, 120] n4)), f5], TxtOk v := fun v hv => by
        simp only [List.mem_cons, List.not_mem_nil, or_false] at hv
        rcases hv with rfl | rfl | rfl | rfl | rfl
        · have : (M.take 400).length ≤ 400 := by rw [List.length_take]; omega
          exact ⟨M.take 400, congrArg V.str (cut_to (L := M) (j := 400)), by omega, few_len (by omega)⟩
        · exact odd_ok _ hv2
        · refine ⟨repL [126] n3 ++ [120], by rw [e2, SX.S_cat], ?_, few_len ?_⟩ <;> (rw [List.length_append, l2]; show n3 + 1 ≤ _; omega)
        · refine ⟨[120] ++ repL [42, 120] n4, by rw [e2, SX.S_cat], ?_, few_len ?_⟩ <;> (rw [List.length_append, l4]; show 1 + n4 * 2 ≤ _; omega)
        · rw [far_eq] at hf5
          exact far_ok _ (List.mem_of_getElem? hf5)
      generalize [V.str (cutS (SX.S M) none (some 400)), v2, .str (SX.S (repL [126] n3) ++ Str.ofString "x"), .str (Str.ofString "x" ++ SX.S (repL [42, 120] n4)), f5] = xs at *
      generalize upd H10 p (.lst xs) = H11 at *
      refine ⟨p, rfl, ⟨_, SqL.of ep⟩, for_list (K := K) (a := p) (xs := xs) (fun k σ H' => ∃ y7' y8' y9', σ = st (some (.str (SX.S M))) y6' y7' y8' y9' ∧ stand H' ∧ H' p = some (.lst xs)) ⟨y7, y8, y9, rfl, st11, ep⟩ (fun k σ H' _ ⟨_, _, _, _, _, h⟩ => SqL.of h) ?_ ?_⟩
      · rintro k v σ H12 hv ⟨y7', y8', y9', rfl, st12, ep12⟩
        obtain ⟨L, rfl, hL, fw⟩ := tx v (List.mem_of_getElem? hv)
        have stand_e : ∀ {Ha Hb : Hp}, stand Ha → ExtN Ha Hb → Tabs [(Pt, qLam)] Hb → stand Hb := fun ⟨x1, x2, x3⟩ e t => ⟨x1.ext e t, e _ _ x2 (fun _ z => nomatch z), e _ _ x3 (fun _ z => nomatch z)⟩
        have tup_e : ∀ {Ha Hb : Hp} {z : Addr} {vs : List V}, ExtN Ha Hb → Ha z = some (.tup vs) → Hb z = some (.tup vs) := fun e h => e _ _ h (fun _ z => nomatch z)
        have lst_e : ∀ {Ha Hb : Hp} {z : Addr} {vs : List V}, ExtN Ha Hb → Ha z = some (.lst vs) → Hb z = some (.lst vs) := fun e h => e _ _ h (fun _ z => nomatch z)
        refine ⟨_, rfl, L, rfl, hL, fw, fun j ej pd Hd sd npd epd => ?_, fun F eF ri => ⟨fun m24 pd Hd sd npd epd => ?_, fun m24 Hd sd => ?_⟩⟩
        · refine ⟨(stand_s st12 sd).1.tab, fun H13 ex t13 => ⟨_, rfl, L, rfl, hL, fw, fun j2 ej2 d2 H14 s14 nd2 ed2 => .inr ⟨rfl, d2, (j2 : Int), rfl, ed2, fun pf npf => ?_⟩, fun F eF => by rw [ej] at eF; cases eF⟩⟩
          rw [ej] at ej2
          cases ej2
          have s15 := Same.trans s14 (same_new (o := .tup [.str "no", .str "BadText", .int (j : Int)]) npf)
          have st15 := stand_s (stand_e (stand_s st12 sd) ex t13) s15
          have ed15 := s15 _ _ (tup_e ex epd)
          have ep15 := s15 _ _ (lst_e ex (sd _ _ ep12))
          have ef15 : (upd H14 pf (.tup [.str "no", .str "BadText", .int (j : Int)])) pf = some (.tup [.str "no", .str "BadText", .int (j : Int)]) := upd_same
          generalize upd H14 pf (.tup [.str "no", .str "BadText", .int (j : Int)]) = H15 at *
          refine ⟨_, _, rfl, ?_⟩
          refine ⟨_, rfl, rfl, _, rfl, iteT ⟨_, rfl, _, rfl, _, _, rfl, twin_all (n := 26) (.inr ⟨SqT.of ef15, SqT.of ed15⟩) (by show 3 ≤ 1000; decide) (.cons (Twin.one (Scal.str _) _) (.cons (Twin.one (Scal.str _) _) (.cons (Twin.one (Scal.int _) _) .nil))), fun H16 s16 => ⟨_, rfl, iteF ?_⟩⟩⟩
          refine ⟨_, rfl, rfl, _, rfl, iteF ?_⟩
          refine ⟨_, rfl, rfl, _, rfl, iteF ?_⟩
          refine ⟨_, rfl, rfl, _, rfl, iteF ?_⟩
          exact ⟨_, _, _, rfl, stand_s st15 s16, s16 _ _ ep15⟩
        · have nl : ∀ j2 : Nat, GG L 0 init = .inl j2 → False := fun j2 e => by rw [eF] at e; cases e
          have sF : ∀ F2, GG L 0 init = .inr F2 → F2 = F := fun F2 e => by rw [eF] at e; exact (Sum.inr.inj e).symm
          refine ⟨(stand_s st12 sd).1.tab, fun H13 ex t13 => ⟨_, rfl, L, rfl, hL, fw, fun j2 ej2 => (nl j2 ej2).elim, fun F2 eF2 ri2 => ⟨fun _ d2 H14 s14 nd2 ed2 => .inl ⟨rfl, d2, "many", rfl, ed2, fun pf npf => ?_⟩, fun z => absurd z (by have e := sF F2 eF2; subst e; omega)⟩⟩⟩
          have s15 := Same.trans s14 (same_new (o := .tup [.str "no", .str "BadTerm", .str "many"]) npf)
          have st15 := stand_s (stand_e (stand_s st12 sd) ex t13) s15
          have ed15 := s15 _ _ (tup_e ex epd)
          have ep15 := s15 _ _ (lst_e ex (sd _ _ ep12))
          have ef15 : (upd H14 pf (.tup [.str "no", .str "BadTerm", .str "many"])) pf = some (.tup [.str "no", .str "BadTerm", .str "many"]) := upd_same
          generalize upd H14 pf (.tup [.str "no", .str "BadTerm", .str "many"]) = H15 at *
          refine ⟨_, _, rfl, ?_⟩
          refine ⟨_, rfl, rfl, _, rfl, iteT ⟨_, rfl, _, rfl, _, _, rfl, twin_all (n := 26) (.inr ⟨SqT.of ef15, SqT.of ed15⟩) (by show 3 ≤ 1000; decide) (.cons (Twin.one (Scal.str _) _) (.cons (Twin.one (Scal.str _) _) (.cons (Twin.one (Scal.str _) _) .nil))), fun H16 s16 => ⟨_, rfl, iteF ?_⟩⟩⟩
          refine ⟨_, rfl, rfl, _, rfl, iteF ?_⟩
          refine ⟨_, rfl, rfl, _, rfl, iteF ?_⟩
          refine ⟨_, rfl, rfl, _, rfl, iteF ?_⟩
          exact ⟨_, _, _, rfl, stand_s st15 s16, s16 _ _ ep15⟩
        · have nl : ∀ j2 : Nat, GG L 0 init = .inl j2 → False := fun j2 e => by rw [eF] at e; cases e
          have sF : ∀ F2, GG L 0 init = .inr F2 → F2 = F := fun F2 e => by rw [eF] at e; exact (Sum.inr.inj e).symm
          refine ⟨(stand_s st12 sd).1.tab, fun H13 ex t13 => ⟨_, rfl, L, rfl, hL, fw, fun j2 ej2 => (nl j2 ej2).elim, fun F2 eF2 ri2 => ⟨fun z => absurd z (by have e := sF F2 eF2; subst e; omega), fun _ => ⟨.inr ⟨fun d2 H14 s14 nd2 ed2 => .inl ⟨rfl, d2, "letters", rfl, ed2, fun pf npf => ?_⟩, fun d2 H14 s14 nd2 ed2 => .inl ⟨rfl, d2, "deep", rfl, ed2, fun pf npf => ?_⟩⟩, fun U Lt H14 s14 inU gd cU ev => ⟨(by show 2 ≤ sizeLine; decide), fun pf npf => ?_⟩⟩⟩⟩⟩
          · have s15 := Same.trans s14 (same_new (o := .tup [.str "no", .str "BadTerm", .str "letters"]) npf)
            have st15 := stand_s (stand_e (stand_s st12 sd) ex t13) s15
            have ep15 := s15 _ _ (lst_e ex (sd _ _ ep12))
            have ef15 : (upd H14 pf (.tup [.str "no", .str "BadTerm", .str "letters"])) pf = some (.tup [.str "no", .str "BadTerm", .str "letters"]) := upd_same
            generalize upd H14 pf (.tup [.str "no", .str "BadTerm", .str "letters"]) = H15 at *
            refine ⟨_, _, rfl, ?_⟩
            refine ⟨_, rfl, rfl, _, rfl, iteF ?_⟩
            refine ⟨_, rfl, rfl, _, rfl, iteT ?_⟩
            refine ⟨_, rfl, pf, _, 0, _, rfl, rfl, SqT.of ef15, atI_nat (j := 0) rfl, rfl, _, rfl, iteT ?_⟩
            refine ⟨_, rfl, 1, rfl, pf, _, rfl, SqT.of ef15, (fun z => by cases z.1), fun q0 n0 => ?_⟩
            refine ⟨(by show 2 ≤ sizeLine; decide), fun q1 n1 => ⟨(by show 2 ≤ sizeLine; decide), fun q2 n2 => ⟨(by show 2 ≤ sizeLine; decide), fun q3 n3 => ?_⟩⟩⟩
            refine ⟨.tuple [.str "BadTerm", .str "letters"], [.tuple [.str "BadTerm", .str "letters"], .tuple [.str "BadTerm", .str "deep"]], ?_, ?_, two_shaped (.inl rfl), lst_shaped, _, rfl, ?_⟩
            · refine .tup (SqT.of (same_new n3 _ _ (same_new n2 _ _ (same_new n1 _ _ ?_)))) (.cons (.str _) (.cons (.str _) .nil))
              rw [upd_same]
              rfl
            · exact .lst (SqL.of upd_same) (.cons (.tup (SqT.of (same_new n3 _ _ (same_new n2 _ _ upd_same))) (.cons (.str _) (.cons (.str _) .nil))) (.cons (.tup (SqT.of (same_new n3 _ _ upd_same)) (.cons (.str _) (.cons (.str _) .nil))) .nil))
            · rw [any_two (.inl rfl)]
              refine iteF ?_
              have s16 := Same.trans (same_new n0) (Same.trans (same_new n1) (Same.trans (same_new n2) (same_new (o := .lst [.ref q1, .ref q2]) n3)))
              refine ⟨_, rfl, rfl, _, rfl, iteT ?_⟩
              refine ⟨_, rfl, pf, _, 0, _, rfl, rfl, SqT.of (s16 _ _ ef15), atI_nat (j := 0) rfl, rfl, _, rfl, iteF ?_⟩
              refine ⟨_, rfl, rfl, _, rfl, iteT ?_⟩
              refine ⟨_, rfl, pf, _, 0, _, rfl, rfl, SqT.of (s16 _ _ ef15), atI_nat (j := 0) rfl, rfl, _, rfl, iteF ?_⟩
              exact ⟨_, _, _, rfl, stand_s st15 s16, s16 _ _ ep15⟩
          · have s15 := Same.trans s14 (same_new (o := .tup [.str "no", .str "BadTerm", .str "deep"]) npf)
            have st15 := stand_s (stand_e (stand_s st12 sd) ex t13) s15
            have ep15 := s15 _ _ (lst_e ex (sd _ _ ep12))
            have ef15 : (upd H14 pf (.tup [.str "no", .str "BadTerm", .str "deep"])) pf = some (.tup [.str "no", .str "BadTerm", .str "deep"]) := upd_same
            generalize upd H14 pf (.tup [.str "no", .str "BadTerm", .str "deep"]) = H15 at *
            refine ⟨_, _, rfl, ?_⟩
            refine ⟨_, rfl, rfl, _, rfl, iteF ?_⟩
            refine ⟨_, rfl, rfl, _, rfl, iteT ?_⟩
            refine ⟨_, rfl, pf, _, 0, _, rfl, rfl, SqT.of ef15, atI_nat (j := 0) rfl, rfl, _, rfl, iteT ?_⟩
            refine ⟨_, rfl, 1, rfl, pf, _, rfl, SqT.of ef15, (fun z => by cases z.1), fun q0 n0 => ?_⟩
            refine ⟨(by show 2 ≤ sizeLine; decide), fun q1 n1 => ⟨(by show 2 ≤ sizeLine; decide), fun q2 n2 => ⟨(by show 2 ≤ sizeLine; decide), fun q3 n3 => ?_⟩⟩⟩
            refine ⟨.tuple [.str "BadTerm", .str "deep"], [.tuple [.str "BadTerm", .str "letters"], .tuple [.str "BadTerm", .str "deep"]], ?_, ?_, two_shaped (.inr rfl), lst_shaped, _, rfl, ?_⟩
            · refine .tup (SqT.of (same_new n3 _ _ (same_new n2 _ _ (same_new n1 _ _ ?_)))) (.cons (.str _) (.cons (.str _) .nil))
              rw [upd_same]
              rfl
            · exact .lst (SqL.of upd_same) (.cons (.tup (SqT.of (same_new n3 _ _ (same_new n2 _ _ upd_same))) (.cons (.str _) (.cons (.str _) .nil))) (.cons (.tup (SqT.of (same_new n3 _ _ upd_same)) (.cons (.str _) (.cons (.str _) .nil))) .nil))
            · rw [any_two (.inr rfl)]
              refine iteF ?_
              have s16 := Same.trans (same_new n0) (Same.trans (same_new n1) (Same.trans (same_new n2) (same_new (o := .lst [.ref q1, .ref q2]) n3)))
              refine ⟨_, rfl, rfl, _, rfl, iteT ?_⟩
              refine ⟨_, rfl, pf, _, 0, _, rfl, rfl, SqT.of (s16 _ _ ef15), atI_nat (j := 0) rfl, rfl, _, rfl, iteF ?_⟩
              refine ⟨_, rfl, rfl, _, rfl, iteT ?_⟩
              refine ⟨_, rfl, pf, _, 0, _, rfl, rfl, SqT.of (s16 _ _ ef15), atI_nat (j := 0) rfl, rfl, _, rfl, iteF ?_⟩
              exact ⟨_, _, _, rfl, stand_s st15 s16, s16 _ _ ep15⟩
          · have hUF : F2 = F := sF F2 eF2
            have s15 := Same.trans s14 (same_new (o := .tup [.str "told", U.v]) npf)
            have st15 := stand_s (stand_e (stand_s st12 sd) ex t13) s15
            have ep15 := s15 _ _ (lst_e ex (sd _ _ ep12))
            have inU15 := inU.keep (Same.tk (same_new (o := .tup [.str "told", U.v]) npf))
            have ef15 : (upd H14 pf (.tup [.str "told", U.v])) pf = some (.tup [.str "told", U.v]) := upd_same
            generalize upd H14 pf (.tup [.str "told", U.v]) = H15 at *
            have cU24 := gd.cnt
            refine ⟨_, _, rfl, ?_⟩
            refine ⟨_, rfl, rfl, _, rfl, iteF ?_⟩
            refine ⟨_, rfl, rfl, _, rfl, iteT ?_⟩
            refine ⟨_, rfl, pf, _, 0, _, rfl, rfl, SqT.of ef15, atI_nat (j := 0) rfl, rfl, _, rfl, iteF ?_⟩
            refine ⟨_, rfl, rfl, _, rfl, iteT ?_⟩
            refine ⟨_, rfl, pf, _, 0, _, rfl, rfl, SqT.of ef15, atI_nat (j := 0) rfl, rfl, _, rfl, iteT ?_⟩
            refine ⟨_, rfl, pf, _, 1, _, rfl, rfl, SqT.of ef15, atI_nat (j := 1) rfl, U, Lt, rfl, inU15, ⟨gd.ok, by omega, gd.few, gd.lets⟩, cU24, fun H16 s16 => ?_⟩
            have fn : U.flaw = none := by
              have := gd.deep
              unfold AT.flaw
              rw [if_neg (by omega), if_neg (by omega)]
            rw [fn]
            refine ⟨rfl, _, rfl, iteF ?_⟩
            have ef16 := s16 _ _ ef15
            have inU16 := inU15.keep (Same.tk s16)
            refine ⟨_, rfl, rfl, _, rfl, iteT ?_⟩
            refine ⟨_, rfl, pf, _, 0, _, rfl, rfl, SqT.of ef16, atI_nat (j := 0) rfl, rfl, _, rfl, iteT ?_⟩
            refine ⟨_, rfl, pf, _, 1, _, rfl, rfl, SqT.of ef16, atI_nat (j := 1) rfl, U, true, rfl, inU16, gd.ok, cU24, by decide, fun H17 s17 => ?_⟩
            obtain ⟨F3, eF3, ev3, l3, f31, f32⟩ := GG_wr gd.ok cU24
            have lw := wr_len gd.ok true
            have nl3 : ∀ j3 : Nat, GG (U.wrL true) 0 init = .inl j3 → False := fun j3 e3 => by rw [eF3] at e3; cases e3
            refine ⟨U.wrL true, rfl, by omega, few_wr gd.ok cU24, fun j3 e3 => (nl3 j3 e3).elim, fun F4 eF4 ri4 => ?_⟩
            have h43 : F4 = F3 := by rw [eF3] at eF4; exact (Sum.inr.inj eF4).symm
            subst h43
            obtain ⟨_, _, _, _, _, lm⟩ := fin_made ri4 f31 f32
            refine ⟨fun z => absurd z (by omega), fun _ => ⟨.inl ⟨U, Lt, gd, ev3⟩, fun U2 Lt2 H18 s18 in2 gd2 c2 ev2 => ?_⟩⟩
            have eU2 : U2.er = U.er := by
              rw [ev3] at ev2
              exact (List.head_eq_of_cons_eq (Option.some.inj ev2)).symm
            have s78 := Same.trans s17 s18
            refine ⟨_, rfl, pf, _, 1, _, rfl, rfl, SqT.of (s78 _ _ ef16), atI_nat (j := 1) rfl, _, _, rfl, Twin.mono (n := 25) (by decide) (twin_er U2 U 24 eU2 in2 (inU16.keep (Same.tk s78)) gd2.cnt), fun H19 s19 => ⟨_, rfl, iteF ?_⟩⟩
            have sall := Same.trans s16 (Same.trans s78 s19)
            exact ⟨_, _, _, rfl, stand_s st15 sall, sall _ _ ep15⟩
      · rintro σ H12 ⟨y7', y8', y9', rfl, st12, ep12⟩
        exact ⟨_, _, _, _, _, _, rfl, st12⟩
    · rintro σ H0 ⟨y4, y5, y6, y7, y8, y9, rfl, O0, eo0, ef0⟩
      exact q H0
end
end Nv

set_option maxRecDepth 100000
set_option maxHeartbeats 4000000
/-! own exception classes over LookupError -/
namespace Nv
open PySem PySem.W PySem.Calls PyProof.Rows PySem.HandSPX Builtin Builtin.ObjectAttr
/-- the mro of LookupError -/
abbrev lkTail : List Value := [.type "LookupError", .type "Exception", .type "BaseException", .type "object"]
def isRf : Value → Bool
  | .ref _ => true
  | _ => false
/-- own classes, then LookupError's -/
def lkMro (l : List Value) : Bool := l.dropWhile isRf == lkTail
theorem lk_ind {l : List Value} (h : lkMro l = true) {Pr : List Value → Prop} (h0 : Pr lkTail) (h1 : ∀ c r, Pr r → Pr (.ref c :: r)) : Pr l := by
  induction l with
  | nil => exact absurd h (by decide)
  | cons a r ih =>
    cases a with
    | ref c => exact h1 c r (ih h)
    | _ =>
      have e := beq_iff_eq.mp h
      rw [show List.dropWhile isRf (_ :: r) = _ :: r from rfl] at e
      rw [e]
      exact h0
theorem lk_pass {l : List Value} (h : lkMro l = true) (me : Value) : refuseLoop me "__setattr__" l = pure () :=
  lk_ind (Pr := fun l => refuseLoop me "__setattr__" l = pure ()) h (F.store_LookupError.passes me) fun c r q => by rw [refuseLoop_ref]; exact q
theorem lk_has {l : List Value} (h : lkMro l = true) (Z : String) : l.contains (.type Z) = lkTail.contains (.type Z) :=
  lk_ind (Pr := fun l => l.contains (.type Z) = lkTail.contains (.type Z)) h rfl fun c r q => by rw [List.contains_cons, q]; rfl
theorem lk_some {l : List Value} (h : lkMro l = true) : l.isEmpty = false := lk_ind (Pr := fun l => l.isEmpty = false) h rfl fun _ _ _ => rfl
section
variable {pr : Program} {w : World} {A : Around} {E : Value → Shared → Prop} {R : Result → Shared → Prop} {hh : Heap} {gs : Array GenState} {dr : PySem.Drawn} {tt : Nat} {oo : OsState}
/-- the way of object.__setattr__ up to the store in the own dict -/
theorem lk_osa {K : W.Frag} {n : Str} {tk : Tok} {v : Value} {x C : Addr} {ox : Obj} {od : Option Obj} {cl : ClassData} (inK : K.In hh) (I : W.InstAt hh x ox C od) (hcl : W.clsIn K C = some cl) (hm : lkMro cl.mro = true) (ha : W.findIn K (.ref C) n = some none)
    (hq : wpAny (model pr w) A.in1 (storeInOwnDict (.ref x) (.ref C) (.str n tk) n v false) (fun f s => match f with
      | .done r => R (.ok r) s
      | .again c => c.quiet = true ∧ codeAny (model pr w) A c R s) (fun e s => R (.error e) s) ⟨hh, gs, dr, tt, oo⟩) :
    codeAny (model pr w) A (.call (.builtin "object.__setattr__") ⟨[.ref x, .str n tk, v], []⟩) R ⟨hh, gs, dr, tt, oo⟩ := by
  have S := F.store_object
  have ob : cl.mro.contains (.type "object") = true := (lk_has hm "object").trans (by decide +kernel)
  have isO : W.Looks (model pr w) hh (isInstance (.ref x) (.type "object")) true := I.type.andThen (W.looks_mroIn inK (by unfold W.mroIn; rw [hcl, Option.bind_some, if_neg (by rw [lk_some hm]; decide), ob]))
  refine codeAny_call_builtin S.slot.plain S.entry (@W.check_slot (model pr w) _ _ ⟨hh, gs, dr, tt, oo⟩ "object.__setattr__" "object" "__setattr__" (.ref x) [.str n tk, v] [] _ S.kind S.split isO (S.args (.ref x) (.str n tk) v) ?_)
  have mr : W.Looks (model pr w) hh (mroOf (.ref C)) cl.mro := (W.looks_clsIn inK hcl).andThen .now
  have no : W.Looks (model pr w) hh (storeTaker? none) none := .now
  rw [W.osa_eq, refuse_eq]
  refine wpAny_bind (wpAny_bind (I.type.at (wpAny_bind (mr.at ?_))))
  rw [lk_pass hm]
  refine wpAny_pure (wpAny_bind (I.type.at (wpAny_bind ((W.looks_findIn inK ha).at (wpAny_bind (no.at ?_))))))
  exact hq
/-- the first field: a dict is laid for it -/
theorem lk_first {K : W.Frag} {n : Str} {tk : Tok} {v : Value} {x C : Addr} {fv : Array Value} {cl : ClassData} (inK : K.In hh) (hx : hh.get? x = some { cls := .ref C, data := .fields fv }) (hcl : W.clsIn K C = some cl) (hm : lkMro cl.mro = true) (hd : cl.hasDict = true) (ha : W.findIn K (.ref C) n = some none)
    (hq : ∀ h2 tk2 dx, (∀ b o, b ≠ x → hh.get? b = some o → h2.get? b = some o) → hh.objs.size ≤ dx → dx ≠ x → h2.get? x = some { cls := .ref C, dict := some dx, data := .fields fv } → h2.Ns1 dx (fun y => if y = n then some v else none) → R (.ok (.ret .none)) ⟨h2, gs, dr, tk2, oo⟩) :
    codeAny (model pr w) A (.call (.builtin "object.__setattr__") ⟨[.ref x, .str n tk, v], []⟩) R ⟨hh, gs, dr, tt, oo⟩ := by
  refine lk_osa inK (ox := { cls := .ref C, data := .fields fv }) (od := none) ⟨hx, rfl, rfl, trivial⟩ hcl hm ha ?_
  have nx : x ≠ hh.objs.size := Nat.ne_of_lt (Heap.lt_size hx)
  have lc : W.Looks (model pr w) hh (classData C) cl := W.looks_clsIn inK hcl
  cases cl with
  | mk c1 c2 c3 c4 c5 c6 c7 c8 c9 c10 c11 =>
  cases (show c6 = true from hd)
  unfold storeInOwnDict ownDictForStores
  repeat (first | with_reducible refine store_in_new ?_ ?_ | with_reducible refine wpAny_loadPart_at hx ?_ | with_reducible refine lc.at ?_ | wp_step)
  · exact ⟨_, #[], _, (Heap.get?_update_ne _ _ _ _ nx.symm).trans (Heap.get?_push_at rfl rfl), rfl, fun _ z => absurd z (by simp), fun _ => rfl⟩
  · intro h2 tk2 hn sb
    have hx2 : (hh.push { cls := .type "dict", data := .dict #[] }).get? x = _ := Heap.get?_push_of_some _ hx
    refine hq h2 tk2 _ (fun b o nb ho => ?_) (Nat.le_refl _) nx.symm ((sb.2 x nx).trans (Heap.get?_update_self _ hx2 rfl)) hn
    rw [sb.2 b (Nat.ne_of_lt (Heap.lt_size ho)), Heap.get?_update_ne _ _ _ _ nb]
    exact Heap.get?_push_of_some _ ho
/-- a further field -/
theorem lk_more {K : W.Frag} {n : Str} {tk : Tok} {v : Value} {x C dx : Addr} {fv : Array Value} {cl : ClassData} {m0 : Str → Option Value} {nl : List Str} (inK : K.In hh) (hx : hh.get? x = some { cls := .ref C, dict := some dx, data := .fields fv }) (hn : hh.Ns1 dx m0) (hw : Within m0 nl) (hz : nl.length ≤ 1000)
    (hcl : W.clsIn K C = some cl) (hm : lkMro cl.mro = true) (hd : cl.hasDict = true) (ha : W.findIn K (.ref C) n = some none)
    (hq : ∀ h2 tk2, (∀ b o, b ≠ dx → hh.get? b = some o → h2.get? b = some o) → h2.Ns1 dx (fun y => if y = n then some v else m0 y) → R (.ok (.ret .none)) ⟨h2, gs, dr, tk2, oo⟩) :
    codeAny (model pr w) A (.call (.builtin "object.__setattr__") ⟨[.ref x, .str n tk, v], []⟩) R ⟨hh, gs, dr, tt, oo⟩ := by
  obtain ⟨oD, _, _, hoD, _, _⟩ := hn.count hw
  refine lk_osa inK (ox := { cls := .ref C, dict := some dx, data := .fields fv }) (od := some oD) ⟨hx, rfl, rfl, hoD⟩ hcl hm ha ?_
  have lc : W.Looks (model pr w) hh (classData C) cl := W.looks_clsIn inK hcl
  cases cl with
  | mk c1 c2 c3 c4 c5 c6 c7 c8 c9 c10 c11 =>
  cases (show c6 = true from hd)
  unfold storeInOwnDict ownDictForStores
  repeat (first | with_reducible refine OEX.store_in_old hn hw hz ?_ | with_reducible refine wpAny_loadPart_at hx ?_ | with_reducible refine lc.at ?_ | wp_step)
  intro h2 tk2 hn2 sb
  exact hq h2 tk2 (fun b o nb ho => (sb.2 b nb).trans ho) hn2
end
theorem lk_typ : typeOf (.type "LookupError") = pure (.type "type") := by kernel_rfl
end Nv

set_option maxRecDepth 100000
set_option maxHeartbeats 4000000
namespace Nv
open PySem PySem.Spec PyProof.Rows L2
/-- what the written part says of an own class over LookupError -/
structure LexC (K : PySem.W.Frag) (C : Addr) : Prop where
  cls : ∃ c1 c2 c3 c4 bm c6 c7 c8 c9 c10 a0 a1 a2 a3 a5, K.lookup C = some (excClassObj c1 c2 C c3 c4 bm true c6 c7 c8 c9 c10 a0 a1 a2 a3 a5 "LookupError.__new__") ∧ lkMro bm = true
  set : PySem.W.findIn K (.ref C) "__setattr__" = some (some (.builtin "object.__setattr__"))
  exc : PySem.W.subIn K (.ref C) (.type "BaseException") = some true
  typ : PySem.W.typeIn K (.ref C) = some (.type "type")
  kp : PySem.W.keepIn K (.ref C) = true
section
variable {X : Cx} {pins : List (Addr × Obj)} {σ : L2.St} {H : Hp} {s : Shared} {a C dx : Addr} {f : Str} {y : V} {u : Value} {fs : List (Str × V)} {Q : Unit → Shared → Prop} {E : Value → Shared → Prop} {A : Around}
theorem LexC.data {K : PySem.W.Frag} (T : LexC K C) : ∃ cd : ClassData, PySem.W.clsIn K C = some cd ∧ lkMro cd.mro = true ∧ cd.hasDict = true := by
  obtain ⟨c1, c2, c3, c4, bm, c6, c7, c8, c9, c10, a0, a1, a2, a3, a5, hC, hb⟩ := T.cls
  refine ⟨{ name := c1, bases := c4, mro := .ref C :: bm, ns := c3, qualname := c2, hasDict := true, slotNames := c6, subclasses := c7, abstract := c8, collection := c9, hasDel := false }, ?_, hb, rfl⟩
  unfold PySem.W.clsIn
  rw [hC]
theorem lset_new (T : LexC X.K C) (I : Inv X pins σ H s) (e : H a = some (exo a C none)) (no : PySem.W.findIn X.K (.ref C) f = some none) (ry : RelV y u)
    (q : ∀ dx s2, H dx = none → dx ≠ a → Inv X pins σ (upd (upd H dx (exd dx [(f, y)])) a (exo a C (some dx))) s2 → Q () s2) : wpAny (model X.prog X.w) A (setAttr (.ref a) f u) Q E s := by
  obtain ⟨cd, hcd, hmr, hhd⟩ := T.data
  obtain ⟨t1, ho⟩ := exo_at I.hok e
  obtain ⟨hh, gs, dr, tt, oo⟩ := s
  refine PySem.W.set_plain I.kIn (ox := { cls := .ref C, dict := none, data := .fields #[.ref t1, .none, .none, .none, .bool false, .none] }) (od := none) ⟨ho, rfl, rfl, trivial⟩ T.set ?_
  refine lk_first I.kIn ho hcd hmr hhd no (fun h2 tk2 dx k big nea hx hn => ?_)
  have free : H dx = none := I.hok.fresh big
  have old : ∀ {b : Addr} {o : Obj}, hh.get? b = some o → b ≠ dx := fun {b o} z => Nat.ne_of_lt (Nat.lt_of_lt_of_le (Heap.lt_size z) big)
  have na : ∀ {b : Addr}, H b = none → b ≠ a := fun {b} n z => by rw [z, e] at n; cases n
  have far : ∀ {b : Addr} {o : HO}, H b = some o → exo a C none ≠ o → upd (upd H dx (exd dx [(f, y)])) a (exo a C (some dx)) b = some o := fun {b o} z ne => by
    rw [upd_ne (at_ne e z ne), upd_ne (ne_of_none z free)]
    exact z
  refine q dx _ free nea (I.un (t' := tk2) ⟨fun b o z n _ _ => k b o (na n) z, fun b o z n _ _ => ⟨o.slots, k b o (na n) z⟩, fun b o z n _ => (upd_ne (na n)).trans ((upd_ne (old z)).trans n), fun b o z _ => ?_, fun b xs z => far z exo_tup, fun b o v z => far z exo_frz, fun b ps z => ⟨#[], by rw [far z exo_tbl]; simp⟩⟩ fun b o z => ?_)
  · by_cases hb : b = a
    · exact ⟨_, hb ▸ hx⟩
    · exact ⟨o, k b o hb z⟩
  · by_cases hb : b = a
    · subst hb
      rw [upd_same] at z
      cases z
      exact exo_ok hx
    · rw [upd_ne hb] at z
      by_cases hd : b = dx
      · subst hd
        rw [upd_same] at z
        cases z
        exact exd_ok hn (relO_put (fs := []) ry fun _ => True.intro)
      · rw [upd_ne hd] at z
        refine (I.hok b o z).stay (fun c v hc y => k c v ?_ y) (fun c hc => far hc exo_own) (fun c xs hc => far hc exo_tup)
        rcases hc with hc | hc
        · exact hc ▸ hb
        · exact at_ne e hc exo_own
theorem lset_old (T : LexC X.K C) (I : Inv X pins σ H s) (e : H a = some (exo a C (some dx))) (ed : H dx = some (exd dx fs)) (hl : fs.length ≤ 900) (no : PySem.W.findIn X.K (.ref C) f = some none) (ry : RelV y u)
    (q : ∀ s2, Inv X pins σ (upd H dx (exd dx ((f, y) :: fs))) s2 → Q () s2) : wpAny (model X.prog X.w) A (setAttr (.ref a) f u) Q E s := by
  obtain ⟨cd, hcd, hmr, hhd⟩ := T.data
  obtain ⟨t1, ho⟩ := exo_at I.hok e
  obtain ⟨mA, hns, rel⟩ := exd_at I.hok ed
  obtain ⟨hh, gs, dr, tt, oo⟩ := s
  obtain ⟨oD, _, _, hoD, _, _⟩ := hns.count (within_of rel)
  refine PySem.W.set_plain I.kIn (ox := { cls := .ref C, dict := some dx, data := .fields #[.ref t1, .none, .none, .none, .bool false, .none] }) (od := some oD) ⟨ho, rfl, rfl, hoD⟩ T.set ?_
  refine lk_more I.kIn ho hns (within_of rel) (by rw [List.length_map]; omega) hcd hmr hhd no (fun h2 tk2 k hn => ?_)
  have there : ∃ o, h2.get? dx = some o := by
    obtain ⟨o, _, _, z, _⟩ := hn
    exact ⟨o, z⟩
  exact q _ (I.write (t' := tk2) (x := dx) (e := dx) (o := exd dx ((f, y) :: fs)) (by rw [ed]; exact True.intro) (.inl rfl) k there (exd_ok hn (relO_put ry rel)))
theorem linit_ok {us : List Value} {Q : Value → Shared → Prop} (T : LexC X.K C) (I : Inv X pins σ H s) (e : H a = some (exo a C none)) (hl : us.length ≤ sizeLine) (q : ∀ s2, Inv X pins σ H s2 → Q .none s2) :
    wpAny (model X.prog X.w) A (call (.builtin "LookupError.__init__") (.ref a :: us)) Q E s := by
  obtain ⟨c1, c2, c3, c4, bm, c6, c7, c8, c9, c10, a0, a1, a2, a3, a5, hC, hb⟩ := T.cls
  obtain ⟨t1, ho⟩ := exo_at I.hok e
  obtain ⟨hh, gs, dr, tt, oo⟩ := s
  refine wpAny_call (PySem.HandSPX.init_base F.excBase_LookupError (lk_has hb) (I.kIn _ _ hC) ho hl fun h2 t2 k hx => ?_)
  have J := I.write (t' := tt) (x := a) (e := a) (o := exo a C none) (by rw [e]; exact True.intro) (.inl rfl) k ⟨_, hx⟩ (exo_ok hx)
  rw [show upd H a (exo a C none) = H from funext fun b => by
    by_cases z : b = a
    · rw [z, upd_same, e]
    · rw [upd_ne z]] at J
  exact q _ J
end
/-- LookupError.__init__(self, ..) -/
def tLkI (K : PySem.W.Frag) (ta : TA) : TE := fun σ H Q => ta σ H fun vs H1 => ∃ (a C : Addr) (ws : List V), vs = .ref a :: ws ∧ ws.length ≤ 1000 ∧ LexC K C ∧ H1 a = some (exo a C none) ∧ Q .non H1
/-- self.f = e -/
def tLst (K : PySem.W.Frag) (f : Str) (to te : TE) : TS := fun D σ H => te σ H fun y H1 => to σ H1 fun x H2 => ∃ a C : Addr, x = .ref a ∧ LexC K C ∧ PySem.W.findIn K (.ref C) f = some none ∧
  ((∃ (dx : Addr) (fs : List (Str × V)), H2 a = some (exo a C (some dx)) ∧ H2 dx = some (exd dx fs) ∧ fs.length ≤ 900 ∧ D.nx σ (upd H2 dx (exd dx ((f, y) :: fs)))) ∨
    (H2 a = some (exo a C none) ∧ ∀ dx, H2 dx = none → dx ≠ a → D.nx σ (upd (upd H2 dx (exd dx [(f, y)])) a (exo a C (some dx)))))
section
variable {X : Cx} {o e : Expr} {es : List Expr} {to te : TE} {ta : TA} {f : Str} {p p' p1 p2 pos : Pos}
theorem pe_leinit {pl : Sem Bool} (hg : Gl X "LookupError") (hm : X.mg "LookupError" = none) (vV : PySem.W.findCls X.K (.type "LookupError") (.type "type") "__init__" = some (.val (.builtin "LookupError.__init__"))) (ha : PA X (e :: es) ta)
    (hc : eval (.Call (.Attribute (.Name "LookupError" p1) "__init__" p2) (e :: es) [] pos) X.env = (do
      let ov ← eval (.Name "LookupError" p1) X.env
      standAt p2.atName
      let (f, first) ← holding [ov] (getMethod ov "__init__" pl)
      callWith pos f first (backTo pos (starEach (e :: es) X.env)) (backToKw pos (keywordEach [] X.env))) := by rfl)
    (he : starEach (e :: es) X.env = (false, eval e X.env) :: starEach es X.env := by rfl) (hpl : (backTo pos (starEach es X.env)).any (·.1) = false := by rfl) :
    PE X (.Call (.Attribute (.Name "LookupError" p1) "__init__" p2) (e :: es) [] pos) (tLkI X.K ta) := by
  refine ⟨fun pins s σ H Q I h => ?_⟩
  refine PySem.W.methodCall_KW (ld_blt I hg hm PyProof.Rows.Boot.«LookupError» ?_ (by decide) (by decide)) hc
  obtain ⟨m, fr⟩ := I.fr
  refine PySem.W.method_type fr I.ok.mod.kin lk_typ (by decide +kernel) vV (by decide +kernel) ?_
  show wpAny _ _ (callWith pos (Value.builtin "LookupError.__init__") [] (backTo pos (starEach (e :: es) X.env)) []) _ _ _
  refine PyProof.Rows.callWith_method1 (thn (ha.run pos pins _ σ H _ (I.tok _) h) fun us s1 z => ?_) he hpl
  obtain ⟨vs, H1, I1, r1, a, C, ws, rfl, hl, T, ea, q⟩ := z
  cases r1 with
  | @cons _ u0 _ ur ra rw' =>
    cases (show u0 = Value.ref a from ra)
    exact linit_ok T I1 ea (by rw [← Paired.length rw', sizeLine_eq]; omega) fun s2 J => ⟨.non, H1, J, rfl, q⟩
theorem ps_lst (ho : PE X o to) (he : PE X e te) (hs : swapsWith e (some (.Attribute o f p')) pos.line X.env = pure false := by rfl) : PS X (.Assign [.Attribute o f p'] e pos) (tLst X.K f to te) := by
  refine ⟨fun pins s σ H D I h => ?_⟩
  refine plainObj_wpAny_Assign_Attribute (thn (he.run pins s σ H _ I h) fun v s1 z1 => ?_) hs
  obtain ⟨y, H1, I1, r1, q1⟩ := z1
  refine thn (ho.run pins s1 σ H1 _ I1 q1) fun u s2 z2 => ?_
  obtain ⟨x, H2, I2, r2, a, C, rfl, T, no, q⟩ := z2
  cases (show u = Value.ref a from r2)
  rcases q with ⟨dx, fs, ea, ed, hl, q⟩ | ⟨ea, q⟩
  · exact lset_old T I2 ea ed hl no r1 fun s3 J => ⟨σ, _, J, q⟩
  · exact lset_new T I2 ea no r1 fun dx s3 n ne J => ⟨σ, _, J, q dx n ne⟩
theorem pmk_lex {CX : CXT} {x : Str} {C fI : Addr} {k : Nat} {fd : FuncData} {ps : List Str} {sp : Sp} {ds : List Value} {dvs : List V} (T : LexC X.K C) (iC : PySem.W.findIn X.K (.ref C) "__init__" = some (some (.ref fI))) (tI : PySem.W.typeIn X.K (.ref fI) = some (.type "function"))
    (G : FnOk X.prog X.w X.K X.mg X.base CX k fI fd ps sp) (hr : Room (k + 1) X.A) (hb : Binds X.K fd ps ds) (hd : Vals dvs ds) (hx : Passes CX X (fun _ _ _ => False)) (hg : Gl X x) (hm : X.mg x = some (.ref C)) (ha : PA X (e :: es) ta)
    (hdb : (x == ("__debug__" : Str)) = false := by decide) (he : starEach (e :: es) X.env = (false, eval e X.env) :: starEach es X.env := by rfl) (hpl : (backTo pos (starEach es X.env)).any (·.1) = false := by rfl) :
    PMk X (.Call (.Name x p) (e :: es) [] pos) (tMkO C sp dvs ta) := by
  intro pins s σ H Q I h
  obtain ⟨c1, c2, c3, c4, bm, c6, c7, c8, c9, c10, a0, a1, a2, a3, a5, hC, hbm⟩ := T.cls
  refine wpAny_Call_Name_kw (ld_glob I hg hm ?_ hdb)
  refine PySem.W.callWith_K (h₀ := X.base) I.ok.mod.kin T.kp (thn (ha.run pos pins s σ H _ I h) fun us s1 z => ?_) he hpl
  obtain ⟨vs, H1, I1, r1, hz, q1⟩ := z
  refine ⟨I1.kIn, ?_⟩
  show wpAny _ _ (call (.ref C) us) _ _ _
  obtain ⟨hh, gs, dr, tt, oo⟩ := s1
  have big : hh.objs.size ≤ hh.objs.size + 1 := Nat.le_succ _
  have hq := q1 (hh.objs.size + 1) (I1.hok.fresh big)
  have keep : ∀ b o, hh.get? b = some o → ((hh.push (PySem.W.kdv_tup us)).push (PySem.HandSPX.excO C hh.objs.size)).get? b = some o := fun b o z => Heap.get?_push_of_some _ (Heap.get?_push_of_some _ z)
  have itself : ((hh.push (PySem.W.kdv_tup us)).push (PySem.HandSPX.excO C hh.objs.size)).get? (hh.objs.size + 1) = some (PySem.HandSPX.excO C hh.objs.size) := by heap_get
  have I2 := I1.laid (t' := tt) (a := hh.objs.size + 1) (o := exo (hh.objs.size + 1) C none) (h' := (hh.push (PySem.W.kdv_tup us)).push (PySem.HandSPX.excO C hh.objs.size)) keep big (exo_ok itself)
  have r2 : Vals (V.ref (hh.objs.size + 1) :: (vs ++ dvs)) (Value.ref (hh.objs.size + 1) :: (us ++ ds)) := .cons rfl (r1.append hd)
  have ln : (Value.ref (hh.objs.size + 1) :: us ++ ds).length = ps.length := r2.length.symm.trans (G.len _ _ _ _ hq)
  have lu : us.length ≤ sizeLine := by rw [← Paired.length r1, sizeLine_eq]; omega
  refine wpAny_call (PySem.HandSPX.call_own F.excBase_LookupError (lk_has hbm) (I1.kIn _ _ hC) (PySem.W.looks_findIn I1.kIn iC) (fun me => PySem.W.bind_fn I1.kIn me tI) lu (codeAny_mono (G.run _ X.stack _ _ ⟨Value.ref (hh.objs.size + 1) :: us, []⟩ (Value.ref (hh.objs.size + 1) :: (us ++ ds)) _ _ (fun _ _ _ => False) (hr.make C us []) (I2.env0.make C us []) (hb _ (Value.ref (hh.objs.size + 1) :: us) I2.kIn ln) r2 hq) fun r s2 z => ?_))
  match r, z with
  | .error er, z => exact hx pins σ _ _ er s2 I2 z
  | .ok (.ret u), z =>
    obtain ⟨v, H2, os2, bare, un, hok, rv, ev, d, fs, ea, ed, hd1, q2⟩ := z
    subst ev
    obtain ⟨h2, g2, d2, t2, os'⟩ := s2
    exact ⟨rv, mk_end (raises_own T.exc T.typ) I1 big keep un hok os2 bare ea ed hd1 q2⟩
  | .ok .next, z => exact False.elim z
  | .ok .brk, z => exact False.elim z
  | .ok .cont, z => exact False.elim z
end
end Nv

set_option maxRecDepth 100000
set_option maxHeartbeats 4000000
namespace Nv
open PySem PySem.Spec PyProof.Rows L2 LamX
/-! the head by a run: which objects are looked at, the Hook, what it tells -/
/-- what is looked at behind an object -/
def kids (g : Addr → Option Obj) (a : Addr) : List Addr := match g a with
  | some ⟨_, _, .func fd, _⟩ => He.refV fd.code ++ He.refV fd.defaults
  | some ⟨_, _, .cls cd, _⟩ => [cd.ns]
  | some ⟨_, _, .dict es _, _⟩ => es.toList.flatMap fun e => He.refV e.val
  | _ => []
def kidsL (g : Addr → Option Obj) (l : List Addr) : List Addr := l.flatMap (kids g)
/-- the module's names, their codes and defaults, the classes' names, their codes and defaults -/
def seen1 (g : Addr → Option Obj) : List Addr := kidsL g [mainGlobals]
def seen2 (g : Addr → Option Obj) : List Addr := kidsL g (seen1 g)
def seen3 (g : Addr → Option Obj) : List Addr := kidsL g (seen2 g)
def seen4 (g : Addr → Option Obj) : List Addr := kidsL g (seen3 g)
def seenAll (g : Addr → Option Obj) : List Addr := mainGlobals :: cStatics :: (seen1 g ++ (seen2 g ++ (seen3 g ++ seen4 g)))
def frY (g : Addr → Option Obj) : PySem.W.Frag := He.frT g (seenAll g)
def obsY (fa : List He.Fa) (fn : List He.DefD) (tf : List He.Defn) (ex : PySem.W.Frag → Bool) (g : Addr → Option Obj) : He.AlX := (He.obsT fa fn [] (frY g), ex (frY g) && He.tabsB g tf (frY g))
theorem saysY_of {fa : List He.Fa} {fn : List He.DefD} {tf : List He.Defn} {ex : PySem.W.Frag → Bool} {w : World} {h : Heap} (e : obsY fa fn tf ex h.get? = He.valX fn [] w) : He.SaysX fa fn [] tf ex w h (frY h.get?) := by
  have e1 : He.obsT fa fn [] (frY h.get?) = He.valT fn [] w := congrArg Prod.fst e
  have e2 : (ex (frY h.get?) && He.tabsB h.get? tf (frY h.get?)) = true := congrArg Prod.snd e
  obtain ⟨h1, h2⟩ := He.ba e2
  have key : ∀ p ∈ tf, PySem.W.codeHdIn (frY h.get?) (He.cT (frY h.get?) p).1 (He.cT (frY h.get?) p).2 = true ∧ ∃ o, h.get? (He.cT (frY h.get?) p).2 = some o ∧ He.emptyTab o = true := by
    intro p hp
    obtain ⟨h3, h4⟩ := He.ba (List.all_eq_true.mp h2 p hp)
    refine ⟨h3, ?_⟩
    cases q : h.get? (He.cT (frY h.get?) p).2 with
    | some o => rw [q] at h4; exact ⟨o, rfl, h4⟩
    | none => rw [q] at h4; cases h4
  refine ⟨e1, h1, fun p hp => (key p hp).1, fun p hp => ?_, fun p hp => ?_⟩
  · obtain ⟨_, o, q, z⟩ := key p hp
    exact He.frT_none q z
  · obtain ⟨_, o, q, z⟩ := key p hp
    rw [q, He.emptyTab_eq z]
def hookY (fa : List He.Fa) (fn : List He.DefD) (tf : List He.Defn) (ex : PySem.W.Frag → Bool) : PySem.W.Hook where
  α := He.AlX
  obs := fun s => obsY fa fn tf ex s.heap.get?
  val := fun w => He.valX fn [] w
  says := fun w h => ∃ K : PySem.W.Frag, K.In h ∧ He.SaysX fa fn [] tf ex w h K
  of := fun w s e => ⟨frY s.heap.get?, He.frT_in, saysY_of e⟩
  keeps := fun w h h2 ⟨K, hK, c⟩ k => ⟨K, PySem.W.Frag.In.keeps hK k, ⟨c.t, c.more, c.hd, c.out, fun p hp => k _ _ (c.empty p hp)⟩⟩
theorem obsY_eq {fa : List He.Fa} {fn : List He.DefD} {tf : List He.Defn} {ex : PySem.W.Frag → Bool} (s : PySem.W.SharedT) : obsY fa fn tf ex (HandSHeadRun.getT s) = (hookY fa fn tf ex).obs s.abs := by
  have e : HandSHeadRun.getT s = s.abs.heap.get? := funext (HandSHeadRun.getT_eq s)
  rw [e]
  rfl
/-! further facts: a list of looks -/
def allB (l : List (PySem.W.Frag → Bool)) (K : PySem.W.Frag) : Bool := l.all fun f => f K
theorem allB_at {l : List (PySem.W.Frag → Bool)} {K : PySem.W.Frag} (h : allB l K = true) (i : Nat) {f : PySem.W.Frag → Bool} (e : l[i]? = some f := by rfl) : f K = true := List.all_eq_true.mp h f (List.mem_of_getElem? e)
/-- an own exception class: mr: what its bases must be, nw: whose __new__ -/
def exB (mr : List Value → Bool) (nw : String) (K : PySem.W.Frag) (C : Addr) : Bool := match K.lookup C with
  | some ⟨.type t, _, .cls cd, sl⟩ => decide (t = "type") && (match cd.mro with
    | .ref D :: bm => (match sl.toList with
      | [_, _, _, _, some (.builtin n), _] => decide (D = C) && (decide (n = nw) && (!cd.hasDel && (cd.hasDict && mr bm)))
      | _ => false)
    | _ => false)
  | _ => false
theorem exB_ok {mr : List Value → Bool} {nw : String} {K : PySem.W.Frag} {C : Addr} (h : exB mr nw K C = true) : ∃ c1 c2 c3 c4 bm c6 c7 c8 c9 c10 a0 a1 a2 a3 a5, K.lookup C = some (excClassObj c1 c2 C c3 c4 bm true c6 c7 c8 c9 c10 a0 a1 a2 a3 a5 nw) ∧ mr bm = true := by
  unfold exB at h
  split at h
  · rename_i t dd cd sl hl
    obtain ⟨h1, h2⟩ := He.ba h
    split at h2
    · rename_i D bm hm
      split at h2
      · rename_i a0 a1 a2 a3 n a5 hs
        obtain ⟨h3, h4⟩ := He.ba h2
        obtain ⟨h5, h6⟩ := He.ba h4
        obtain ⟨h7, h8⟩ := He.ba h6
        obtain ⟨h9, h10⟩ := He.ba h8
        have et := of_decide_eq_true h1
        have eD := of_decide_eq_true h3
        have en := of_decide_eq_true h5
        have hdel : cd.hasDel = false := by
          cases q : cd.hasDel with
          | false => rfl
          | true => rw [q] at h7; cases h7
        subst et eD en
        obtain ⟨b1, b2, b3, b4, b5, b6, b7, b8, b9, b10, b11⟩ := cd
        have e1 : b3 = .ref D :: bm := hm
        have e2 : b6 = true := h9
        have e3 : b11 = false := hdel
        have e4 : sl = #[a0, a1, a2, a3, some (.builtin n), a5] := by
          rw [← Array.toArray_toList (xs := sl), hs]
        subst e1 e2 e3 e4
        exact ⟨b1, b5, b4, b2, bm, b7, b8, b9, b10, dd, a0, a1, a2, a3, a5, hl, h10⟩
      · cases h2
    · cases h2
  · cases h
def excB (mr : List Value → Bool) (nw : String) (x : Str) (K : PySem.W.Frag) : Bool := exB mr nw K (He.ga K x) && (He.eqO (PySem.W.findIn K (.ref (He.ga K x)) "__setattr__") (some (some (.builtin "object.__setattr__"))) && (decide (PySem.W.subIn K (.ref (He.ga K x)) (.type "BaseException") = some true) &&
  (decide (PySem.W.typeIn K (.ref (He.ga K x)) = some (.type "type")) && PySem.W.keepIn K (.ref (He.ga K x)))))
/-- an own class over ValueError -/
def oexB (x : Str) (K : PySem.W.Frag) : Bool := excB PySem.HandSPX.refsVE "ValueError.__new__" x K
/-- an own class over LookupError -/
def lexB (x : Str) (K : PySem.W.Frag) : Bool := excB lkMro "LookupError.__new__" x K
theorem oexB_ok {x : Str} {K : PySem.W.Frag} (h : oexB x K = true) : OexC K (He.ga K x) := by
  obtain ⟨h1, h⟩ := He.ba h
  obtain ⟨h2, h⟩ := He.ba h
  obtain ⟨h3, h⟩ := He.ba h
  obtain ⟨h4, h5⟩ := He.ba h
  exact ⟨exB_ok h1, He.eqO_ok h2, of_decide_eq_true h3, of_decide_eq_true h4, h5⟩
theorem lexB_ok {x : Str} {K : PySem.W.Frag} (h : lexB x K = true) : LexC K (He.ga K x) := by
  obtain ⟨h1, h⟩ := He.ba h
  obtain ⟨h2, h⟩ := He.ba h
  obtain ⟨h3, h⟩ := He.ba h
  obtain ⟨h4, h5⟩ := He.ba h
  exact ⟨exB_ok h1, He.eqO_ok h2, of_decide_eq_true h3, of_decide_eq_true h4, h5⟩
/-- what reading C.__init__ of an own class finds -/
def initB (x : Str) (K : PySem.W.Frag) : Bool := match PySem.W.findCls K (.ref (He.ga K x)) (.type "type") "__init__" with
  | some (.val (.ref a)) => decide (a = He.ma K (He.ga K x) "__init__")
  | _ => false
theorem initB_ok {x : Str} {K : PySem.W.Frag} (h : initB x K = true) : PySem.W.findCls K (.ref (He.ga K x)) (.type "type") "__init__" = some (.val (.ref (He.ma K (He.ga K x) "__init__"))) := by
  unfold initB at h
  split at h
  · rename_i a e
    rw [e, of_decide_eq_true h]
  · cases h
/-- .. of a built-in one -/
def initT (t : String) (b : String) (K : PySem.W.Frag) : Bool := match PySem.W.findCls K (.type t) (.type "type") "__init__" with
  | some (.val (.builtin a)) => decide (a = b)
  | _ => false
theorem initT_ok {t b : String} {K : PySem.W.Frag} (h : initT t b K = true) : PySem.W.findCls K (.type t) (.type "type") "__init__" = some (.val (.builtin b)) := by
  unfold initT at h
  split at h
  · rename_i a e
    rw [e, of_decide_eq_true h]
  · cases h
/-- C.name may be read -/
def readB (x : Str) (K : PySem.W.Frag) : Bool := PySem.W.readsIn K (He.ga K x) (.type "type") && He.eqO (PySem.W.specialIn K (.ref (He.ga K x)) "__getattribute__") (some (some (.builtin "type.__getattribute__")))
theorem readB_ok {x : Str} {K : PySem.W.Frag} (h : readB x K = true) : PySem.W.readsIn K (He.ga K x) (.type "type") = true ∧ PySem.W.specialIn K (.ref (He.ga K x)) "__getattribute__" = some (some (.builtin "type.__getattribute__")) := ⟨(He.ba h).1, He.eqO_ok (He.ba h).2⟩
/-- the method is a function -/
def fnT (x m : Str) (K : PySem.W.Frag) : Bool := decide (PySem.W.typeIn K (.ref (He.ma K (He.ga K x) m)) = some (.type "function"))
theorem fnT_ok {x m : Str} {K : PySem.W.Frag} (h : fnT x m K = true) : PySem.W.typeIn K (.ref (He.ma K (He.ga K x) m)) = some (.type "function") := of_decide_eq_true h
def xfK (x : Str) (K : PySem.W.Frag) : Bool := xfB K (He.ga K x)
theorem xfK_ok {x : Str} {K : PySem.W.Frag} (h : xfK x K = true) : XfC K (He.ga K x) := xfB_ok h
/-- a def without defaults -/
theorem fun_of {K : PySem.W.Frag} {x q : Str} {st : Stmt} {f : Addr} {fd : FuncData} (F : FunD K x q (defArgs st) (defBody st) (defScope st) [] [] f fd) : Fun K x q st f fd := by
  obtain ⟨oc, od, dV, kV, doc, pm, an, cdv, ct, osl, e, lk, hc, hd, _⟩ := F.ex
  rcases hd with ⟨z, _⟩ | ⟨z, _⟩
  · have ez : dV = .none := by first | exact z | assumption
    subst ez
    exact ⟨⟨oc, od, kV, doc, pm, an, cdv, ct, osl, e, lk, hc⟩, F.kp⟩
  · exact absurd rfl z
/-- the law's own def and its table -/
theorem law_at {K : PySem.W.Frag} {h : Heap} {w : World} {fa : List He.Fa} {fn : List He.DefD} {tf : List He.Defn} {ex : PySem.W.Frag → Bool} {x q : Str} {st : Stmt} {fd : FuncData} (c : He.SaysX fa fn [] tf ex w h K) (F : FunD K x q (defArgs st) (defBody st) (defScope st) [] [] (He.fAd K (x, none)) fd) (ht : ((x, none) : He.Defn) ∈ tf) :
    ∃ (oc : Value) (od : Option Addr) (kV doc pm : Value) (an : Option Addr) (cc Pt : Addr) (ct : Value) (osl : Array (Option Value)), K.lookup (He.ga K x) = some ⟨oc, od, .func (PySem.W.fnOf x q (defArgs st) (defBody st) (defScope st) .none kV doc pm an (.ref cc) ct), osl⟩ ∧ PySem.W.codeIn K (.ref cc) q = true ∧ PySem.W.codeHdIn K cc Pt = true ∧
      h.get? Pt = some { cls := .none, data := .fields #[] } ∧ K.lookup Pt = none := by
  obtain ⟨oc, od, dV, kV, doc, pm, an, cdv, ct, osl, e, lk, hc, hd, _⟩ := F.ex
  obtain ⟨cc, ecc⟩ := He.codeIn_ref hc
  subst ecc
  subst e
  have ec : He.codeOf K (x, none) = cc := He.codeOf_eq lk rfl
  have e1 := c.hd _ ht
  have e2 := c.out _ ht
  have e3 := c.empty _ ht
  unfold He.cT at e1 e2 e3
  rw [ec] at e1 e2 e3
  rcases hd with ⟨z, _⟩ | ⟨z, _⟩
  · have ez : dV = .none := by first | exact z | assumption
    subst ez
    exact ⟨oc, od, kV, doc, pm, an, cc, He.tabOf K cc, ct, osl, lk, hc, e1, e3, e2⟩
  · exact absurd rfl z
end Nv

set_option maxRecDepth 100000
set_option maxHeartbeats 4000000
namespace Nv
open PySem PySem.Spec PyProof.Rows L2 LamX
/-! .. with dicts of the top -/
def obsZ (fa : List He.Fa) (fn : List He.DefD) (ts : List He.Tab) (tf : List He.Defn) (ex : PySem.W.Frag → Bool) (g : Addr → Option Obj) : He.AlX := (He.obsT fa fn ts (frY g), ex (frY g) && He.tabsB g tf (frY g))
theorem saysZ_of {fa : List He.Fa} {fn : List He.DefD} {ts : List He.Tab} {tf : List He.Defn} {ex : PySem.W.Frag → Bool} {w : World} {h : Heap} (e : obsZ fa fn ts tf ex h.get? = He.valX fn ts w) : He.SaysX fa fn ts tf ex w h (frY h.get?) := by
  have e1 : He.obsT fa fn ts (frY h.get?) = He.valT fn ts w := congrArg Prod.fst e
  have e2 : (ex (frY h.get?) && He.tabsB h.get? tf (frY h.get?)) = true := congrArg Prod.snd e
  obtain ⟨h1, h2⟩ := He.ba e2
  have key : ∀ p ∈ tf, PySem.W.codeHdIn (frY h.get?) (He.cT (frY h.get?) p).1 (He.cT (frY h.get?) p).2 = true ∧ ∃ o, h.get? (He.cT (frY h.get?) p).2 = some o ∧ He.emptyTab o = true := by
    intro p hp
    obtain ⟨h3, h4⟩ := He.ba (List.all_eq_true.mp h2 p hp)
    refine ⟨h3, ?_⟩
    cases q : h.get? (He.cT (frY h.get?) p).2 with
    | some o => rw [q] at h4; exact ⟨o, rfl, h4⟩
    | none => rw [q] at h4; cases h4
  refine ⟨e1, h1, fun p hp => (key p hp).1, fun p hp => ?_, fun p hp => ?_⟩
  · obtain ⟨_, o, q, z⟩ := key p hp
    exact He.frT_none q z
  · obtain ⟨_, o, q, z⟩ := key p hp
    rw [q, He.emptyTab_eq z]
def hookZ (fa : List He.Fa) (fn : List He.DefD) (ts : List He.Tab) (tf : List He.Defn) (ex : PySem.W.Frag → Bool) : PySem.W.Hook where
  α := He.AlX
  obs := fun s => obsZ fa fn ts tf ex s.heap.get?
  val := fun w => He.valX fn ts w
  says := fun w h => ∃ K : PySem.W.Frag, K.In h ∧ He.SaysX fa fn ts tf ex w h K
  of := fun w s e => ⟨frY s.heap.get?, He.frT_in, saysZ_of e⟩
  keeps := fun w h h2 ⟨K, hK, c⟩ k => ⟨K, PySem.W.Frag.In.keeps hK k, ⟨c.t, c.more, c.hd, c.out, fun p hp => k _ _ (c.empty p hp)⟩⟩
theorem obsZ_eq {fa : List He.Fa} {fn : List He.DefD} {ts : List He.Tab} {tf : List He.Defn} {ex : PySem.W.Frag → Bool} (s : PySem.W.SharedT) : obsZ fa fn ts tf ex (HandSHeadRun.getT s) = (hookZ fa fn ts tf ex).obs s.abs := by
  have e : HandSHeadRun.getT s = s.abs.heap.get? := funext (HandSHeadRun.getT_eq s)
  rw [e]
  rfl
/-- a dict of the top, by name -/
def tabN (x : Str) (ks : List Str) : He.Tab := (fun K => He.ga K x, ks)
/-- .. and its values -/
def dctB (x : Str) (kvs : List (Str × He.Dv)) (K : PySem.W.Frag) : Bool := He.valsB K (He.ga K x) kvs
theorem kdct {K : PySem.W.Frag} {w : World} {x : Str} {kvs : List (Str × He.Dv)} {es : Array DictEntry} {n : Nat} (D : KDict K w (He.ga K x) es n) (h : dctB x kvs K = true) {k : Str} {v : He.Dv} (hq : (k, v) ∈ kvs) : KDct K w (He.ga K x) k (v.v K) := by
  obtain ⟨u, e, r⟩ := He.valsB_ok h hq
  exact ⟨es, n, u, D.at_, D.lit, e, r⟩
/-- a tuple of the top -/
def tupN (x : Str) (vs : List He.Dv) (K : PySem.W.Frag) : Bool := He.tupB K x vs
end Nv

set_option maxRecDepth 100000
set_option maxHeartbeats 4000000
namespace Nv
open PySem PySem.Spec PyProof.Rows L2 LamX
/-- the law's own def and its table of lambdas, with dicts of the top -/
theorem law_atT {K : PySem.W.Frag} {h : Heap} {w : World} {fa : List He.Fa} {fn : List He.DefD} {ts : List He.Tab} {tf : List He.Defn} {ex : PySem.W.Frag → Bool} {x q : Str} {st : Stmt} {fd : FuncData} (c : He.SaysX fa fn ts tf ex w h K) (F : FunD K x q (defArgs st) (defBody st) (defScope st) [] [] (He.fAd K (x, none)) fd) (ht : ((x, none) : He.Defn) ∈ tf) :
    ∃ (oc : Value) (od : Option Addr) (kV doc pm : Value) (an : Option Addr) (cc Pt : Addr) (ct : Value) (osl : Array (Option Value)), K.lookup (He.ga K x) = some ⟨oc, od, .func (PySem.W.fnOf x q (defArgs st) (defBody st) (defScope st) .none kV doc pm an (.ref cc) ct), osl⟩ ∧ PySem.W.codeIn K (.ref cc) q = true ∧ PySem.W.codeHdIn K cc Pt = true ∧
      h.get? Pt = some { cls := .none, data := .fields #[] } ∧ K.lookup Pt = none := by
  obtain ⟨oc, od, dV, kV, doc, pm, an, cdv, ct, osl, e, lk, hc, hd, _⟩ := F.ex
  obtain ⟨cc, ecc⟩ := He.codeIn_ref hc
  subst ecc
  subst e
  have ec : He.codeOf K (x, none) = cc := He.codeOf_eq lk rfl
  have e1 := c.hd _ ht
  have e2 := c.out _ ht
  have e3 := c.empty _ ht
  unfold He.cT at e1 e2 e3
  rw [ec] at e1 e2 e3
  rcases hd with ⟨z, _⟩ | ⟨z, _⟩
  · have ez : dV = .none := by first | exact z | assumption
    subst ez
    exact ⟨oc, od, kV, doc, pm, an, cc, He.tabOf K cc, ct, osl, lk, hc, e1, e3, e2⟩
  · exact absurd rfl z
/-- a dict of the top has no keys but these texts -/
def keysB (x : Str) (ks : List Str) (K : PySem.W.Frag) : Bool := match K.lookup (He.ga K x) with
  | some ⟨_, _, .dict es _, _⟩ => es.toList.all fun e => (!e.refKey) && (match e.key with
    | .str s _ => decide (s ∈ ks)
    | _ => false)
  | _ => false
theorem keysB_no {x : Str} {ks : List Str} {K : PySem.W.Frag} (h : keysB x ks K = true) {z : Str} (hz : z ∉ ks) : PySem.W.nsIn K (He.ga K x) z = some none := by
  unfold keysB at h
  unfold PySem.W.nsIn
  cases e : K.lookup (He.ga K x) with
  | none => rw [e] at h; cases h
  | some o =>
    rw [e] at h
    obtain ⟨c, d, dt, sl⟩ := o
    cases dt with
    | dict es n =>
      replace h : (es.toList.all fun e => (!e.refKey) && (match e.key with
        | .str s _ => decide (s ∈ ks)
        | _ => false)) = true := h
      have h2 := List.all_eq_true.mp h
      have h3 : es.toList.find? (fun e => e.key.isStr z) = none := by
        refine List.find?_eq_none.mpr fun e he hk => ?_
        have h4 := h2 e he
        obtain ⟨_, h5⟩ := He.ba h4
        cases ek : e.key with
        | str s t =>
          rw [ek] at h5 hk
          have h6 : s ∈ ks := of_decide_eq_true h5
          have h7 : s = z := eq_of_beq hk
          exact hz (h7 ▸ h6)
        | _ => rw [ek] at h5; cases h5
      have h8 : es.toList.any (fun e => e.refKey) = false := by
        refine List.any_eq_false.mpr fun e he hk => ?_
        obtain ⟨h5, _⟩ := He.ba (h2 e he)
        rw [hk] at h5
        cases h5
      show (match es.toList.find? (fun e => e.key.isStr z) with
        | some e => some (some e.val)
        | none => if es.toList.any (fun e => e.refKey) then none else some none) = some none
      rw [h3, h8]
      rfl
    | _ => cases h
end Nv

set_option maxRecDepth 100000
namespace Nv
open PySem PySem.Spec PyProof.Rows L2 LamX
def d0 : He.DefD := ⟨("law", none), "law", "law", defArgs sLaw, defBody sLaw, defScope sLaw, [], []⟩
def d1 : He.DefD := ⟨("common_divisor", none), "common_divisor", "common_divisor", defArgs sGcd, defBody sGcd, defScope sGcd, [], []⟩
def d2 : He.DefD := ⟨("figures_of", none), "figures_of", "figures_of", defArgs sFig, defBody sFig, defScope sFig, [], []⟩
def d3 : He.DefD := ⟨("share_text", none), "share_text", "share_text", defArgs sText, defBody sText, defScope sText, [], []⟩
def d4 : He.DefD := ⟨("read_figures", none), "read_figures", "read_figures", defArgs sFigs, defBody sFigs, defScope sFigs, [], []⟩
def d5 : He.DefD := ⟨("read_share", none), "read_share", "read_share", defArgs sRead, defBody sRead, defScope sRead, [], []⟩
def d6 : He.DefD := ⟨("is_number", none), "is_number", "is_number", defArgs sNum, defBody sNum, defScope sNum, [], []⟩
def d7 : He.DefD := ⟨("is_share", none), "is_share", "is_share", defArgs sIsSh, defBody sIsSh, defScope sIsSh, [], []⟩
def d8 : He.DefD := ⟨("is_letter", none), "is_letter", "is_letter", defArgs sIsLe, defBody sIsLe, defScope sIsLe, [], []⟩
def d9 : He.DefD := ⟨("is_built", none), "is_built", "is_built", defArgs sBuilt, defBody sBuilt, defScope sBuilt, [], []⟩
def d10 : He.DefD := ⟨("things_in", none), "things_in", "things_in", defArgs sThings, defBody sThings, defScope sThings, [], []⟩
def d11 : He.DefD := ⟨("flaw_of", none), "flaw_of", "flaw_of", defArgs sFlaw, defBody sFlaw, defScope sFlaw, [], []⟩
def d12 : He.DefD := ⟨("need_term", none), "need_term", "need_term", defArgs sNeedT, defBody sNeedT, defScope sNeedT, [], []⟩
def d13 : He.DefD := ⟨("built", none), "built", "built", defArgs sBui, defBody sBui, defScope sBui, [], []⟩
def d14 : He.DefD := ⟨("read_term", none), "read_term", "read_term", defArgs sRTm, defBody sRTm, defScope sRTm, [], []⟩
def d15 : He.DefD := ⟨("_law_bag", none), "_law_bag", "_law_bag", defArgs sBag, defBody sBag, defScope sBag, [], []⟩
def d16 : He.DefD := ⟨("_law_pull", none), "_law_pull", "_law_pull", defArgs sPull, defBody sPull, defScope sPull, [], []⟩
def d17 : He.DefD := ⟨("_law_of", none), "_law_of", "_law_of", defArgs sOf, defBody sOf, defScope sOf, [], []⟩
def d18 : He.DefD := ⟨("_law_same", none), "_law_same", "_law_same", defArgs sSame, defBody sSame, defScope sSame, [], []⟩
def d19 : He.DefD := ⟨("_law_gcd", none), "_law_gcd", "_law_gcd", defArgs sLGcd, defBody sLGcd, defScope sLGcd, [], []⟩
def d20 : He.DefD := ⟨("_law_fr", none), "_law_fr", "_law_fr", defArgs sLFr, defBody sLFr, defScope sLFr, [], []⟩
def d21 : He.DefD := ⟨("_law_light", none), "_law_light", "_law_light", defArgs sLight, defBody sLight, defScope sLight, [], []⟩
def d22 : He.DefD := ⟨("_law_abc", none), "_law_abc", "_law_abc", defArgs sAbc, defBody sAbc, defScope sAbc, [], []⟩
def d23 : He.DefD := ⟨("_law_leaf", none), "_law_leaf", "_law_leaf", defArgs sLeaf, defBody sLeaf, defScope sLeaf, [], []⟩
def d24 : He.DefD := ⟨("_law_drawn", none), "_law_drawn", "_law_drawn", defArgs sDrawn, defBody sDrawn, defScope sDrawn, [], []⟩
def d25 : He.DefD := ⟨("_law_bind", none), "_law_bind", "_law_bind", defArgs sBnd, defBody sBnd, defScope sBnd, [], []⟩
def d26 : He.DefD := ⟨("_law_share_text", none), "_law_share_text", "_law_share_text", defArgs sLST, defBody sLST, defScope sLST, [], []⟩
def d27 : He.DefD := ⟨("_law_put_in", none), "_law_put_in", "_law_put_in", defArgs sPutI, defBody sPutI, defScope sPutI, [], []⟩
def d28 : He.DefD := ⟨("_law_wrote", none), "_law_wrote", "_law_wrote", defArgs sWro, defBody sWro, defScope sWro, [], []⟩
def d29 : He.DefD := ⟨("_law_inner", none), "_law_inner", "_law_inner", defArgs sInner, defBody sInner, defScope sInner, [], []⟩
def d30 : He.DefD := ⟨("_law_count", none), "_law_count", "_law_count", defArgs sLCount, defBody sLCount, defScope sLCount, [], []⟩
def d31 : He.DefD := ⟨("_law_depth", none), "_law_depth", "_law_depth", defArgs sLDepth, defBody sLDepth, defScope sLDepth, [], []⟩
def d32 : He.DefD := ⟨("_law_all_parts", none), "_law_all_parts", "_law_all_parts", defArgs sAllP, defBody sAllP, defScope sAllP, [], []⟩
def d33 : He.DefD := ⟨("_law_letters", none), "_law_letters", "_law_letters", defArgs sLLets, defBody sLLets, defScope sLLets, [], []⟩
def d34 : He.DefD := ⟨("_law_fault", none), "_law_fault", "_law_fault", defArgs sFault, defBody sFault, defScope sFault, [], []⟩
def d35 : He.DefD := ⟨("_law_run", none), "_law_run", "_law_run", defArgs sLRun, defBody sLRun, defScope sLRun, [], []⟩
def d36 : He.DefD := ⟨("_law_number_in", none), "_law_number_in", "_law_number_in", defArgs sNumIn, defBody sNumIn, defScope sNumIn, [], []⟩
def d37 : He.DefD := ⟨("_law_share_in", none), "_law_share_in", "_law_share_in", defArgs sShIn, defBody sShIn, defScope sShIn, [], []⟩
def d38 : He.DefD := ⟨("_law_wanted", none), "_law_wanted", "_law_wanted", defArgs sWan, defBody sWan, defScope sWan, [], []⟩
def d39 : He.DefD := ⟨("_law_read_at", none), "_law_read_at", "_law_read_at", defArgs sRdA, defBody sRdA, defScope sRdA, [], []⟩
def d40 : He.DefD := ⟨("_law_bent_text", none), "_law_bent_text", "_law_bent_text", defArgs sBen, defBody sBen, defScope sBen, [], []⟩
def d41 : He.DefD := ⟨("_law_asked", none), "_law_asked", "_law_asked", defArgs sAsked, defBody sAsked, defScope sAsked, [], []⟩
def d42 : He.DefD := ⟨("BadShare", some "__init__"), "__init__", "BadShare.__init__", defArgs sBS, defBody sBS, defScope sBS, [], []⟩
def d43 : He.DefD := ⟨("ByNought", some "__init__"), "__init__", "ByNought.__init__", defArgs sBN, defBody sBN, defScope sBN, [], []⟩
def d44 : He.DefD := ⟨("BadTerm", some "__init__"), "__init__", "BadTerm.__init__", defArgs sBTm, defBody sBTm, defScope sBTm, [], []⟩
def d45 : He.DefD := ⟨("BadText", some "__init__"), "__init__", "BadText.__init__", defArgs sBTx, defBody sBTx, defScope sBTx, [], []⟩
def d46 : He.DefD := ⟨("Reading", some "__init__"), "__init__", "Reading.__init__", defArgs sRIni, defBody sRIni, defScope sRIni, [], []⟩
def d47 : He.DefD := ⟨("Reading", some "ended"), "ended", "Reading.ended", defArgs sREnd, defBody sREnd, defScope sREnd, [], []⟩
def d48 : He.DefD := ⟨("Reading", some "run"), "run", "Reading.run", defArgs sRRun, defBody sRRun, defScope sRRun, [], []⟩
def d49 : He.DefD := ⟨("Reading", some "read_first"), "read_first", "Reading.read_first", defArgs sRFir, defBody sRFir, defScope sRFir, [], []⟩
def d50 : He.DefD := ⟨("Reading", some "read_letter"), "read_letter", "Reading.read_letter", defArgs sRLet, defBody sRLet, defScope sRLet, [], []⟩
def d51 : He.DefD := ⟨("Reading", some "read_number"), "read_number", "Reading.read_number", defArgs sRNum, defBody sRNum, defScope sRNum, [], []⟩
def d52 : He.DefD := ⟨("Reading", some "read_next"), "read_next", "Reading.read_next", defArgs sRNex, defBody sRNex, defScope sRNex, [], []⟩
def d53 : He.DefD := ⟨("Reading", some "settle"), "settle", "Reading.settle", defArgs sRSet, defBody sRSet, defScope sRSet, [], []⟩
def d54 : He.DefD := ⟨("Reading", some "read"), "read", "Reading.read", defArgs sRRea, defBody sRRea, defScope sRRea, [], []⟩
def d55 : He.DefD := ⟨("NeverError", some "__init__"), "__init__", "NeverError.__init__", defArgs sNE, defBody sNE, defScope sNE, [.str "NeverError", .str "refused"], []⟩
def d56 : He.DefD := ⟨("share", none), "share", "share", defArgs sShare, defBody sShare, defScope sShare, [.int 1], []⟩
def hFn0 : List He.DefD := [d0, d1, d2, d3, d4, d5, d6, d7, d8, d9, d10, d11, d12, d13, d14, d15, d16, d17, d18, d19, d20, d21, d22, d23, d24, d25, d26, d27, d28, d29]
def hFn1 : List He.DefD := [d30, d31, d32, d33, d34, d35, d36, d37, d38, d39, d40, d41, d42, d43, d44, d45, d46, d47, d48, d49, d50, d51, d52, d53, d54, d55, d56]
def hFn : List He.DefD := hFn0 ++ hFn1
def hFa0 : List He.Fa := [.glo "law", .glo "common_divisor", .glo "figures_of", .glo "share_text", .glo "read_figures", .glo "read_share", .glo "is_number", .glo "is_share", .glo "is_letter", .glo "is_built", .glo "things_in", .glo "flaw_of", .glo "need_term", .glo "built", .glo "read_term", .glo "_law_bag", .glo "_law_pull", .glo "_law_of", .glo "_law_same", .glo "_law_gcd", .glo "_law_fr", .glo "_law_light", .glo "_law_abc", .glo "_law_leaf", .glo "_law_drawn", .glo "_law_bind", .glo "_law_share_text", .glo "_law_put_in", .glo "_law_wrote", .glo "_law_inner"]
def hFa1 : List He.Fa := [.glo "_law_count", .glo "_law_depth", .glo "_law_all_parts", .glo "_law_letters", .glo "_law_fault", .glo "_law_run", .glo "_law_number_in", .glo "_law_share_in", .glo "_law_wanted", .glo "_law_read_at", .glo "_law_bent_text", .glo "_law_asked", .meth "BadShare" "__init__", .meth "ByNought" "__init__", .meth "BadTerm" "__init__", .meth "BadText" "__init__", .meth "Reading" "__init__", .meth "Reading" "ended", .meth "Reading" "run", .meth "Reading" "read_first", .meth "Reading" "read_letter", .meth "Reading" "read_number", .meth "Reading" "read_next", .meth "Reading" "settle", .meth "Reading" "read", .glo "share", .glo "NeverError", .glo "BadShare", .glo "ByNought", .glo "Reading"]
def hFa2 : List He.Fa := [.glo "BadTerm", .glo "BadText", .glo "BadTable", .free "isinstance", .free "list", .free "tuple", .free "len", .free "all", .free "range", .free "bool", .free "int", .free "str", .free "abs", .int "PIECE" (10 ^ 60), .int "PIECE_LENGTH" 60, .int "MOST_FIGURES" 12, .str "FIGURES" "0123456789", .free "reversed", .free "divmod", .free "any", .int "MOST_PARTS" 24, .int "MOST_LETTERS" 4, .int "MOST_DEEP" 4, .int "MOST_SIGNS" 6, .str "SMALL_LETTERS" "abcdefghijklmnopqrstuvwxyz", .int "TOO_GREAT" (10 ^ 12), .glo "OF_TWO", .str "CAPITALS" "ABCDEFGHIJKLMNOPQRSTUVWXYZ", .int "MOST_BRACKETS" 12, .noat "BadShare" "word"]
def hFa3 : List He.Fa := [.exm "BadShare" "NeverError" true, .noat "ByNought" "word", .exm "ByNought" "NeverError" true, .noat "BadTerm" "word", .noat "BadTerm" "flaw", .noat "BadText" "word", .noat "BadText" "at", .exm "BadShare" "BadShare" true, .exm "BadText" "BadTable" false, .exm "BadText" "BadText" true, .exm "BadTerm" "BadTerm" true, .exm "BadText" "BadTerm" false, .glo "HOLDS", .glo "WORDS", .str "BRACKET" "(", .cls "Reading", .noat "Reading" "text", .noat "Reading" "named", .noat "Reading" "spot", .noat "Reading" "done", .noat "Reading" "waiting", .noat "Reading" "brackets", .noat "Reading" "fresh", .mkr "Reading", .int "LONG" 6000, .free "ValueError", .free "max", .free "sum", .free "sorted", .free "set"]
def hFa : List He.Fa := hFa0 ++ hFa1 ++ hFa2 ++ hFa3
def hEx0 : List (PySem.W.Frag → Bool) := [keysB "WORDS" ["+", "-", "*"], tupN "OF_TWO" [.str "plus",.str "less",.str "times"], oexB "BadShare", xfK "BadShare", fnT "BadShare" "__init__", readB "NeverError", initB "NeverError", oexB "ByNought", xfK "ByNought", fnT "ByNought" "__init__", oexB "BadTerm", xfK "BadTerm", fnT "BadTerm" "__init__", oexB "BadText", xfK "BadText", fnT "BadText" "__init__", dctB "HOLDS" [("(", .int 0), ("plus", .int 1), ("less", .int 1), ("times", .int 2), ("undo", .int 3), ("share", .int 4), ("letter", .int 4), ("name", .int 4)], dctB "WORDS" [("+", .str "plus"), ("-", .str "less"), ("*", .str "times")], initT "ValueError" "ValueError.__init__"]
def hEx : List (PySem.W.Frag → Bool) := hEx0
def hNm0 : List Str := ["NeverError", "BadShare", "ByNought", "BadTable", "BadTerm", "BadTables", "BadText", "BadWeb", "Unsound", "Unsteady", "BadNumber", "BadName", "BadWord", "Taken", "Full", "Ring", "InUse", "Breaks", "Stopped", "BadPage", "Missing", "NoLetter", "NoName", "MOST_FIGURES", "FIGURES", "PIECE_LENGTH", "PIECE", "LONG", "SHORT", "nearer"]
def hNm1 : List Str := ["common_divisor", "share", "figures_of", "share_text", "read_figures", "read_share", "MOST_PARTS", "MOST_LETTERS", "MOST_DEEP", "MOST_SIGNS", "SMALL_LETTERS", "CAPITALS", "TOO_GREAT", "OF_TWO", "is_number", "is_share", "is_letter", "is_name", "is_built", "things_in", "flaw_of", "need_term", "MOST_BRACKETS", "BRACKET", "HOLDS", "WORDS", "Reading", "built", "read_term", "_law_bag"]
def hNm2 : List Str := ["_law_pull", "_law_of", "_law_same", "_law_asked", "_law_gcd", "_law_fr", "_law_light", "_law_abc", "_law_leaf", "_law_drawn", "_law_inner", "_law_count", "_law_depth", "_law_all_parts", "_law_letters", "_law_fault", "_law_bind", "_law_share_text", "_law_put_in", "_law_wrote", "_law_run", "_law_number_in", "_law_share_in", "_law_wanted", "_law_read_at", "_law_bent_text"]
def hNm : List Str := hNm0 ++ hNm1 ++ hNm2
def hTf : List He.Defn := [("law", none)]
def hTb : List He.Tab := [tabN "HOLDS" ["(", "plus", "less", "times", "undo", "share", "letter", "name"], tabN "WORDS" ["+", "-", "*"]]
end Nv

set_option maxRecDepth 100000
namespace Nv
open PySem PySem.Spec PyProof.Rows L2 LamX
abbrev hR : PySem.W.OpenRow := PySem.W.OpenLaw.row PySem.Challenge.rw_nevernought_k11_whole_texts_refused_at_t
abbrev hk : PySem.W.Hook := hookZ hFa hFn hTb hTf (allB hEx)
def hOb (s : PySem.W.SharedT) : He.AlX := obsZ hFa hFn hTb hTf (allB hEx) (HandSHeadRun.getT s)
theorem hOb_eq (s : PySem.W.SharedT) : hOb s = hk.obs s.abs := obsZ_eq s
set_option maxHeartbeats 0 in
theorem hRunF (w : World) : HandSHeadRun.RunEq hR (PySem.W.view hR.prog [91]) hk hOb 9500 hNm (w.withFollow "special-get-raises" false) := by
  intro os
  kernel_rfl
set_option maxHeartbeats 0 in
theorem hRunT (w : World) : HandSHeadRun.RunEq hR (PySem.W.view hR.prog [91]) hk hOb 9500 hNm (w.withFollow "special-get-raises" true) := by
  intro os
  kernel_rfl
theorem hRun (w : World) : HandSHeadRun.RunEq hR (PySem.W.view hR.prog [91]) hk hOb 9500 hNm w := PySem.W.byRow2 "special-get-raises" (P := fun w => HandSHeadRun.RunEq hR (PySem.W.view hR.prog [91]) hk hOb 9500 hNm w) hRunF hRunT w
end Nv

set_option maxRecDepth 100000
set_option maxHeartbeats 4000000
namespace Nv
open PySem PySem.Spec PyProof.Rows L2 LamX
section
variable {P : Program} {w : World} {K : PySem.W.Frag} {mg : Str → Option Value} {base : Heap}
theorem cal {k : Nat} {x : Str} {f : Addr} {fd : FuncData} {ps : List Str} {sp : Sp} (G : FnOk P w K mg base CX0 k f fd ps sp) (hm : mg x = some (.ref f)) (kp : PySem.W.keepIn K (.ref f) = true) (b : Binds K fd ps []) : C8.Cal P w K mg base k x sp [] := ⟨f, fd, ps, [], G, hm, kp, b, .nil⟩
theorem words_no {ch : Nat} (e : opT ch = none) : SX.S [ch] ∉ (["+", "-", "*"] : List Str) := by
  unfold opT at e
  by_cases h1 : ch = 43
  · rw [if_pos h1] at e; cases e
  by_cases h2 : ch = 45
  · rw [if_neg h1, if_pos h2] at e; cases e
  by_cases h3 : ch = 42
  · rw [if_neg h1, if_neg h2, if_pos h3] at e; cases e
  have z : ∀ {k m : Nat}, SX.S [k] = SX.S [m] → k = m := fun {k m} e => by
    have e2 : (#[k] : Array Nat) = #[m] := congrArg Str.cps e
    have e3 := congrArg Array.toList e2
    exact List.head_eq_of_cons_eq e3
  have e1 : (Str.ofString "+") = SX.S [43] := by decide +kernel
  have e2 : (Str.ofString "-") = SX.S [45] := by decide +kernel
  have e3 : (Str.ofString "*") = SX.S [42] := by decide +kernel
  intro hh
  rcases List.mem_cons.mp hh with q | hh
  · exact h1 (z (q.trans e1))
  rcases List.mem_cons.mp hh with q | hh
  · exact h2 (z (q.trans e2))
  rcases List.mem_cons.mp hh with q | hh
  · exact h3 (z (q.trans e3))
  · cases hh
theorem dct2_mk {esH esW : Array DictEntry} {nH nW : Nat} (g1 : mg "HOLDS" = some (.ref (He.ga K "HOLDS"))) (g2 : mg "WORDS" = some (.ref (He.ga K "WORDS"))) (g3 : ∃ t, mg "BRACKET" = some (.str "(" t)) (kH : KDict K w (He.ga K "HOLDS") esH nH) (vH : dctB "HOLDS" [("(", .int 0), ("plus", .int 1), ("less", .int 1), ("times", .int 2), ("undo", .int 3), ("share", .int 4), ("letter", .int 4), ("name", .int 4)] K = true) (kW : KDict K w (He.ga K "WORDS") esW nW) (vW : dctB "WORDS" [("+", .str "plus"), ("-", .str "less"), ("*", .str "times")] K = true) : Dct2 K w mg (He.ga K "HOLDS") (He.ga K "WORDS") := by
  refine { gH := g1, gW := g2, gB := g3, hold := fun x => ?_, wrd := fun o => ?_, kd := ⟨_, _, kW⟩ }
  · cases x with
    | br => exact kdct (k := "(") (v := .int 0) kH vH (by simp)
    | undo => exact kdct (k := "undo") (v := .int 3) kH vH (by simp)
    | op o =>
      cases o
      · exact kdct (k := "plus") (v := .int 1) kH vH (by simp)
      · exact kdct (k := "less") (v := .int 1) kH vH (by simp)
      · exact kdct (k := "times") (v := .int 2) kH vH (by simp)
  · have e1 : SX.S [Op.plus.chr] = Str.ofString "+" := by decide +kernel
    have e2 : SX.S [Op.less.chr] = Str.ofString "-" := by decide +kernel
    have e3 : SX.S [Op.times.chr] = Str.ofString "*" := by decide +kernel
    cases o
    · rw [e1]; exact kdct (k := "+") (v := .str "plus") kW vW (by simp)
    · rw [e2]; exact kdct (k := "-") (v := .str "less") kW vW (by simp)
    · rw [e3]; exact kdct (k := "*") (v := .str "times") kW vW (by simp)
/-- a law with one table of lambdas -/
theorem lawAtL {l : PySem.W.OpenLaw} {h : Heap} {f cc Pt : Addr} {oc doc pm ct kV : Value} {od an : Option Addr} {osl : Array (Option Value)}
    (lL : K.lookup f = some ⟨oc, od, .func (PySem.W.fnOf "law" "law" (defArgs sLaw) (defBody sLaw) (defScope sLaw) .none kV doc pm an (.ref cc) ct), osl⟩) (cL : PySem.W.codeIn K (.ref cc) "law" = true) (hC : PySem.W.codeHdIn K cc Pt = true) (tL : h.get? Pt = some { cls := .none, data := .fields #[] }) (nL : K.lookup Pt = none) (X : K.In h)
    (G : ∀ base : Heap, TabB base mg cc Pt → FnOk l.prog w K mg base CX0 60 f (PySem.W.fnOf "law" "law" (defArgs sLaw) (defBody sLaw) (defScope sLaw) .none kV doc pm an (.ref cc) ct) ["_law_script"] (spLaw K Pt)) : LawAtS l w K CX0 60 63 "_law_script" mg f h := by
  refine ⟨PySem.W.fnOf "law" "law" (defArgs sLaw) (defBody sLaw) (defScope sLaw) .none kV doc pm an (.ref cc) ct, [(cc, Pt)], spLaw K Pt, fun p hp => ?_, fun p hp => ?_, fun p hp => ?_, fun s v => .of_eq rfl, fun H a ns hl hb hT hS => ⟨a, ns, rfl, hS, fun p hp => ?_, fun _ => rfl⟩, fun base _ _ hTB => ?_⟩
  · rw [List.mem_singleton.mp hp]
    exact tL
  · rw [List.mem_singleton.mp hp]
    exact nL
  · rw [List.mem_singleton.mp hp]
    exact PySem.W.codeHd_of_K X hC
  · rw [List.mem_singleton.mp hp]
    exact TabS.nil (hT (cc, Pt) (List.mem_singleton.mpr rfl))
  · exact G base (hTB (cc, Pt) (List.mem_singleton.mpr rfl))
theorem all_mk {l : PySem.W.OpenLaw} {h : Heap} {fa : Addr} (X : K.In h) (G : h.Ns mainGlobals mg) (hfa : mg "law" = some (.ref fa)) (c : He.SaysX hFa hFn hTb hTf (allB hEx) w h K) : LawAtS l w K CX0 60 63 "_law_script" mg fa h := by
  obtain ⟨fdL0, FL0⟩ := c.t.d.def_ 0 (d := d0) rfl
  obtain ⟨ocL, odL, kVL, docL, pmL, anL, cc, Pt, ctL, oslL, lL, cL, hC, tL, nL⟩ := law_atT (x := "law") (q := "law") (st := sLaw) c FL0 (List.mem_singleton.mpr rfl)
  have e := hfa.symm.trans (He.glo_ok X G (c.t.d.fact 0 (f := .glo "law") rfl))
  cases e
  obtain ⟨fd0, F0⟩ := c.t.d.def_ 1 (d := d1) rfl
  replace F0 : Fun K "common_divisor" "common_divisor" sGcd (He.ga K "common_divisor") fd0 := fun_of F0
  have g0 := (He.glo_ok X G (c.t.d.fact 1 (f := .glo "common_divisor") rfl))
  have b0 := F0.binds (ps := ["one", "other"]) fun _ _ _ _ _ _ us hl => match us, hl with | [_, _], _ => rfl
  obtain ⟨fd1, F1⟩ := c.t.d.def_ 2 (d := d2) rfl
  replace F1 : Fun K "figures_of" "figures_of" sFig (He.ga K "figures_of") fd1 := fun_of F1
  have g1 := (He.glo_ok X G (c.t.d.fact 2 (f := .glo "figures_of") rfl))
  have b1 := F1.binds (ps := ["number"]) fun _ _ _ _ _ _ us hl => match us, hl with | [_], _ => rfl
  obtain ⟨fd2, F2⟩ := c.t.d.def_ 3 (d := d3) rfl
  replace F2 : Fun K "share_text" "share_text" sText (He.ga K "share_text") fd2 := fun_of F2
  have g2 := (He.glo_ok X G (c.t.d.fact 3 (f := .glo "share_text") rfl))
  have b2 := F2.binds (ps := ["one"]) fun _ _ _ _ _ _ us hl => match us, hl with | [_], _ => rfl
  obtain ⟨fd3, F3⟩ := c.t.d.def_ 4 (d := d4) rfl
  replace F3 : Fun K "read_figures" "read_figures" sFigs (He.ga K "read_figures") fd3 := fun_of F3
  have g3 := (He.glo_ok X G (c.t.d.fact 4 (f := .glo "read_figures") rfl))
  have b3 := F3.binds (ps := ["text"]) fun _ _ _ _ _ _ us hl => match us, hl with | [_], _ => rfl
  obtain ⟨fd4, F4⟩ := c.t.d.def_ 5 (d := d5) rfl
  replace F4 : Fun K "read_share" "read_share" sRead (He.ga K "read_share") fd4 := fun_of F4
  have g4 := (He.glo_ok X G (c.t.d.fact 5 (f := .glo "read_share") rfl))
  have b4 := F4.binds (ps := ["text"]) fun _ _ _ _ _ _ us hl => match us, hl with | [_], _ => rfl
  obtain ⟨fd5, F5⟩ := c.t.d.def_ 6 (d := d6) rfl
  replace F5 : Fun K "is_number" "is_number" sNum (He.ga K "is_number") fd5 := fun_of F5
  have g5 := (He.glo_ok X G (c.t.d.fact 6 (f := .glo "is_number") rfl))
  have b5 := F5.binds (ps := ["thing"]) fun _ _ _ _ _ _ us hl => match us, hl with | [_], _ => rfl
  obtain ⟨fd6, F6⟩ := c.t.d.def_ 7 (d := d7) rfl
  replace F6 : Fun K "is_share" "is_share" sIsSh (He.ga K "is_share") fd6 := fun_of F6
  have g6 := (He.glo_ok X G (c.t.d.fact 7 (f := .glo "is_share") rfl))
  have b6 := F6.binds (ps := ["thing"]) fun _ _ _ _ _ _ us hl => match us, hl with | [_], _ => rfl
  obtain ⟨fd7, F7⟩ := c.t.d.def_ 8 (d := d8) rfl
  replace F7 : Fun K "is_letter" "is_letter" sIsLe (He.ga K "is_letter") fd7 := fun_of F7
  have g7 := (He.glo_ok X G (c.t.d.fact 8 (f := .glo "is_letter") rfl))
  have b7 := F7.binds (ps := ["thing"]) fun _ _ _ _ _ _ us hl => match us, hl with | [_], _ => rfl
  obtain ⟨fd8, F8⟩ := c.t.d.def_ 9 (d := d9) rfl
  replace F8 : Fun K "is_built" "is_built" sBuilt (He.ga K "is_built") fd8 := fun_of F8
  have g8 := (He.glo_ok X G (c.t.d.fact 9 (f := .glo "is_built") rfl))
  have b8 := F8.binds (ps := ["thing"]) fun _ _ _ _ _ _ us hl => match us, hl with | [_], _ => rfl
  obtain ⟨fd9, F9⟩ := c.t.d.def_ 10 (d := d10) rfl
  replace F9 : Fun K "things_in" "things_in" sThings (He.ga K "things_in") fd9 := fun_of F9
  have g9 := (He.glo_ok X G (c.t.d.fact 10 (f := .glo "things_in") rfl))
  have b9 := F9.binds (ps := ["term"]) fun _ _ _ _ _ _ us hl => match us, hl with | [_], _ => rfl
  obtain ⟨fd10, F10⟩ := c.t.d.def_ 11 (d := d11) rfl
  replace F10 : Fun K "flaw_of" "flaw_of" sFlaw (He.ga K "flaw_of") fd10 := fun_of F10
  have g10 := (He.glo_ok X G (c.t.d.fact 11 (f := .glo "flaw_of") rfl))
  have b10 := F10.binds (ps := ["term"]) fun _ _ _ _ _ _ us hl => match us, hl with | [_], _ => rfl
  obtain ⟨fd11, F11⟩ := c.t.d.def_ 12 (d := d12) rfl
  replace F11 : Fun K "need_term" "need_term" sNeedT (He.ga K "need_term") fd11 := fun_of F11
  have g11 := (He.glo_ok X G (c.t.d.fact 12 (f := .glo "need_term") rfl))
  have b11 := F11.binds (ps := ["term"]) fun _ _ _ _ _ _ us hl => match us, hl with | [_], _ => rfl
  obtain ⟨fd12, F12⟩ := c.t.d.def_ 13 (d := d13) rfl
  replace F12 : Fun K "built" "built" sBui (He.ga K "built") fd12 := fun_of F12
  have g12 := (He.glo_ok X G (c.t.d.fact 13 (f := .glo "built") rfl))
  have b12 := F12.binds (ps := ["pieces"]) fun _ _ _ _ _ _ us hl => match us, hl with | [_], _ => rfl
  obtain ⟨fd13, F13⟩ := c.t.d.def_ 14 (d := d14) rfl
  replace F13 : Fun K "read_term" "read_term" sRTm (He.ga K "read_term") fd13 := fun_of F13
  have g13 := (He.glo_ok X G (c.t.d.fact 14 (f := .glo "read_term") rfl))
  have b13 := F13.binds (ps := ["text"]) fun _ _ _ _ _ _ us hl => match us, hl with | [_], _ => rfl
  obtain ⟨fd14, F14⟩ := c.t.d.def_ 15 (d := d15) rfl
  replace F14 : Fun K "_law_bag" "_law_bag" sBag (He.ga K "_law_bag") fd14 := fun_of F14
  have g14 := (He.glo_ok X G (c.t.d.fact 15 (f := .glo "_law_bag") rfl))
  have b14 := F14.binds (ps := ["_law_script"]) fun _ _ _ _ _ _ us hl => match us, hl with | [_], _ => rfl
  obtain ⟨fd15, F15⟩ := c.t.d.def_ 16 (d := d16) rfl
  replace F15 : Fun K "_law_pull" "_law_pull" sPull (He.ga K "_law_pull") fd15 := fun_of F15
  have g15 := (He.glo_ok X G (c.t.d.fact 16 (f := .glo "_law_pull") rfl))
  have b15 := F15.binds (ps := ["_law_bag_here", "_law_sides"]) fun _ _ _ _ _ _ us hl => match us, hl with | [_, _], _ => rfl
  obtain ⟨fd16, F16⟩ := c.t.d.def_ 17 (d := d17) rfl
  replace F16 : Fun K "_law_of" "_law_of" sOf (He.ga K "_law_of") fd16 := fun_of F16
  have g16 := (He.glo_ok X G (c.t.d.fact 17 (f := .glo "_law_of") rfl))
  have b16 := F16.binds (ps := ["_law_bag_here", "_law_some"]) fun _ _ _ _ _ _ us hl => match us, hl with | [_, _], _ => rfl
  obtain ⟨fd17, F17⟩ := c.t.d.def_ 18 (d := d18) rfl
  replace F17 : Fun K "_law_same" "_law_same" sSame (He.ga K "_law_same") fd17 := fun_of F17
  have g17 := (He.glo_ok X G (c.t.d.fact 18 (f := .glo "_law_same") rfl))
  have b17 := F17.binds (ps := ["_law_found", "_law_due"]) fun _ _ _ _ _ _ us hl => match us, hl with | [_, _], _ => rfl
  obtain ⟨fd18, F18⟩ := c.t.d.def_ 19 (d := d19) rfl
  replace F18 : Fun K "_law_gcd" "_law_gcd" sLGcd (He.ga K "_law_gcd") fd18 := fun_of F18
  have g18 := (He.glo_ok X G (c.t.d.fact 19 (f := .glo "_law_gcd") rfl))
  have b18 := F18.binds (ps := ["_law_one", "_law_other"]) fun _ _ _ _ _ _ us hl => match us, hl with | [_, _], _ => rfl
  obtain ⟨fd19, F19⟩ := c.t.d.def_ 20 (d := d20) rfl
  replace F19 : Fun K "_law_fr" "_law_fr" sLFr (He.ga K "_law_fr") fd19 := fun_of F19
  have g19 := (He.glo_ok X G (c.t.d.fact 20 (f := .glo "_law_fr") rfl))
  have b19 := F19.binds (ps := ["_law_top", "_law_bottom"]) fun _ _ _ _ _ _ us hl => match us, hl with | [_, _], _ => rfl
  obtain ⟨fd20, F20⟩ := c.t.d.def_ 21 (d := d21) rfl
  replace F20 : Fun K "_law_light" "_law_light" sLight (He.ga K "_law_light") fd20 := fun_of F20
  have g20 := (He.glo_ok X G (c.t.d.fact 21 (f := .glo "_law_light") rfl))
  have b20 := F20.binds (ps := ["_law_bag_here"]) fun _ _ _ _ _ _ us hl => match us, hl with | [_], _ => rfl
  obtain ⟨fd21, F21⟩ := c.t.d.def_ 22 (d := d22) rfl
  replace F21 : Fun K "_law_abc" "_law_abc" sAbc (He.ga K "_law_abc") fd21 := fun_of F21
  have g21 := (He.glo_ok X G (c.t.d.fact 22 (f := .glo "_law_abc") rfl))
  have b21 := F21.binds (ps := ["_law_bag_here", "_law_many"]) fun _ _ _ _ _ _ us hl => match us, hl with | [_, _], _ => rfl
  obtain ⟨fd22, F22⟩ := c.t.d.def_ 23 (d := d23) rfl
  replace F22 : Fun K "_law_leaf" "_law_leaf" sLeaf (He.ga K "_law_leaf") fd22 := fun_of F22
  have g22 := (He.glo_ok X G (c.t.d.fact 23 (f := .glo "_law_leaf") rfl))
  have b22 := F22.binds (ps := ["_law_bag_here", "_law_signs"]) fun _ _ _ _ _ _ us hl => match us, hl with | [_, _], _ => rfl
  obtain ⟨fd23, F23⟩ := c.t.d.def_ 24 (d := d24) rfl
  replace F23 : Fun K "_law_drawn" "_law_drawn" sDrawn (He.ga K "_law_drawn") fd23 := fun_of F23
  have g23 := (He.glo_ok X G (c.t.d.fact 24 (f := .glo "_law_drawn") rfl))
  have b23 := F23.binds (ps := ["_law_bag_here", "_law_signs", "_law_room", "_law_deep"]) fun _ _ _ _ _ _ us hl => match us, hl with | [_, _, _, _], _ => rfl
  obtain ⟨fd24, F24⟩ := c.t.d.def_ 25 (d := d25) rfl
  replace F24 : Fun K "_law_bind" "_law_bind" sBnd (He.ga K "_law_bind") fd24 := fun_of F24
  have g24 := (He.glo_ok X G (c.t.d.fact 25 (f := .glo "_law_bind") rfl))
  have b24 := F24.binds (ps := ["_law_term"]) fun _ _ _ _ _ _ us hl => match us, hl with | [_], _ => rfl
  obtain ⟨fd25, F25⟩ := c.t.d.def_ 26 (d := d26) rfl
  replace F25 : Fun K "_law_share_text" "_law_share_text" sLST (He.ga K "_law_share_text") fd25 := fun_of F25
  have g25 := (He.glo_ok X G (c.t.d.fact 26 (f := .glo "_law_share_text") rfl))
  have b25 := F25.binds (ps := ["_law_one"]) fun _ _ _ _ _ _ us hl => match us, hl with | [_], _ => rfl
  obtain ⟨fd26, F26⟩ := c.t.d.def_ 27 (d := d27) rfl
  replace F26 : Fun K "_law_put_in" "_law_put_in" sPutI (He.ga K "_law_put_in") fd26 := fun_of F26
  have g26 := (He.glo_ok X G (c.t.d.fact 27 (f := .glo "_law_put_in") rfl))
  have b26 := F26.binds (ps := ["_law_term", "_law_least", "_law_first"]) fun _ _ _ _ _ _ us hl => match us, hl with | [_, _, _], _ => rfl
  obtain ⟨fd27, F27⟩ := c.t.d.def_ 28 (d := d28) rfl
  replace F27 : Fun K "_law_wrote" "_law_wrote" sWro (He.ga K "_law_wrote") fd27 := fun_of F27
  have g27 := (He.glo_ok X G (c.t.d.fact 28 (f := .glo "_law_wrote") rfl))
  have b27 := F27.binds (ps := ["_law_term", "_law_first"]) fun _ _ _ _ _ _ us hl => match us, hl with | [_, _], _ => rfl
  obtain ⟨fd28, F28⟩ := c.t.d.def_ 29 (d := d29) rfl
  replace F28 : Fun K "_law_inner" "_law_inner" sInner (He.ga K "_law_inner") fd28 := fun_of F28
  have g28 := (He.glo_ok X G (c.t.d.fact 29 (f := .glo "_law_inner") rfl))
  have b28 := F28.binds (ps := ["_law_term"]) fun _ _ _ _ _ _ us hl => match us, hl with | [_], _ => rfl
  obtain ⟨fd29, F29⟩ := c.t.d.def_ 30 (d := d30) rfl
  replace F29 : Fun K "_law_count" "_law_count" sLCount (He.ga K "_law_count") fd29 := fun_of F29
  have g29 := (He.glo_ok X G (c.t.d.fact 30 (f := .glo "_law_count") rfl))
  have b29 := F29.binds (ps := ["_law_term"]) fun _ _ _ _ _ _ us hl => match us, hl with | [_], _ => rfl
  obtain ⟨fd30, F30⟩ := c.t.d.def_ 31 (d := d31) rfl
  replace F30 : Fun K "_law_depth" "_law_depth" sLDepth (He.ga K "_law_depth") fd30 := fun_of F30
  have g30 := (He.glo_ok X G (c.t.d.fact 31 (f := .glo "_law_depth") rfl))
  have b30 := F30.binds (ps := ["_law_term"]) fun _ _ _ _ _ _ us hl => match us, hl with | [_], _ => rfl
  obtain ⟨fd31, F31⟩ := c.t.d.def_ 32 (d := d32) rfl
  replace F31 : Fun K "_law_all_parts" "_law_all_parts" sAllP (He.ga K "_law_all_parts") fd31 := fun_of F31
  have g31 := (He.glo_ok X G (c.t.d.fact 32 (f := .glo "_law_all_parts") rfl))
  have b31 := F31.binds (ps := ["_law_term"]) fun _ _ _ _ _ _ us hl => match us, hl with | [_], _ => rfl
  obtain ⟨fd32, F32⟩ := c.t.d.def_ 33 (d := d33) rfl
  replace F32 : Fun K "_law_letters" "_law_letters" sLLets (He.ga K "_law_letters") fd32 := fun_of F32
  have g32 := (He.glo_ok X G (c.t.d.fact 33 (f := .glo "_law_letters") rfl))
  have b32 := F32.binds (ps := ["_law_term"]) fun _ _ _ _ _ _ us hl => match us, hl with | [_], _ => rfl
  obtain ⟨fd33, F33⟩ := c.t.d.def_ 34 (d := d34) rfl
  replace F33 : Fun K "_law_fault" "_law_fault" sFault (He.ga K "_law_fault") fd33 := fun_of F33
  have g33 := (He.glo_ok X G (c.t.d.fact 34 (f := .glo "_law_fault") rfl))
  have b33 := F33.binds (ps := ["_law_term"]) fun _ _ _ _ _ _ us hl => match us, hl with | [_], _ => rfl
  obtain ⟨fd34, F34⟩ := c.t.d.def_ 35 (d := d35) rfl
  replace F34 : Fun K "_law_run" "_law_run" sLRun (He.ga K "_law_run") fd34 := fun_of F34
  have g34 := (He.glo_ok X G (c.t.d.fact 35 (f := .glo "_law_run") rfl))
  have b34 := F34.binds (ps := ["_law_text", "_law_at", "_law_signs"]) fun _ _ _ _ _ _ us hl => match us, hl with | [_, _, _], _ => rfl
  obtain ⟨fd35, F35⟩ := c.t.d.def_ 36 (d := d36) rfl
  replace F35 : Fun K "_law_number_in" "_law_number_in" sNumIn (He.ga K "_law_number_in") fd35 := fun_of F35
  have g35 := (He.glo_ok X G (c.t.d.fact 36 (f := .glo "_law_number_in") rfl))
  have b35 := F35.binds (ps := ["_law_text"]) fun _ _ _ _ _ _ us hl => match us, hl with | [_], _ => rfl
  obtain ⟨fd36, F36⟩ := c.t.d.def_ 37 (d := d37) rfl
  replace F36 : Fun K "_law_share_in" "_law_share_in" sShIn (He.ga K "_law_share_in") fd36 := fun_of F36
  have g36 := (He.glo_ok X G (c.t.d.fact 37 (f := .glo "_law_share_in") rfl))
  have b36 := F36.binds (ps := ["_law_text"]) fun _ _ _ _ _ _ us hl => match us, hl with | [_], _ => rfl
  obtain ⟨fd37, F37⟩ := c.t.d.def_ 38 (d := d38) rfl
  replace F37 : Fun K "_law_wanted" "_law_wanted" sWan (He.ga K "_law_wanted") fd37 := fun_of F37
  have g37 := (He.glo_ok X G (c.t.d.fact 38 (f := .glo "_law_wanted") rfl))
  have b37 := F37.binds (ps := ["_law_text", "_law_at", "_law_first", "_law_named"]) fun _ _ _ _ _ _ us hl => match us, hl with | [_, _, _, _], _ => rfl
  obtain ⟨fd38, F38⟩ := c.t.d.def_ 39 (d := d39) rfl
  replace F38 : Fun K "_law_read_at" "_law_read_at" sRdA (He.ga K "_law_read_at") fd38 := fun_of F38
  have g38 := (He.glo_ok X G (c.t.d.fact 39 (f := .glo "_law_read_at") rfl))
  have b38 := F38.binds (ps := ["_law_text", "_law_named"]) fun _ _ _ _ _ _ us hl => match us, hl with | [_, _], _ => rfl
  obtain ⟨fd39, F39⟩ := c.t.d.def_ 40 (d := d40) rfl
  replace F39 : Fun K "_law_bent_text" "_law_bent_text" sBen (He.ga K "_law_bent_text") fd39 := fun_of F39
  have g39 := (He.glo_ok X G (c.t.d.fact 40 (f := .glo "_law_bent_text") rfl))
  have b39 := F39.binds (ps := ["_law_bag_here", "_law_text"]) fun _ _ _ _ _ _ us hl => match us, hl with | [_, _], _ => rfl
  obtain ⟨fd40, F40⟩ := c.t.d.def_ 41 (d := d41) rfl
  replace F40 : Fun K "_law_asked" "_law_asked" sAsked (He.ga K "_law_asked") fd40 := fun_of F40
  have g40 := (He.glo_ok X G (c.t.d.fact 41 (f := .glo "_law_asked") rfl))
  have b40 := F40.binds (ps := ["_law_ask"]) fun _ _ _ _ _ _ us hl => match us, hl with | [_], _ => rfl
  obtain ⟨fdmS, FmS⟩ := c.t.d.def_ 42 (d := d42) rfl
  replace FmS : Fun K "__init__" "BadShare.__init__" sBS (He.ma K (He.ga K "BadShare") "__init__") fdmS := fun_of FmS
  have mS := (He.meth_ok (c.t.d.fact 42 (f := .meth "BadShare" "__init__") rfl))
  have bmS := FmS.binds (ps := ["self"]) fun _ _ _ _ _ _ us hl => match us, hl with | [_], _ => rfl
  obtain ⟨fdmB, FmB⟩ := c.t.d.def_ 43 (d := d43) rfl
  replace FmB : Fun K "__init__" "ByNought.__init__" sBN (He.ma K (He.ga K "ByNought") "__init__") fdmB := fun_of FmB
  have mB := (He.meth_ok (c.t.d.fact 43 (f := .meth "ByNought" "__init__") rfl))
  have bmB := FmB.binds (ps := ["self"]) fun _ _ _ _ _ _ us hl => match us, hl with | [_], _ => rfl
  obtain ⟨fdmV, FmV⟩ := c.t.d.def_ 44 (d := d44) rfl
  replace FmV : Fun K "__init__" "BadTerm.__init__" sBTm (He.ma K (He.ga K "BadTerm") "__init__") fdmV := fun_of FmV
  have mV := (He.meth_ok (c.t.d.fact 44 (f := .meth "BadTerm" "__init__") rfl))
  have bmV := FmV.binds (ps := ["self", "flaw"]) fun _ _ _ _ _ _ us hl => match us, hl with | [_, _], _ => rfl
  obtain ⟨fdmW, FmW⟩ := c.t.d.def_ 45 (d := d45) rfl
  replace FmW : Fun K "__init__" "BadText.__init__" sBTx (He.ma K (He.ga K "BadText") "__init__") fdmW := fun_of FmW
  have mW := (He.meth_ok (c.t.d.fact 45 (f := .meth "BadText" "__init__") rfl))
  have bmW := FmW.binds (ps := ["self", "at"]) fun _ _ _ _ _ _ us hl => match us, hl with | [_, _], _ => rfl
  obtain ⟨fdmI, FmI⟩ := c.t.d.def_ 46 (d := d46) rfl
  replace FmI : Fun K "__init__" "Reading.__init__" sRIni (He.ma K (He.ga K "Reading") "__init__") fdmI := fun_of FmI
  have mI := (He.meth_ok (c.t.d.fact 46 (f := .meth "Reading" "__init__") rfl))
  have bmI := FmI.binds (ps := ["self", "text", "named"]) fun _ _ _ _ _ _ us hl => match us, hl with | [_, _, _], _ => rfl
  obtain ⟨fdmE, FmE⟩ := c.t.d.def_ 47 (d := d47) rfl
  replace FmE : Fun K "ended" "Reading.ended" sREnd (He.ma K (He.ga K "Reading") "ended") fdmE := fun_of FmE
  have mE := (He.meth_ok (c.t.d.fact 47 (f := .meth "Reading" "ended") rfl))
  have bmE := FmE.binds (ps := ["self"]) fun _ _ _ _ _ _ us hl => match us, hl with | [_], _ => rfl
  obtain ⟨fdmR, FmR⟩ := c.t.d.def_ 48 (d := d48) rfl
  replace FmR : Fun K "run" "Reading.run" sRRun (He.ma K (He.ga K "Reading") "run") fdmR := fun_of FmR
  have mR := (He.meth_ok (c.t.d.fact 48 (f := .meth "Reading" "run") rfl))
  have bmR := FmR.binds (ps := ["self", "signs", "start"]) fun _ _ _ _ _ _ us hl => match us, hl with | [_, _, _], _ => rfl
  obtain ⟨fdmF, FmF⟩ := c.t.d.def_ 49 (d := d49) rfl
  replace FmF : Fun K "read_first" "Reading.read_first" sRFir (He.ma K (He.ga K "Reading") "read_first") fdmF := fun_of FmF
  have mF := (He.meth_ok (c.t.d.fact 49 (f := .meth "Reading" "read_first") rfl))
  have bmF := FmF.binds (ps := ["self"]) fun _ _ _ _ _ _ us hl => match us, hl with | [_], _ => rfl
  obtain ⟨fdmL, FmL⟩ := c.t.d.def_ 50 (d := d50) rfl
  replace FmL : Fun K "read_letter" "Reading.read_letter" sRLet (He.ma K (He.ga K "Reading") "read_letter") fdmL := fun_of FmL
  have mL := (He.meth_ok (c.t.d.fact 50 (f := .meth "Reading" "read_letter") rfl))
  have bmL := FmL.binds (ps := ["self"]) fun _ _ _ _ _ _ us hl => match us, hl with | [_], _ => rfl
  obtain ⟨fdmN, FmN⟩ := c.t.d.def_ 51 (d := d51) rfl
  replace FmN : Fun K "read_number" "Reading.read_number" sRNum (He.ma K (He.ga K "Reading") "read_number") fdmN := fun_of FmN
  have mN := (He.meth_ok (c.t.d.fact 51 (f := .meth "Reading" "read_number") rfl))
  have bmN := FmN.binds (ps := ["self", "fresh"]) fun _ _ _ _ _ _ us hl => match us, hl with | [_, _], _ => rfl
  obtain ⟨fdmX, FmX⟩ := c.t.d.def_ 52 (d := d52) rfl
  replace FmX : Fun K "read_next" "Reading.read_next" sRNex (He.ma K (He.ga K "Reading") "read_next") fdmX := fun_of FmX
  have mX := (He.meth_ok (c.t.d.fact 52 (f := .meth "Reading" "read_next") rfl))
  have bmX := FmX.binds (ps := ["self"]) fun _ _ _ _ _ _ us hl => match us, hl with | [_], _ => rfl
  obtain ⟨fdmT, FmT⟩ := c.t.d.def_ 53 (d := d53) rfl
  replace FmT : Fun K "settle" "Reading.settle" sRSet (He.ma K (He.ga K "Reading") "settle") fdmT := fun_of FmT
  have mT := (He.meth_ok (c.t.d.fact 53 (f := .meth "Reading" "settle") rfl))
  have bmT := FmT.binds (ps := ["self", "least"]) fun _ _ _ _ _ _ us hl => match us, hl with | [_, _], _ => rfl
  obtain ⟨fdmA, FmA⟩ := c.t.d.def_ 54 (d := d54) rfl
  replace FmA : Fun K "read" "Reading.read" sRRea (He.ma K (He.ga K "Reading") "read") fdmA := fun_of FmA
  have mA := (He.meth_ok (c.t.d.fact 54 (f := .meth "Reading" "read") rfl))
  have bmA := FmA.binds (ps := ["self"]) fun _ _ _ _ _ _ us hl => match us, hl with | [_], _ => rfl
  obtain ⟨fdN, FN⟩ := c.t.d.def_ 55 (d := d55) rfl
  replace FN : FunD K "__init__" "NeverError.__init__" (defArgs sNE) (defBody sNE) (defScope sNE) [.str "NeverError", .str "refused"] [] (He.ma K (He.ga K "NeverError") "__init__") fdN := FN
  obtain ⟨dsN, vN, bN⟩ := FN.binds1 (ps := ["self", "word", "message"]) 3 2 (by simp) rfl fun T kV doc pm an cdv ct us its hu hi => match us, hu, its, hi with
    | [_, _, _], _, [_, _], _ => ⟨_, rfl, rfl⟩
  cases vN
  obtain ⟨fdS, FS⟩ := c.t.d.def_ 56 (d := d56) rfl
  replace FS : FunD K "share" "share" (defArgs sShare) (defBody sShare) (defScope sShare) [.int 1] [] (He.ga K "share") fdS := FS
  have gS := (He.glo_ok X G (c.t.d.fact 55 (f := .glo "share") rfl))
  obtain ⟨dsS, vS, bS⟩ := FS.binds1 (ps := ["top", "bottom"]) 2 1 (by simp) rfl fun T kV doc pm an cdv ct us its hu hi => match us, hu, its, hi with
    | [_, _], _, [_], _ => ⟨_, rfl, rfl⟩
  cases vS
  have NCN := (He.glo_ok X G (c.t.d.fact 56 (f := .glo "NeverError") rfl))
  have NCS := (He.glo_ok X G (c.t.d.fact 57 (f := .glo "BadShare") rfl))
  have NCB := (He.glo_ok X G (c.t.d.fact 58 (f := .glo "ByNought") rfl))
  have NCR := (He.glo_ok X G (c.t.d.fact 59 (f := .glo "Reading") rfl))
  have NCV := (He.glo_ok X G (c.t.d.fact 60 (f := .glo "BadTerm") rfl))
  have NCW := (He.glo_ok X G (c.t.d.fact 61 (f := .glo "BadText") rfl))
  have NCA := (He.glo_ok X G (c.t.d.fact 62 (f := .glo "BadTable") rfl))
  have T : Blt mg := ⟨(He.free_ok X G (c.t.d.fact 63 (f := .free "isinstance") rfl)), (He.free_ok X G (c.t.d.fact 64 (f := .free "list") rfl)), (He.free_ok X G (c.t.d.fact 65 (f := .free "tuple") rfl)), (He.free_ok X G (c.t.d.fact 66 (f := .free "len") rfl)), (He.free_ok X G (c.t.d.fact 67 (f := .free "all") rfl)), (He.free_ok X G (c.t.d.fact 68 (f := .free "range") rfl)), (He.free_ok X G (c.t.d.fact 69 (f := .free "bool") rfl)), (He.free_ok X G (c.t.d.fact 70 (f := .free "int") rfl)), (He.free_ok X G (c.t.d.fact 71 (f := .free "str") rfl)), (He.free_ok X G (c.t.d.fact 72 (f := .free "abs") rfl))⟩
  have Z : Tops mg := ⟨(He.int_ok X G (c.t.d.fact 73 (f := .int "PIECE" (10 ^ 60)) rfl)), (He.int_ok X G (c.t.d.fact 74 (f := .int "PIECE_LENGTH" 60) rfl)), (He.int_ok X G (c.t.d.fact 75 (f := .int "MOST_FIGURES" 12) rfl)), (He.str_ok X G (c.t.d.fact 76 (f := .str "FIGURES" "0123456789") rfl)), (He.free_ok X G (c.t.d.fact 77 (f := .free "reversed") rfl)), (He.free_ok X G (c.t.d.fact 78 (f := .free "divmod") rfl)), (He.free_ok X G (c.t.d.fact 79 (f := .free "any") rfl))⟩
  have Co : Consts K mg (He.ga K "OF_TWO") := ⟨(He.int_ok X G (c.t.d.fact 80 (f := .int "MOST_PARTS" 24) rfl)), (He.int_ok X G (c.t.d.fact 81 (f := .int "MOST_LETTERS" 4) rfl)), (He.int_ok X G (c.t.d.fact 82 (f := .int "MOST_DEEP" 4) rfl)), (He.int_ok X G (c.t.d.fact 83 (f := .int "MOST_SIGNS" 6) rfl)), (He.str_ok X G (c.t.d.fact 84 (f := .str "SMALL_LETTERS" "abcdefghijklmnopqrstuvwxyz") rfl)), (He.int_ok X G (c.t.d.fact 85 (f := .int "TOO_GREAT" (10 ^ 12)) rfl)), (He.glo_ok X G (c.t.d.fact 86 (f := .glo "OF_TWO") rfl)), (He.tupB_ok (allB_at c.more 1 (f := tupN "OF_TWO" [.str "plus",.str "less",.str "times"]) rfl))⟩
  have C3 : Cst3 mg := ⟨(He.str_ok X G (c.t.d.fact 84 (f := .str "SMALL_LETTERS" "abcdefghijklmnopqrstuvwxyz") rfl)), (He.int_ok X G (c.t.d.fact 83 (f := .int "MOST_SIGNS" 6) rfl)), (He.str_ok X G (c.t.d.fact 76 (f := .str "FIGURES" "0123456789") rfl)), (He.str_ok X G (c.t.d.fact 87 (f := .str "CAPITALS" "ABCDEFGHIJKLMNOPQRSTUVWXYZ") rfl)), (He.int_ok X G (c.t.d.fact 88 (f := .int "MOST_BRACKETS" 12) rfl))⟩
  have RS : Errs K mg "BadShare" (He.ga K "NeverError") (He.ga K "BadShare") (He.ma K (He.ga K "NeverError") "__init__") (He.ma K (He.ga K "BadShare") "__init__") := { oex := (oexB_ok (allB_at c.more 2 (f := oexB "BadShare") rfl)), xf := (xfK_ok (allB_at c.more 3 (f := xfK "BadShare") rfl)), word := (He.noat_ok (c.t.d.fact 89 (f := .noat "BadShare" "word") rfl)), gC := NCS, gN := NCN, iC := mS.at_, tI := (fnT_ok (allB_at c.more 4 (f := fnT "BadShare" "__init__") rfl)), rd := ⟨(readB_ok (allB_at c.more 5 (f := readB "NeverError") rfl)).1, (readB_ok (allB_at c.more 5 (f := readB "NeverError") rfl)).2⟩, cv := ⟨(initB_ok (allB_at c.more 6 (f := initB "NeverError") rfl)), rfl⟩, kp := FN.kp, hit := (He.exm_ok (c.t.d.fact 90 (f := .exm "BadShare" "NeverError" true) rfl)) }
  have RB : Errs K mg "ByNought" (He.ga K "NeverError") (He.ga K "ByNought") (He.ma K (He.ga K "NeverError") "__init__") (He.ma K (He.ga K "ByNought") "__init__") := { oex := (oexB_ok (allB_at c.more 7 (f := oexB "ByNought") rfl)), xf := (xfK_ok (allB_at c.more 8 (f := xfK "ByNought") rfl)), word := (He.noat_ok (c.t.d.fact 91 (f := .noat "ByNought" "word") rfl)), gC := NCB, gN := NCN, iC := mB.at_, tI := (fnT_ok (allB_at c.more 9 (f := fnT "ByNought" "__init__") rfl)), rd := ⟨(readB_ok (allB_at c.more 5 (f := readB "NeverError") rfl)).1, (readB_ok (allB_at c.more 5 (f := readB "NeverError") rfl)).2⟩, cv := ⟨(initB_ok (allB_at c.more 6 (f := initB "NeverError") rfl)), rfl⟩, kp := FN.kp, hit := (He.exm_ok (c.t.d.fact 92 (f := .exm "ByNought" "NeverError" true) rfl)) }
  have RM : ErrF K mg "BadTerm" "flaw" (He.ga K "NeverError") (He.ga K "BadTerm") (He.ma K (He.ga K "NeverError") "__init__") (He.ma K (He.ga K "BadTerm") "__init__") := { oex := (oexB_ok (allB_at c.more 10 (f := oexB "BadTerm") rfl)), xf := (xfK_ok (allB_at c.more 11 (f := xfK "BadTerm") rfl)), word := (He.noat_ok (c.t.d.fact 93 (f := .noat "BadTerm" "word") rfl)), fld := (He.noat_ok (c.t.d.fact 94 (f := .noat "BadTerm" "flaw") rfl)), gC := NCV, gN := NCN, iC := mV.at_, tI := (fnT_ok (allB_at c.more 12 (f := fnT "BadTerm" "__init__") rfl)), rd := ⟨(readB_ok (allB_at c.more 5 (f := readB "NeverError") rfl)).1, (readB_ok (allB_at c.more 5 (f := readB "NeverError") rfl)).2⟩, cv := ⟨(initB_ok (allB_at c.more 6 (f := initB "NeverError") rfl)), rfl⟩, kp := FN.kp }
  have RT : ErrF K mg "BadText" "at" (He.ga K "NeverError") (He.ga K "BadText") (He.ma K (He.ga K "NeverError") "__init__") (He.ma K (He.ga K "BadText") "__init__") := { oex := (oexB_ok (allB_at c.more 13 (f := oexB "BadText") rfl)), xf := (xfK_ok (allB_at c.more 14 (f := xfK "BadText") rfl)), word := (He.noat_ok (c.t.d.fact 95 (f := .noat "BadText" "word") rfl)), fld := (He.noat_ok (c.t.d.fact 96 (f := .noat "BadText" "at") rfl)), gC := NCW, gN := NCN, iC := mW.at_, tI := (fnT_ok (allB_at c.more 15 (f := fnT "BadText" "__init__") rfl)), rd := ⟨(readB_ok (allB_at c.more 5 (f := readB "NeverError") rfl)).1, (readB_ok (allB_at c.more 5 (f := readB "NeverError") rfl)).2⟩, cv := ⟨(initB_ok (allB_at c.more 6 (f := initB "NeverError") rfl)), rfl⟩, kp := FN.kp }
  have mh : PySem.W.exmOne K (.ref (He.ga K "BadShare")) (.ref (He.ga K "BadShare")) = some true := (He.exm_ok (c.t.d.fact 97 (f := .exm "BadShare" "BadShare" true) rfl))
  have hitT : PySem.W.exmAny K (.ref (He.ga K "BadText")) [.ref (He.ga K "BadTable"), .ref (He.ga K "BadText")] = some true := by
    unfold PySem.W.exmAny
    rw [(He.exm_ok (c.t.d.fact 98 (f := .exm "BadText" "BadTable" false) rfl))]
    unfold PySem.W.exmAny
    rw [(He.exm_ok (c.t.d.fact 99 (f := .exm "BadText" "BadText" true) rfl))]
    rfl
  have SA : AskC K mg (He.ga K "BadTerm") (He.ga K "BadText") (He.ga K "BadTable") := ⟨NCA, (He.exm_ok (c.t.d.fact 100 (f := .exm "BadTerm" "BadTerm" true) rfl)), (He.exm_ok (c.t.d.fact 101 (f := .exm "BadText" "BadTerm" false) rfl)), hitT⟩
  obtain ⟨esH, nH, kH⟩ := (c.t.tab 0 (t := tabN "HOLDS" ["(", "plus", "less", "times", "undo", "share", "letter", "name"]) rfl)
  obtain ⟨esW, nW, kW⟩ := (c.t.tab 1 (t := tabN "WORDS" ["+", "-", "*"]) rfl)
  have vH := (allB_at c.more 16 (f := dctB "HOLDS" [("(", .int 0), ("plus", .int 1), ("less", .int 1), ("times", .int 2), ("undo", .int 3), ("share", .int 4), ("letter", .int 4), ("name", .int 4)]) rfl)
  have vW := (allB_at c.more 17 (f := dctB "WORDS" [("+", .str "plus"), ("-", .str "less"), ("*", .str "times")]) rfl)
  have kB := (allB_at c.more 0 (f := keysB "WORDS" ["+", "-", "*"]) rfl)
  have D2 : Dct2 K w mg (He.ga K "HOLDS") (He.ga K "WORDS") := dct2_mk (He.glo_ok X G (c.t.d.fact 102 (f := .glo "HOLDS") rfl)) (He.glo_ok X G (c.t.d.fact 103 (f := .glo "WORDS") rfl)) (He.str_ok X G (c.t.d.fact 104 (f := .str "BRACKET" "(") rfl)) kH vH kW vW
  have hm : ∀ ch : Nat, opT ch = none → PySem.W.nsIn K (He.ga K "WORDS") (SX.S [ch]) = some none := fun ch e => keysB_no kB (words_no e)
  have TR : RdC K (He.ga K "Reading") := ⟨(He.cls_ok (c.t.d.fact 105 (f := .cls "Reading") rfl)), (He.noat_ok (c.t.d.fact 106 (f := .noat "Reading" "text") rfl)), (He.noat_ok (c.t.d.fact 107 (f := .noat "Reading" "named") rfl)), (He.noat_ok (c.t.d.fact 108 (f := .noat "Reading" "spot") rfl)), (He.noat_ok (c.t.d.fact 109 (f := .noat "Reading" "done") rfl)), (He.noat_ok (c.t.d.fact 110 (f := .noat "Reading" "waiting") rfl)), (He.noat_ok (c.t.d.fact 111 (f := .noat "Reading" "brackets") rfl)), (He.noat_ok (c.t.d.fact 112 (f := .noat "Reading" "fresh") rfl))⟩
  have MK : Mk K (He.ga K "Reading") (He.ma K (He.ga K "Reading") "__init__") := (He.mkr_ok (c.t.d.fact 113 (f := .mkr "Reading") rfl))
  have M0 := (He.int_ok X G (c.t.d.fact 114 (f := .int "LONG" 6000) rfl))
  refine lawAtL lL cL hC tL nL X (fun base hTB => ?_)
  have GN := ok_NE (P := l.prog) (w := w) (mg := mg) (base := base) (k := 0) FN (He.free_ok X G (c.t.d.fact 115 (f := .free "ValueError") rfl)) (initT_ok (allB_at c.more 18 (f := initT "ValueError" "ValueError.__init__") rfl))
  have GNH := ok_NEH (P := l.prog) (w := w) (mg := mg) (base := base) (k := 0) FN (He.free_ok X G (c.t.d.fact 115 (f := .free "ValueError") rfl)) (initT_ok (allB_at c.more 18 (f := initT "ValueError" "ValueError.__init__") rfl))
  have GS := ok_BS FmS RS GN bN
  have GB := ok_BN FmB RB GN bN
  have GM := ok_BTm FmV RM GN bN
  have GT := ok_BTx FmW RT GN bN
  have GTH := ok_BTxH FmW RT GNH bN
  have cG := cal (ok_gcd (P := l.prog) (w := w) (base := base) (k := 0) F0 T.abs M0) g0 F0.kp b0
  have cSh : CalX l.prog w K mg base 4 "share" (spShare _) [] := ⟨_, _, _, _, ok_share FS RB cG GB bmB, gS, FS.kp, bS, .nil⟩
  have cFi := cal (ok_fig (P := l.prog) (w := w) (base := base) (k := 0) F1 T Z) g1 F1.kp b1
  have cTx := cal (ok_text F2 T cFi) g2 F2.kp b2
  have cRf : CalX l.prog w K mg base 4 "read_figures" (spFigs _) [] := ⟨_, _, _, _, ok_figs F3 T Z RS GS bmS, g3, F3.kp, b3, .nil⟩
  have cRs : CalX l.prog w K mg base 5 "read_share" (spRead _) [] := ⟨_, _, _, _, ok_read F4 RS GS bmS cRf cSh cTx, g4, F4.kp, b4, .nil⟩
  have cNu := cal (ok_num (P := l.prog) (w := w) (base := base) (k := 0) F5 T) g5 F5.kp b5
  have cIS := cal (ok_isSh F6 T Co cNu cG) g6 F6.kp b6
  have cIL := cal (ok_isLe (P := l.prog) (w := w) (base := base) (k := 0) F7 T Co) g7 F7.kp b7
  have cBu := cal (ok_built F8 T Co cIS cIL) g8 F8.kp b8
  have cTh := cal (ok_things (P := l.prog) (w := w) (base := base) (k := 0) F9) g9 F9.kp b9
  have cFl := cal (ok_flaw F10 T (He.free_ok X G (c.t.d.fact 116 (f := .free "max") rfl)) Co cBu cTh) g10 F10.kp b10
  have cNe : C9.CalX l.prog w K mg base 5 "need_term" (spNeedG (He.ga K "BadTerm")) [] := ⟨_, _, _, _, ok_needG F11 RM GM bmV cFl, g11, F11.kp, b11, .nil⟩
  have GI := ok_rini (P := l.prog) (w := w) (mg := mg) (base := base) (k := 0) FmI TR
  have XE : MetC l.prog w K mg base (He.ga K "Reading") 1 "ended" ["self"] (spREnd (He.ga K "Reading")) (He.ma K (He.ga K "Reading") "ended") _ := ⟨⟨mE.at_, mE.fn, mE.kp⟩, ok_rend (k := 0) FmE TR T, bmE⟩
  have XR : MetC l.prog w K mg base (He.ga K "Reading") 1 "run" ["self", "signs", "start"] (spRRun (He.ga K "Reading")) (He.ma K (He.ga K "Reading") "run") _ := ⟨⟨mR.at_, mR.fn, mR.kp⟩, ok_rrun (k := 0) FmR TR T, bmR⟩
  have XT : MetC l.prog w K mg base (He.ga K "Reading") 1 "settle" ["self", "least"] (spRSet (He.ga K "Reading")) (He.ma K (He.ga K "Reading") "settle") _ := ⟨⟨mT.at_, mT.fn, mT.kp⟩, ok_rset (k := 0) FmT TR D2, bmT⟩
  have XL : MetX l.prog w K mg base (He.ga K "Reading") 4 "read_letter" ["self"] (spRLet (He.ga K "Reading") (He.ga K "BadText")) (He.ma K (He.ga K "Reading") "read_letter") _ := ⟨⟨mL.at_, mL.fn, mL.kp⟩, ok_rlet FmL TR T C3 XR RT GT bmW, bmL⟩
  have XN : MetX l.prog w K mg base (He.ga K "Reading") 6 "read_number" ["self", "fresh"] (spRNum (He.ga K "Reading") (He.ga K "BadText")) (He.ma K (He.ga K "Reading") "read_number") _ := ⟨⟨mN.at_, mN.fn, mN.kp⟩, ok_rnum (fdH := fdmW) FmN TR T C3 XR RS mh RT GT GTH bmW cRs, bmN⟩
  have XF : MetX l.prog w K mg base (He.ga K "Reading") 7 "read_first" ["self"] (spRFir (He.ga K "Reading") (He.ga K "BadText")) (He.ma K (He.ga K "Reading") "read_first") _ := ⟨⟨mF.at_, mF.fn, mF.kp⟩, ok_rfir FmF TR T C3 D2 XE XL XN RT GT bmW, bmF⟩
  have XX : MetX l.prog w K mg base (He.ga K "Reading") 4 "read_next" ["self"] (spRNex (He.ga K "Reading") (He.ga K "BadText")) (He.ma K (He.ga K "Reading") "read_next") _ := ⟨⟨mX.at_, mX.fn, mX.kp⟩, ok_rnex FmX TR D2 hm XT RT GT bmW, bmX⟩
  have XA : MetX l.prog w K mg base (He.ga K "Reading") 8 "read" ["self"] (spRRea (He.ga K "Reading") (He.ga K "BadText")) (He.ma K (He.ga K "Reading") "read") _ := ⟨⟨mA.at_, mA.fn, mA.kp⟩, ok_rrea FmA TR T D2 XE XF XX XT RT GT bmW, bmA⟩
  have cBi := cal (ok_bui (P := l.prog) (w0 := w) (base := base) (k := 0) F12 T) g12 F12.kp b12
  have cRT : C9.CalX l.prog w K mg base 9 "read_term" (spRTm (He.ga K "BadText") (He.ga K "BadTerm")) [] := ⟨_, _, _, _, ok_rtm F13 TR NCR MK GI bmI XA cBi cNe, g13, F13.kp, b13, .nil⟩
  have cP := cal (ok_pull (P := l.prog) (w := w) (base := base) (k := 0) F15 T.len) g15 F15.kp b15
  have cO := cal (ok_of F16 cP T.len) g16 F16.kp b16
  have cLG := cal (ok_law_gcd (P := l.prog) (w := w) (base := base) (k := 0) F18 T.abs) g18 F18.kp b18
  have cF := cal (ok_law_fr F19 cLG) g19 F19.kp b19
  have cLi := cal (ok_light8 F20 cF cP) g20 F20.kp b20
  have cLe := cal (ok_leaf F22 cLi cP cO) g22 F22.kp b22
  have cBd := cal (ok_bnd (P := l.prog) (w := w) (base := base) (k := 0) F24) g24 F24.kp b24
  have cST := cal (ok_lst (P := l.prog) (w := w) (base := base) (k := 0) F25 T) g25 F25.kp b25
  have cIn := cal (ok_inner (P := l.prog) (w := w) (base := base) (k := 0) F28) g28 F28.kp b28
  have cLC := cal (ok_lcount F29 g29 b29 (He.free_ok X G (c.t.d.fact 117 (f := .free "sum") rfl)) cIn 24) g29 F29.kp b29
  have cAP := cal (ok_allP F31 g31 b31 cIn 24) g31 F31.kp b31
  have cLL := cal (ok_llets (n := 24) F32 (He.free_ok X G (c.t.d.fact 118 (f := .free "sorted") rfl)) (He.free_ok X G (c.t.d.fact 119 (f := .free "set") rfl)) cAP) g32 F32.kp b32
  have cLD := cal (ok_ldepth F30 g30 b30 (He.free_ok X G (c.t.d.fact 116 (f := .free "max") rfl)) T.int cIn 24) g30 F30.kp b30
  have cLR := cal (ok_lrun (P := l.prog) (w := w) (base := base) (k := 0) F34 T) g34 F34.kp b34
  have cNI := cal (ok_numIn (P := l.prog) (w := w) (base := base) (k := 0) F35 T) g35 F35.kp b35
  have cSI := cal (ok_shIn F36 T cNI cLG) g36 F36.kp b36
  have cWa := cal (ok_wan F37 T cLR cSI) g37 F37.kp b37
  exact ok_law lL cL {
    bag := cal (ok_bag (k := 0) F14 T.lst) g14 F14.kp b14
    pull := cP
    pick := cO
    abc := cal (ok_abc F21 T.len T.rng cP cO) g21 F21.kp b21
    drawn := cal (ok_drawn F23 g23 b23 cLe cP 9) g23 F23.kp b23
    wrote := cal (ok_wro F27 g27 b27 F26 g26 b26 cBd cST 24) g27 F27.kp b27
    ben := cal (ok_ben F39 T cP cO) g39 F39.kp b39
    rda := cal (ok_rda F38 T cWa) g38 F38.kp b38
    rtm := cRT
    fault := cal (ok_fault (n := 24) (by decide) F33 T.len cLC cLL cLD) g33 F33.kp b33
    same := cal (ok_same F17 g17 b17 T 27) g17 F17.kp b17 } T RM RT SA F40 g40 hTB
end
end Nv

open PySem PySem.W PySem.Calls PyProof.Rows
set_option maxRecDepth 100000 in
set_option maxHeartbeats 0 in
theorem PySem.Challenge.cw_nevernought_k11_whole_texts_refused_at_t_holds : PySem.Challenge.rw_nevernought_k11_whole_texts_refused_at_t.Holds := by
  w_on; o_law
  refine HandSHeadRun.head_any (r := (OpenLaw.row PySem.Challenge.rw_nevernought_k11_whole_texts_refused_at_t)) (q := view (OpenLaw.row PySem.Challenge.rw_nevernought_k11_whole_texts_refused_at_t).prog [91]) (H := Nv.hk) (ob := Nv.hOb) (M := 9500) (loose := Nv.hNm) (d := HandSHeadRun.topDef (OpenLaw.row PySem.Challenge.rw_nevernought_k11_whole_texts_refused_at_t).prog 91) (kwd := []) Nv.hOb_eq
    (by kernel_rfl) (fun s => by kernel_rfl) Nv.hRun (by kernel_rfl) (by kernel_rfl) (by kernel_rfl) (by rfl) (by first | assumption | decide +kernel) (by decide +kernel) ⟨rfl, rfl, rfl, rfl, rfl, by decide +kernel⟩ ?hw ?hc
  case hw => w_witness2
  case hc =>
    refine LamX.walk_ofTsE (l := PySem.Challenge.rw_nevernought_k11_whole_texts_refused_at_t) (n := 63) (k := 60) (x := "_law_script") (CX := fun _ => L2.CX0) rfl (by decide) (by kernel_rfl) ⟨rfl, by decide, by decide⟩ ?F (fun _ _ _ _ _ z => z)
    intro w mg fa h Y G hmg0
    obtain ⟨K, KX, c⟩ := Y
    have hmg : mg ("law" : PySem.Str) = some (.ref fa) := by
      have e : (HandSHeadRun.topDef (OpenLaw.row PySem.Challenge.rw_nevernought_k11_whole_texts_refused_at_t).prog 91).name = ("law" : PySem.Str) := by kernel_rfl
      rw [← e]
      exact hmg0
    exact ⟨K, KX, Nv.all_mk KX G hmg c⟩

