import PyProof.Rows.All
import Wide.All
import OpenK.AllK
import Wide.FinOn
import HandS.ForMost
import HandS.ForExc
import HandS.ExcInit
import HandS.ExcField
import HandS.TryMany
import HandS.ClsMeth
import HandS.Lambda
import HandS.IsInst
import HandS.Wide
import HandS.Flow
import HandS.Defaults
import HandS.Set
import HandS.Comp
import HandS.SetBool
import HandS.TupSets
import PyProof.Rows.StrMeet
import HandS.Codes
import HandS.EndTab
import HandS.NoneIn
import HandS.WideBits
import HandS.FStr
import HandS.Iter
import HandS.Walk
import HandS.Dict
import HandS.Star
import HandS.More
import HandS.DictComp
import HandS.Small
import KE.DataEq
import KE.KEqDict
import HandS.WordsExc
import HandS.OwnEq
import PyProof.InstNe
import PyProof.TupleOfGen
import PyProof.Conv_bool
import HandS.Style
import KE.KExcInit
import PyProof.ExcBaseAll.LookupError
import HandS.Words
import HandS.Head0
import HandS.Head1
import HandS.Head2
import HandS.HeadEnd
import HandS.HeadHook1
import HandS.HeadHook2
import HandS.HeadHook3
import HandS.HeadHook4
import HandS.HeadWalk
import PySem.Challenge.RW_nevernought_k50_machines_equal_long_and
set_option Elab.async false
set_option linter.all false
/-! Whole numbers: the greatest common divisor and fractions in lowest terms. -/
namespace Nv
theorem gcd_step (a b : Int) : Int.gcd b (a.fmod b) = Int.gcd a b := by
  rw [Int.fmod_def, Int.mul_comm, Int.gcd_sub_mul_right_right, Int.gcd_comm]
theorem fmod_small (a : Int) {b : Int} (hb : b ≠ 0) : (a.fmod b).natAbs < b.natAbs := by
  have h1 := Int.emod_nonneg a hb
  have h2 := Int.emod_lt a hb
  rw [Int.fmod_eq_emod]
  split
  · omega
  · rename_i h
    have hn : ¬ b ∣ a := fun d => h (.inr d)
    have hz : a % b ≠ 0 := fun z => hn (Int.dvd_of_emod_eq_zero z)
    omega
theorem gcd_zero (a : Int) : (if a < 0 then -a else a) = ((Int.gcd a 0 : Nat) : Int) := by
  rw [Int.gcd_zero_right]
  split <;> omega
/-- what both numbers are divided by -/
def per (t b : Int) : Int := if b < 0 then -((Int.gcd t b : Nat) : Int) else ((Int.gcd t b : Nat) : Int)
def frT (t b : Int) : Int := t.fdiv (per t b)
def frB (t b : Int) : Int := b.fdiv (per t b)
theorem gcd_pos (t : Int) {b : Int} (hb : b ≠ 0) : 0 < Int.gcd t b := Int.gcd_pos_of_ne_zero_right t hb
theorem per_ne (t : Int) {b : Int} (hb : b ≠ 0) : per t b ≠ 0 := by
  have := gcd_pos t hb
  unfold per
  split <;> omega
theorem per_le (t : Int) {b : Int} (hb : b ≠ 0) : (per t b).natAbs ≤ b.natAbs := by
  have := Int.gcd_le_natAbs_right t hb
  unfold per
  split <;> omega
theorem per_dvd_l (t b : Int) : per t b ∣ t := by
  unfold per
  split
  · exact Int.neg_dvd.mpr (Int.gcd_dvd_left t b)
  · exact Int.gcd_dvd_left t b
theorem per_dvd_r (t b : Int) : per t b ∣ b := by
  unfold per
  split
  · exact Int.neg_dvd.mpr (Int.gcd_dvd_right t b)
  · exact Int.gcd_dvd_right t b
theorem fdiv_mul {x d : Int} (h : d ∣ x) : x.fdiv d * d = x := by
  rw [Int.fdiv_eq_ediv_of_dvd h]
  exact Int.ediv_mul_cancel h
theorem abs_le_of_mul {q d x : Int} (hd : d ≠ 0) (e : q * d = x) : q.natAbs ≤ x.natAbs := by
  rw [← e, Int.natAbs_mul]
  exact Nat.le_mul_of_pos_right _ (by omega)
theorem frT_le (t : Int) {b : Int} (hb : b ≠ 0) : (frT t b).natAbs ≤ t.natAbs := abs_le_of_mul (per_ne t hb) (fdiv_mul (per_dvd_l t b))
theorem frB_le (t : Int) {b : Int} (hb : b ≠ 0) : (frB t b).natAbs ≤ b.natAbs := abs_le_of_mul (per_ne t hb) (fdiv_mul (per_dvd_r t b))
theorem frB_pos (t : Int) {b : Int} (hb : b ≠ 0) : 0 < frB t b := by
  have e : frB t b * per t b = b := fdiv_mul (per_dvd_r t b)
  have hp := per_ne t hb
  have hg := gcd_pos t hb
  rcases Int.lt_or_lt_of_ne hb with h | h
  · have hn : per t b < 0 := by unfold per; rw [if_pos h]; omega
    rcases Int.lt_trichotomy (frB t b) 0 with q | q | q
    · have := Int.mul_pos_of_neg_of_neg q hn
      omega
    · rw [q, Int.zero_mul] at e
      omega
    · exact q
  · have hn : 0 < per t b := by unfold per; rw [if_neg (by omega)]; omega
    rcases Int.lt_trichotomy (frB t b) 0 with q | q | q
    · have := Int.mul_neg_of_neg_of_pos q hn
      omega
    · rw [q, Int.zero_mul] at e
      omega
    · exact q
theorem per_one (t : Int) : per t 1 = 1 := by
  unfold per
  rw [if_neg (by omega), Int.gcd_one_right]
  rfl
theorem frT_one (t : Int) : frT t 1 = t := by
  unfold frT
  rw [per_one, Int.fdiv_one]
theorem frB_one (t : Int) : frB t 1 = 1 := by
  unfold frB
  rw [per_one, Int.fdiv_one]
end Nv

set_option maxRecDepth 100000
set_option maxHeartbeats 4000000
/-! Rules that the layer lacks: great divisors of either sign, an own exception made without arguments, a def read off an own class and called, several except clauses with names. -/
namespace Nv
open PySem PySem.Spec PyProof.Rows L2
section
variable {X : Cx}
def DivOk (_ j : Int) : Prop := j ≠ 0 ∧ j.natAbs < 2 ^ 8000
theorem op_div : OpR X (binaryOp .FloorDiv) (rI DivOk fun i j => .int (i.fdiv j)) :=
  opI fun _ _ _ _ _ _ _ hc q => floordiv_int hc.1 q (.inl (PyProof.noPylong_of_log2 (Nat.lt_trans (PySem.Flt.log2_lt_of (by decide) hc.2) (by decide))))
/-- C.m(a, ..): the class at C holds the def g under m -/
theorem pe_clsdef {CX : CXT} {k : Nat} {C g : Addr} {mc : Value} {fd : FuncData} {ps : List Str} {sp : Sp} {ds : List Value} {dvs : List V} {E : XK} {o e : Expr} {es : List Expr} {m : Str} {pos apos : Pos} {ta : TE} {t : TA} {pl : Sem Bool}
    (ho : PE X o ta) (rd : ClX.CRead X.K C mc) (cv : ClX.CVal X.K C mc m (.ref g) (.ref g)) (kp : PySem.W.keepIn X.K (.ref g) = true)
    (G : FnOk X.prog X.w X.K X.mg X.base CX k g fd ps sp) (hr : Room k X.A) (hb : Binds X.K fd ps ds) (hd : Vals dvs ds) (hx : Passes CX X E) (ha : PA X (e :: es) t)
    (hst : starEach (e :: es) X.env = (false, eval e X.env) :: starEach es X.env := by rfl) (hpl : (backTo pos (starEach es X.env)).any (·.1) = false := by rfl)
    (ht : eval (.Call (.Attribute o m apos) (e :: es) [] pos) X.env = (do
      let cv ← eval o X.env
      standAt apos.atName
      let (fn, before) ← holding [cv] (getMethod cv m pl)
      callWith pos fn before (backTo pos (starEach (e :: es) X.env)) (backToKw pos (keywordEach [] X.env))) := by rfl) :
    PE X (.Call (.Attribute o m apos) (e :: es) [] pos) (fun σ H Q => ta σ H fun x H1 => x = .ref C ∧ t σ H1 fun vs H2 => sp (vs ++ dvs) H2 Q E) := by
  refine ⟨fun pins s σ H Q I h => ?_⟩
  refine PySem.W.methodCall_KW (pl := pl) (thn (ho.run pins s σ H _ I h) fun u s1 hh => ?_) ht
  obtain ⟨x, H1, I1, rx, ex, q⟩ := hh
  subst ex
  obtain rfl : u = Value.ref C := rx
  refine PySem.W.method_cls I1.kIn rd.ga (ClX.getcval_ok I1 rd cv fun s2 I2 => ?_)
  refine PySem.W.callWith_K (first := []) (h₀ := X.base) I.ok.mod.kin kp (thn (ha.run pos pins s2 σ H1 _ I2 q) fun us s3 hh => ?_) hst hpl
  obtain ⟨vs, H2, I3, rv, q2⟩ := hh
  exact ⟨I3.kIn, run_fn G hr hb hd hx I3 rv q2⟩
/-- C(), an own exception whose __init__ is a def -/
theorem pmk_bare {CX : CXT} {x : Str} {C g : Addr} {k : Nat} {fd : FuncData} {ps : List Str} {sp : Sp} {p pos : Pos} (T : OexC X.K C) (hi : PySem.W.findIn X.K (.ref C) "__init__" = some (some (.ref g)))
    (hti : PySem.W.typeIn X.K (.ref g) = some (.type "function")) (G : FnOk X.prog X.w X.K X.mg X.base CX k g fd ps sp) (hr : Room (k + 1) X.A) (hb : Binds X.K fd ps []) (hx : Passes CX X (fun _ _ _ => False))
    (hg : Gl X x) (hm : X.mg x = some (.ref C)) (hdb : (x == ("__debug__" : Str)) = false := by decide) : PMk X (.Call (.Name x p) [] [] pos) (tMkO C sp [] tNil) := by
  intro pins s σ H Q I h
  obtain ⟨nm, qn, N, bs, bm, sn, sub, ab, col, dd, a0, a1, a2, a3, a5, hC, hbm⟩ := T.cls
  refine wpAny_Call_Name_kw (ld_glob I hg hm ?_ hdb)
  refine PySem.W.callWith_K0 I.kIn T.kC ?_
  obtain ⟨hp, gs, dr, tk, os⟩ := s
  have up : hp.objs.size ≤ hp.objs.size + 1 := Nat.le_succ _
  have fresh : H (hp.objs.size + 1) = none := I.hok.fresh up
  have said := h.2 (hp.objs.size + 1) fresh
  have keep : ∀ b o, hp.get? b = some o → ((hp.push (PySem.W.kdv_tup [])).push (PySem.HandSPX.excO C hp.objs.size)).get? b = some o :=
    fun b o z => Heap.get?_push_of_some _ (Heap.get?_push_of_some _ z)
  have here : ((hp.push (PySem.W.kdv_tup [])).push (PySem.HandSPX.excO C hp.objs.size)).get? (hp.objs.size + 1) = some (PySem.HandSPX.excO C hp.objs.size) := by heap_get
  have I2 := I.laid (t' := tk) (a := hp.objs.size + 1) (o := exo (hp.objs.size + 1) C none) (h' := (hp.push (PySem.W.kdv_tup [])).push (PySem.HandSPX.excO C hp.objs.size)) keep up (exo_ok here)
  have one : Vals [V.ref (hp.objs.size + 1)] [Value.ref (hp.objs.size + 1)] := .cons rfl .nil
  have many : [Value.ref (hp.objs.size + 1)].length = ps.length := by
    have z := G.len _ _ _ _ said
    exact z
  have run := G.run (X.A.under (.builtin "type.__call__" ⟨[.ref C], []⟩)) X.stack _ _ ⟨[Value.ref (hp.objs.size + 1)], []⟩ [Value.ref (hp.objs.size + 1)] _ _ (fun _ _ _ => False) (hr.make C [] []) (I2.env0.make C [] [])
    (by have z := hb _ [Value.ref (hp.objs.size + 1)] I2.kIn many; exact z) one said
  refine wpAny_call (PySem.HandSPX.call_own F.excBase_ValueError (fun Y => PySem.HandSPX.refsVE_contains Y bm hbm) (I.kIn _ _ hC) (PySem.W.looks_findIn I.kIn hi) (fun self => PySem.W.bind_fn I.kIn self hti) (Nat.zero_le _)
    (codeAny_mono run fun r s' hq => ?_))
  cases r with
  | error er => exact hx pins σ _ _ er s' I2 hq
  | ok fl =>
    cases fl with
    | ret u =>
      obtain ⟨v, H2, os2, bare2, un2, hok2, rv, ev, d, fs, ea, ed, hd1, q2⟩ := hq
      subst ev
      obtain ⟨h2, g2, d2, t2, os'⟩ := s'
      exact ⟨rv, mk_end (raises_own T.exC T.tyC) I up keep un2 hok2 os2 bare2 ea ed hd1 q2⟩
    | next => exact False.elim hq
    | brk => exact False.elim hq
    | cont => exact False.elim hq
end
end Nv

set_option maxRecDepth 100000
set_option maxHeartbeats 4000000
namespace Nv
open PySem PySem.Spec PyProof.Rows L2
/-! Several except clauses, each with a name for what is caught (slot i), for one class or for two in a tuple; nothing leaves the last one that is told of. -/
abbrev Clause := List Value × Nat × (Addr → Value → Option Addr → TS)
def gone (i : Nat) (D : Ends) : Ends := { nx := fun σ H => D.nx (σ.set i none) H, rt := D.rt, bk := fun σ H => D.bk (σ.set i none) H, ct := fun σ H => D.ct (σ.set i none) H }
/-- whether one of the classes is told to match -/
def Hits (K : PySem.W.Frag) (cls : Value) : List Value → Bool → Prop
  | [c], b => PySem.W.exmOne K cls c = some b
  | cs, b => PySem.W.exmAny K cls cs = some b
def wNamed (K : PySem.W.Frag) (D : Ends) : List Clause → WX
  | [] => fun _ _ _ _ => False
  | (cs, i, ts) :: r => fun cls d σ H => ∃ b, Hits K cls cs b ∧ (b = true → ∀ a, H a = none → ts a cls d (gone i D) (σ.set i (some (.ref a))) H) ∧ (b = false → wNamed K D r cls d σ H)
def Suite (X : Cx) (ts : Addr → Value → Option Addr → TS) (sts : List Stmt) : Prop :=
  ∀ (a : Addr) (oe : Obj) (cls : Value) (d : Option Addr) (pn : List (Addr × Obj)), Zc cls d oe → (∃ vs, oe.data = .fields vs) → PSs (X.suite a ((a, oe) :: pn)) sts (ts a cls d)
inductive Named (X : Cx) : List ExceptHandler → List Clause → Prop
  | stop {hds : List ExceptHandler} : Named X hds []
  | one {x n : Str} {c : Value} {i : Nat} {ts : Addr → Value → Option Addr → TS} {st : Stmt} {sts : List Stmt} {q1 q2 : Pos} {hds : List ExceptHandler} {cl : List Clause} (hi : X.N[i]? = some n) (hl : X.env.kindOf n = some .local) (hc : Names X x c)
      (su : Suite X ts (st :: sts)) (r : Named X hds cl) : Named X (.ExceptHandler (some (.Name x q1)) (some n) (st :: sts) q2 :: hds) (([c], i, ts) :: cl)
  | two {x y n : Str} {c e : Addr} {i kt : Nat} {ts : Addr → Value → Option Addr → TS} {st : Stmt} {sts : List Stmt} {q1 q2 q3 qt : Pos} {hds : List ExceptHandler} {cl : List Clause} (hi : X.N[i]? = some n) (hl : X.env.kindOf n = some .local)
      (gx : Gl X x) (dx : (x == ("__debug__" : Str)) = false) (hx : X.mg x = some (.ref c)) (gy : Gl X y) (dy : (y == ("__debug__" : Str)) = false) (hy : X.mg y = some (.ref e))
      (su : Suite X ts (st :: sts)) (r : Named X hds cl) : Named X (.ExceptHandler (some (.Tuple [.Name x q1, .Name y q3] kt qt)) (some n) (st :: sts) q2 :: hds) (([.ref c, .ref e], i, ts) :: cl)
  | three {x y z n : Str} {c e g : Addr} {i kt : Nat} {ts : Addr → Value → Option Addr → TS} {st : Stmt} {sts : List Stmt} {q1 q2 q3 q4 qt : Pos} {hds : List ExceptHandler} {cl : List Clause} (hi : X.N[i]? = some n) (hl : X.env.kindOf n = some .local)
      (gx : Gl X x) (dx : (x == ("__debug__" : Str)) = false) (hx : X.mg x = some (.ref c)) (gy : Gl X y) (dy : (y == ("__debug__" : Str)) = false) (hy : X.mg y = some (.ref e)) (gz : Gl X z) (dz : (z == ("__debug__" : Str)) = false) (hz : X.mg z = some (.ref g))
      (su : Suite X ts (st :: sts)) (r : Named X hds cl) : Named X (.ExceptHandler (some (.Tuple [.Name x q1, .Name y q3, .Name z q4] kt qt)) (some n) (st :: sts) q2 :: hds) (([.ref c, .ref e, .ref g], i, ts) :: cl)
section
variable {X : Cx} {body : List Stmt} {hd : ExceptHandler} {hds : List ExceptHandler} {cl : List Clause} {pos : Pos} {tb : WX → TS}
theorem fly_keep {B h h' : Heap} {l : List Env} {a : Addr} {Z : Obj → Prop} (k : ∀ b o, h.get? b = some o → h'.get? b = some o) (fl : HandSPX.FlyingZ B l a Z h) : HandSPX.FlyingZ B l a Z h' := by
  obtain ⟨f1, f2, f3, oe, vs, T, oT, ts, g1, g2, g3, g4, g5, g6, g7, g8, g9⟩ := fl
  exact ⟨fun b o e => k b o (f1 b o e), f2, Heap.FunFrames.of_keeps (fun b o e _ => ⟨o, k b o e, rfl⟩) f3, oe, vs, T, oT, ts, k _ _ g1, g2, g3, g4, g5, g6, k _ _ g7, g8, g9⟩
/-- what stands when an exception has come down to the clauses -/
structure Down (X : Cx) (pins : List (Addr × Obj)) (σ : L2.St) (H : Hp) (a : Addr) (cls : Value) (d : Option Addr) (s : Shared) : Prop where
  free : H a = none
  loc : a ≠ X.env.locals
  frm : a ∉ X.fs
  fly : ∃ (B : Heap) (sI : Shared), Inv X pins σ H sI ∧ (∀ b o, sI.heap.get? b = some o → b ∉ frs X.stack → B.get? b = some o) ∧ sI.heap.UpToSlots s.heap ∧ HandSPX.FlyingZ B (X.env :: X.outer) a (Zc cls d) s.heap ∧ s.os = sI.os ∧ AllBare s.gens
theorem Down.keep {pins : List (Addr × Obj)} {σ : L2.St} {H : Hp} {a : Addr} {cls : Value} {d : Option Addr} {s : Shared} {h' : Heap} (Z : Down X pins σ H a cls d s) (k : ∀ b o, s.heap.get? b = some o → h'.get? b = some o) : Down X pins σ H a cls d { s with heap := h' } := by
  obtain ⟨B, sI, J, nb, up, fl, os, ag⟩ := Z.fly
  exact ⟨Z.free, Z.loc, Z.frm, B, sI, J, nb, up.trans (.of_keeps k), fly_keep k fl, os, ag⟩
theorem handle (hf : X.env.frame = some X.env.locals) (nd : X.N.Nodup) {pins : List (Addr × Obj)} {σ : L2.St} {H : Hp} {a : Addr} {cls : Value} {d : Option Addr} {D : Ends} (ok : X.Ok) :
    ∀ {hds : List ExceptHandler} {cl : List Clause}, Named X hds cl → ∀ {s : Shared}, Down X pins σ H a cls d s → wNamed X.K D cl cls d σ H → wpAny (model X.prog X.w) X.A (handleBy (.ref a) X.env hds) (SP X pins D) X.xe s := by
  intro hds cl hk
  induction hk with
  | stop => intro s Z w; exact w.elim
  | @one x n c i ts st sts q1 q2 hds2 cl2 hi hl hc su r ih =>
    intro s Z w
    obtain ⟨b, hb1, yes, no⟩ := w
    obtain ⟨B, sI, J, nb, up, fl, os, ag⟩ := Z.fly
    obtain ⟨oe, vs, he, hz, hdt⟩ := fl.there
    have I3 : Inv X pins σ H s := J.landed nb fl.1 up os ag
    have S3 := I3.suite he hdt Z.free Z.loc Z.frm
    refine wpAny_handleBy_cons (codeAny_handlers_test ?_) (by intro q; cases q)
    have kind : PySem.W.Looks (model X.prog X.w) s.heap (typeOf (.ref a)) cls := fun A Q E s k q => wpAny_typeOf_ref (k _ _ he) (by rw [hz.1]; exact q)
    have hit := PySem.W.exm_one (M := model X.prog X.w) I3.kIn kind hb1
    have named : ∀ {Q : Value → Shared → Prop} {E : Value → Shared → Prop}, Q c s → wpAny (model X.prog X.w) (X.A.mark (some (.ref a))) (eval (.Name x q1) X.env) Q E s := fun {Q E} q => by
      obtain ⟨hg, hdbg, hm | ⟨hm, hv, hnn⟩⟩ := hc
      · exact ld_glob (X := X.suite a ((a, oe) :: (X.pn ++ pins))) S3 hg hm q hdbg
      · exact ld_blt (X := X.suite a ((a, oe) :: (X.pn ++ pins))) S3 hg hm hv q hnn hdbg
    refine named (hit.here ?_)
    cases b with
    | false => exact ih Z (no rfl)
    | true =>
      refine codeAny_handlers_suite_as ?_
      refine HandSPX.lands_againZ fl fun h4 fl4 up4 => ?_
      have J4 : Inv X pins σ H { s with heap := h4 } := J.landed nb fl4.1 (up.trans up4) os ag
      obtain ⟨oe4, vs4, he4, hz4, hd4⟩ := fl4.there
      have S4 := J4.suite he4 hd4 Z.free Z.loc Z.frm
      refine store_ok (X := X.suite a ((a, oe4) :: (X.pn ++ pins))) (v := .ref a) S4 nd hi (.inl hl) rfl (fun s5 S5 => ?_) (.inr hl)
      refine wpAny_mono ((su a oe4 cls d (X.pn ++ pins) hz4 ⟨_, hd4⟩).run [] s5 _ H _ S5 (yes rfl a Z.free)) (fun f s6 hsp => ?_) (fun _ _ z => False.elim z)
      have unname : ∀ {σ6 : L2.St} {H6 : Hp} {Q : Shared → Prop}, Inv (X.suite a ((a, oe4) :: (X.pn ++ pins))) [] σ6 H6 s6 → (∀ s7, Inv X pins (σ6.set i none) H6 s7 → Q s7) →
          wpAny (model X.prog X.w) X.A (do bindName X.env n .none; unbindBehindTheSuite X.env n q2) (fun _ s7 => Q s7) X.xe s6 := fun S6 hq => gone_ok (S6.unsuite ok) nd hi hl hq
      cases f with
      | ret u =>
        obtain ⟨v6, σ6, H6, S6, r6, q6⟩ := hsp
        exact unname S6 fun s7 J7 => ⟨_, _, _, J7, r6, q6⟩
      | next =>
        obtain ⟨σ6, H6, S6, q6⟩ := hsp
        exact unname S6 fun s7 J7 => ⟨_, _, J7, q6⟩
      | brk =>
        obtain ⟨σ6, H6, S6, q6⟩ := hsp
        exact unname S6 fun s7 J7 => ⟨_, _, J7, q6⟩
      | cont =>
        obtain ⟨σ6, H6, S6, q6⟩ := hsp
        exact unname S6 fun s7 J7 => ⟨_, _, J7, q6⟩
  | @two x y n c e i kt ts st sts q1 q2 q3 qt hds2 cl2 hi hl gx dx hx gy dy hy su r ih =>
    intro s Z0 w
    obtain ⟨b, hb1, yes, no⟩ := w
    have S0 : ∃ oe, Inv (X.suite a ((a, oe) :: (X.pn ++ pins))) [] σ H s := by
      obtain ⟨B, sI, J, nb, up, fl, os, ag⟩ := Z0.fly
      obtain ⟨oe, vs, he, hz, hdt⟩ := fl.there
      exact ⟨oe, (J.landed nb fl.1 up os ag).suite he hdt Z0.free Z0.loc Z0.frm⟩
    obtain ⟨oe0, S0⟩ := S0
    refine wpAny_handleBy_cons (codeAny_handlers_test ?_) (by intro q; cases q)
    refine wpAny_Tuple_spliced (spliced_more (ld_glob (X := X.suite a ((a, oe0) :: (X.pn ++ pins))) S0 gx hx (spliced_more (ld_glob (X := X.suite a ((a, oe0) :: (X.pn ++ pins))) S0 gy hy (spliced_none ⟨(by show 2 ≤ sizeLine; decide), ?_⟩) dy)) dx))
    have Z := Z0.keep (h' := s.heap.push { cls := .type "tuple", data := .seq [Value.ref c, Value.ref e].toArray }) (fun b o z => Heap.get?_push_of_some _ z)
    have there : (s.heap.push { cls := .type "tuple", data := .seq [Value.ref c, Value.ref e].toArray }).get? s.heap.objs.size = some { cls := .type "tuple", data := .seq [Value.ref c, Value.ref e].toArray } := Heap.get?_push_size _ rfl
    obtain ⟨B, sI, J, nb, up, fl, os, ag⟩ := Z.fly
    obtain ⟨oe, vs, he, hz, hdt⟩ := fl.there
    have I3 : Inv X pins σ H _ := J.landed nb fl.1 up os ag
    have kind : PySem.W.Looks (model X.prog X.w) (s.heap.push { cls := .type "tuple", data := .seq [Value.ref c, Value.ref e].toArray }) (typeOf (.ref a)) cls := fun A Q E s k q => wpAny_typeOf_ref (k _ _ he) (by rw [hz.1]; exact q)
    have hit := PySem.W.exm_tup2 (M := model X.prog X.w) I3.kIn kind there hb1
    refine hit.here ?_
    cases b with
    | false => exact ih Z (no rfl)
    | true =>
      refine codeAny_handlers_suite_as ?_
      refine HandSPX.lands_againZ fl fun h4 fl4 up4 => ?_
      have J4 : Inv X pins σ H { s with heap := h4 } := J.landed nb fl4.1 (up.trans up4) os ag
      obtain ⟨oe4, vs4, he4, hz4, hd4⟩ := fl4.there
      have S4 := J4.suite he4 hd4 Z.free Z.loc Z.frm
      refine store_ok (X := X.suite a ((a, oe4) :: (X.pn ++ pins))) (v := .ref a) S4 nd hi (.inl hl) rfl (fun s5 S5 => ?_) (.inr hl)
      refine wpAny_mono ((su a oe4 cls d (X.pn ++ pins) hz4 ⟨_, hd4⟩).run [] s5 _ H _ S5 (yes rfl a Z.free)) (fun f s6 hsp => ?_) (fun _ _ z => False.elim z)
      have unname : ∀ {σ6 : L2.St} {H6 : Hp} {Q : Shared → Prop}, Inv (X.suite a ((a, oe4) :: (X.pn ++ pins))) [] σ6 H6 s6 → (∀ s7, Inv X pins (σ6.set i none) H6 s7 → Q s7) →
          wpAny (model X.prog X.w) X.A (do bindName X.env n .none; unbindBehindTheSuite X.env n q2) (fun _ s7 => Q s7) X.xe s6 := fun S6 hq => gone_ok (S6.unsuite ok) nd hi hl hq
      cases f with
      | ret u =>
        obtain ⟨v6, σ6, H6, S6, r6, q6⟩ := hsp
        exact unname S6 fun s7 J7 => ⟨_, _, _, J7, r6, q6⟩
      | next =>
        obtain ⟨σ6, H6, S6, q6⟩ := hsp
        exact unname S6 fun s7 J7 => ⟨_, _, J7, q6⟩
      | brk =>
        obtain ⟨σ6, H6, S6, q6⟩ := hsp
        exact unname S6 fun s7 J7 => ⟨_, _, J7, q6⟩
      | cont =>
        obtain ⟨σ6, H6, S6, q6⟩ := hsp
        exact unname S6 fun s7 J7 => ⟨_, _, J7, q6⟩
  | @three x y z n c e g i kt ts st sts q1 q2 q3 q4 qt hds2 cl2 hi hl gx dx hx gy dy hy gz dz hzz su r ih =>
    intro s Z0 w
    obtain ⟨b, hb1, yes, no⟩ := w
    have S0 : ∃ oe, Inv (X.suite a ((a, oe) :: (X.pn ++ pins))) [] σ H s := by
      obtain ⟨B, sI, J, nb, up, fl, os, ag⟩ := Z0.fly
      obtain ⟨oe, vs, he, hz, hdt⟩ := fl.there
      exact ⟨oe, (J.landed nb fl.1 up os ag).suite he hdt Z0.free Z0.loc Z0.frm⟩
    obtain ⟨oe0, S0⟩ := S0
    refine wpAny_handleBy_cons (codeAny_handlers_test ?_) (by intro q; cases q)
    refine wpAny_Tuple_spliced (spliced_more (ld_glob (X := X.suite a ((a, oe0) :: (X.pn ++ pins))) S0 gx hx (spliced_more (ld_glob (X := X.suite a ((a, oe0) :: (X.pn ++ pins))) S0 gy hy (spliced_more (ld_glob (X := X.suite a ((a, oe0) :: (X.pn ++ pins))) S0 gz hzz (spliced_none ⟨(by show 3 ≤ sizeLine; decide), ?_⟩) dz)) dy)) dx))
    have Z := Z0.keep (h' := s.heap.push { cls := .type "tuple", data := .seq [Value.ref c, Value.ref e, Value.ref g].toArray }) (fun b o z => Heap.get?_push_of_some _ z)
    have there : (s.heap.push { cls := .type "tuple", data := .seq [Value.ref c, Value.ref e, Value.ref g].toArray }).get? s.heap.objs.size = some { cls := .type "tuple", data := .seq [Value.ref c, Value.ref e, Value.ref g].toArray } := Heap.get?_push_size _ rfl
    obtain ⟨B, sI, J, nb, up, fl, os, ag⟩ := Z.fly
    obtain ⟨oe, vs, he, hz, hdt⟩ := fl.there
    have I3 : Inv X pins σ H _ := J.landed nb fl.1 up os ag
    have kind : PySem.W.Looks (model X.prog X.w) (s.heap.push { cls := .type "tuple", data := .seq [Value.ref c, Value.ref e, Value.ref g].toArray }) (typeOf (.ref a)) cls := fun A Q E s k q => wpAny_typeOf_ref (k _ _ he) (by rw [hz.1]; exact q)
    have hit := PySem.W.exm_tup3 (M := model X.prog X.w) I3.kIn kind there hb1
    refine hit.here ?_
    cases b with
    | false => exact ih Z (no rfl)
    | true =>
      refine codeAny_handlers_suite_as ?_
      refine HandSPX.lands_againZ fl fun h4 fl4 up4 => ?_
      have J4 : Inv X pins σ H { s with heap := h4 } := J.landed nb fl4.1 (up.trans up4) os ag
      obtain ⟨oe4, vs4, he4, hz4, hd4⟩ := fl4.there
      have S4 := J4.suite he4 hd4 Z.free Z.loc Z.frm
      refine store_ok (X := X.suite a ((a, oe4) :: (X.pn ++ pins))) (v := .ref a) S4 nd hi (.inl hl) rfl (fun s5 S5 => ?_) (.inr hl)
      refine wpAny_mono ((su a oe4 cls d (X.pn ++ pins) hz4 ⟨_, hd4⟩).run [] s5 _ H _ S5 (yes rfl a Z.free)) (fun f s6 hsp => ?_) (fun _ _ z => False.elim z)
      have unname : ∀ {σ6 : L2.St} {H6 : Hp} {Q : Shared → Prop}, Inv (X.suite a ((a, oe4) :: (X.pn ++ pins))) [] σ6 H6 s6 → (∀ s7, Inv X pins (σ6.set i none) H6 s7 → Q s7) →
          wpAny (model X.prog X.w) X.A (do bindName X.env n .none; unbindBehindTheSuite X.env n q2) (fun _ s7 => Q s7) X.xe s6 := fun S6 hq => gone_ok (S6.unsuite ok) nd hi hl hq
      cases f with
      | ret u =>
        obtain ⟨v6, σ6, H6, S6, r6, q6⟩ := hsp
        exact unname S6 fun s7 J7 => ⟨_, _, _, J7, r6, q6⟩
      | next =>
        obtain ⟨σ6, H6, S6, q6⟩ := hsp
        exact unname S6 fun s7 J7 => ⟨_, _, J7, q6⟩
      | brk =>
        obtain ⟨σ6, H6, S6, q6⟩ := hsp
        exact unname S6 fun s7 J7 => ⟨_, _, J7, q6⟩
      | cont =>
        obtain ⟨σ6, H6, S6, q6⟩ := hsp
        exact unname S6 fun s7 J7 => ⟨_, _, J7, q6⟩
theorem ps_try_named (hs : X.stack = X.env :: X.outer) (hf : X.env.frame = some X.env.locals) (nd : X.N.Nodup)
    (hb : ∀ (W : WX) (pn : List (Addr × Obj)) (xe : Value → Shared → Prop), Takes (X.tr pn xe) W → PassesOwn (model X.prog X.w) X.A X.env xe → PSs (X.tr pn xe) body (tb W)) (hh : Named X (hd :: hds) cl) :
    PS X (.Try body (hd :: hds) [] [] pos) (fun D σ H => tb (wNamed X.K D cl) D σ H) := by
  refine ⟨fun pins s σ H D I h => ?_⟩
  have ok := I.ok
  have hfr : X.A.frames = some (X.env :: X.outer) := by rw [ok.frames, hs]
  refine wpAny_Try_except ?_
  have inner := hb (wNamed X.K D cl) (X.pn ++ pins) (fun e s₁ => wpAny (model X.prog X.w) X.A (noteFrame e X.env) (fun _ s₂ => wpAny (model X.prog X.w) X.A (setFlight e none) (fun _ s₃ =>
    wpAny (model X.prog X.w) X.A (handleBy e X.env (hd :: hds)) (SP X pins D) X.xe s₃) X.xe s₂) X.xe s₁) (fun u s' xx => by
      obtain ⟨a, B, sI, pins', σ', H', cls, d, rfl, J', nb, up, sky, na, os, ag, w⟩ := xx
      have J : Inv X pins σ' H' sI := J'.ofTry ok
      rw [hs] at sky
      refine Sky.land Zc.steady hfr hf sky fun h3 fl3 up3 => ?_
      obtain ⟨oe3, vs3, he3, hz3, hd3⟩ := fl3.there
      have nfr : a ∉ frs (X.env :: X.outer) := fun hm => by
        obtain ⟨_, o', e', hnf⟩ := fl3.2.2.1.mem hm
        rw [he3] at e'
        cases e'
        exact hnf _ hd3
      refine handle hf nd (D := D) ok hh ⟨na, fun z => nfr (List.mem_filterMap.mpr ⟨X.env, List.mem_cons_self, by rw [hf, z]⟩), fun hm => ?_, B, sI, J, nb, up.trans up3, fl3, os, ag⟩ w
      obtain ⟨e, hin, q⟩ := List.mem_filterMap.mp hm
      exact nfr (List.mem_filterMap.mpr ⟨e, List.mem_cons_of_mem _ hin, q⟩)) PassesOwn.looking
  refine wpAny_mono (inner.run [] s σ H D (I.toTry _) h) (fun f s1 hsp => ?_) (fun e s1 he => he)
  cases f with
  | ret u =>
    obtain ⟨v, σ', H', J', r, q⟩ := hsp
    exact ⟨v, σ', H', J'.ofTry ok, r, q⟩
  | next =>
    obtain ⟨σ', H', J', q⟩ := hsp
    exact wpAny_execs_nil ⟨σ', H', J'.ofTry ok, q⟩
  | brk =>
    obtain ⟨σ', H', J', q⟩ := hsp
    exact ⟨σ', H', J'.ofTry ok, q⟩
  | cont =>
    obtain ⟨σ', H', J', q⟩ := hsp
    exact ⟨σ', H', J'.ofTry ok, q⟩
end
end Nv

set_option maxRecDepth 100000
set_option maxHeartbeats 4000000
/-! Sets of texts: made, added to, comprehended, sorted. -/
namespace NvSet
open PySem PySem.Spec PyProof.Rows L2
/-- the text of a member -/
def txOf (e : Int × Value) : Str := match e.2 with
  | .str x _ => x
  | _ => ""
/-- a member of a set of texts: the text and its hash in this world -/
structure Mem (w : World) (e : Int × Value) : Prop where
  is : ∃ x t, e = (hashStr w x, Value.str x t)
/-- a set that can be walked is so laid -/
structure Walk' (w : World) (tb : SetTable) (n : Nat) : Prop where
  fit : tb.fits n = true
  ris : Ris tb.place.toList
  led : w.params.followText "set-order" = true ∨ tb.led = true
/-- the set of texts at a, its members xs in some order -/
structure Txs (w : World) (h : Heap) (a : Addr) (xs : List Str) : Prop where
  ex : ∃ ob es ep tb, h.get? a = some ob ∧ ob.ExactSet ∧ ob.data = .set es ep tb ∧ (∀ e ∈ es.toList, Mem w e) ∧ (es.toList.map txOf).Perm xs ∧ xs.Nodup ∧ es.size < scanBound ∧ Walk' w tb es.size
/-- a text more -/
def more (x : Str) (xs : List Str) : List Str := if x ∈ xs then xs else x :: xs
section
variable {P : Program} {w : World} {h h' : Heap} {a : Addr} {xs : List Str}
theorem Mem.tx {e : Int × Value} (m : Mem w e) : ∃ t, e.2 = Value.str (txOf e) t ∧ e.1 = hashStr w (txOf e) := by
  obtain ⟨x, t, rfl⟩ := m.is
  exact ⟨t, rfl, rfl⟩
theorem str_is (x : Str) (t : Tok) : (strKind P w).is x (.str x t) = true := by show Value.isStrOf x (.str x t) = true; simp [Value.isStrOf]
theorem mem_elems {l : List (Int × Value)} (g : ∀ e ∈ l, Mem w e) : ElemsOf (strKind P w) l := fun e he => by
  obtain ⟨x, t, rfl⟩ := (g e he).is
  exact ⟨⟨x, str_is x t, rfl⟩, rfl⟩
theorem mem_is {e : Int × Value} (m : Mem w e) (x : Str) : (strKind P w).is x e.2 = true ↔ txOf e = x := by
  obtain ⟨y, t, rfl⟩ := m.is
  constructor
  · intro q
    exact (strKind P w).inj _ _ _ (str_is y t) q
  · rintro rfl
    exact str_is _ t
theorem Txs.keeps (R : Txs w h a xs) (k : ∀ o, h.get? a = some o → h'.get? a = some o) : Txs w h' a xs := by
  obtain ⟨ob, es, ep, tb, h1, r⟩ := R.ex
  exact ⟨ob, es, ep, tb, k ob h1, r⟩
theorem Txs.there (R : Txs w h a xs) : ∃ o, h.get? a = some o := by
  obtain ⟨ob, es, ep, tb, h1, r⟩ := R.ex
  exact ⟨ob, h1⟩
theorem Txs.type {s : Shared} (R : Txs w s.heap a xs) : s.TypeIs (.ref a) "set" := by
  obtain ⟨ob, es, ep, tb, h1, h2, _⟩ := R.ex
  exact ⟨ob, h1, h2.1⟩
theorem Txs.nodict (R : Txs w h a xs) : ∀ b, Value.ref a = .ref b → ∃ ob, h.get? b = some ob ∧ ob.dict = none := fun b e => by
  obtain ⟨ob, es, ep, tb, h1, h2, _⟩ := R.ex
  cases e
  exact ⟨ob, h1, h2.2.1⟩
theorem more_nodup {x : Str} (n : xs.Nodup) : (more x xs).Nodup := by
  unfold more
  split
  · exact n
  · exact List.nodup_cons.mpr ⟨‹_›, n⟩
theorem mem_more {x y : Str} : y ∈ more x xs ↔ y = x ∨ y ∈ xs := by
  unfold more
  split
  · exact ⟨.inr, fun z => z.elim (fun e => e ▸ ‹_›) id⟩
  · exact List.mem_cons
end
section
variable {P : Program} {w : World} {A : Around} {E : Value → Shared → Prop} {s : Shared} {a : Addr} {xs : List Str}
/-- what stands behind a member's laying -/
theorem lay_end {give : Bool → Sem Unit} (hgive : ∀ (b : Bool) (z : Shared) (R : Unit → Shared → Prop), R () z → wpAny (model P w) A (give b) R E z) {ob : Obj} {es fs : Array (Int × Value)} {ep : Nat} {tb tc : SetTable} {ys : List Str} (h1 : s.heap.get? a = some ob) (h2 : ob.ExactSet) (h3 : ob.data = .set es ep tb)
    (m : ∀ e ∈ fs.toList, Mem w e) (pm : (fs.toList.map txOf).Perm ys) (nd : ys.Nodup) (sm : fs.size < scanBound) (wk : Walk' w tc fs.size) {dm : Bool} {G : Option Bool → Shared → Prop}
    (k : ∀ hp, Heap.SameBut a s.heap hp → Txs w hp a ys → G (some true) { s with heap := hp }) :
    wpAny (model P w) A (do
        storeSet a fs tc
        if (!dm && tc.tooFull) = true then do
            give (relayAll tc fs (SetTable.grown fs.size)).2.2
            storeSet a (relayAll tc fs (SetTable.grown fs.size)).1 (relayAll tc fs (SetTable.grown fs.size)).2.1
            pure (some true)
          else pure (some true)) G E s := by
  refine wpAny_bind (wpAny_storeSet_of h1 h3 ?_ (fits_of_scanBound sm))
  have g1 := store_at (es' := fs) (t' := tc) h1 h3
  have u1 := Heap.SameBut.update s.heap a (Obj.putSet fs tc)
  split
  · have r1 := relayAll_perm tc fs (SetTable.grown fs.size)
    have r2 : Walk' w (relayAll tc fs (SetTable.grown fs.size)).2.1 (relayAll tc fs (SetTable.grown fs.size)).1.size := ⟨relayAll_fits tc fs (SetTable.grown fs.size), relayAll_ris tc fs (SetTable.grown fs.size), wk.led.imp id fun z => (relayAll_led tc fs (SetTable.grown fs.size)).trans z⟩
    generalize relayAll tc fs (SetTable.grown fs.size) = Y at r1 r2 ⊢
    obtain ⟨gs, td, gv⟩ := Y
    have z1 : gs.size = fs.size := by simpa using r1.length_eq
    have z2 : gs.size < scanBound := z1 ▸ sm
    refine wpAny_bind (hgive _ _ _ (wpAny_bind (wpAny_storeSet_of g1 rfl ?_ (fits_of_scanBound z2))))
    have g2 := store_at (es' := gs) (t' := td) g1 rfl
    exact wpAny_pure (k _ (u1.trans (Heap.SameBut.update _ a _)) ⟨_, gs, _, td, g2, h2, rfl, fun e he => m e (r1.mem_iff.mp he), (r1.map txOf).trans pm, nd, z2, r2⟩)
  · exact wpAny_pure (k _ u1 ⟨_, fs, _, tc, g1, h2, rfl, m, pm, nd, sm, wk⟩)
theorem add_laid {x : Str} {t : Tok} {Q : Bool → Shared → Prop} (R : Txs w s.heap a xs) (room : xs.length + 1 < scanBound) (k : ∀ hp b, Heap.SameBut a s.heap hp → Txs w hp a (more x xs) → Q b { s with heap := hp }) :
    wpAny (model P w) A (setAddHashed a (.str x t) ((strKind P w).hash x)) Q E s := by
  obtain ⟨ob, es, ep, tb, h1, h2, h3, m, pm, nd, sm, wk⟩ := R.ex
  have kx : (strKind P w).is x (.str x t) = true := str_is x t
  have sc : (Value.str x t).scannable = true := rfl
  have el : ElemsOf (strKind P w) es.toList := mem_elems m
  unfold setAddHashed setAddHashedIn
  refine wpAny_holding (wpAny_bind (wpAny_setState_of h1 h3 wk.fit ?_))
  dsimp only
  rw [byScan_of sc sm el]
  simp only [↓reduceIte]
  unfold setAddByScan
  refine wpAny_bind (wpAny_bind (wpAny_rule (wpAny_bind (wpAny_setScan_of kx h1 h3 wk.fit el ?_))))
  have inn : x ∈ xs ↔ ∃ e ∈ es.toList, (strKind P w).is x e.2 = true := by
    rw [← pm.mem_iff, List.mem_map]
    exact ⟨fun ⟨e, he, q⟩ => ⟨e, he, (mem_is (m e he) x).2 q⟩, fun ⟨e, he, q⟩ => ⟨e, he, (mem_is (m e he) x).1 q⟩⟩
  cases hf : List.findIdx? (fun e => (strKind P w).is x e.2) es.toList with
  | some j =>
    obtain ⟨hj, pj, _⟩ := List.findIdx?_eq_some_iff_getElem.mp hf
    have hx : x ∈ xs := inn.2 ⟨es.toList[j], List.getElem_mem hj, pj⟩
    refine wpAny_pure (wpAny_pure (k s.heap _ (Heap.SameBut.refl a s.heap) ?_))
    unfold more
    rw [if_pos hx]
    exact R
  | none =>
    have hx : x ∉ xs := fun z => by
      obtain ⟨e, he, q⟩ := inn.1 z
      have c := List.findIdx?_eq_none_iff.mp hf e he
      rw [q] at c
      cases c
    have gw : ∀ (b : Bool) {z : Shared} {G : Unit → Shared → Prop}, G () z → wpAny (model P w) A (match b with | true => rule "set.scan.the-table-gave-way" | false => pure ()) G E z :=
      fun b z G q => by cases b <;> first | exact wpAny_pure q | exact wpAny_rule q
    have l1 := layNew_perm tb es ((strKind P w).hash x) (.str x t)
    have l2 := layNew_fits tb es ((strKind P w).hash x) (.str x t)
    have l3 := layNew_ris tb es ((strKind P w).hash x) (.str x t) wk.ris
    have l4 := layNew_led tb es ((strKind P w).hash x) (.str x t)
    generalize layNew tb es ((strKind P w).hash x) (.str x t) = Y at l1 l2 l3 l4 ⊢
    obtain ⟨fs, tc, dm, gv⟩ := Y
    dsimp only at l1 l2 l3 l4 ⊢
    rw [Array.toList_push] at l1
    have pc := l1.trans (List.perm_append_singleton _ _)
    have m2 : ∀ e ∈ fs.toList, Mem w e := fun e he => by
      rcases List.mem_cons.mp (pc.mem_iff.mp he) with z | z
      · exact ⟨x, t, z⟩
      · exact m e z
    have p2 : (fs.toList.map txOf).Perm (more x xs) := by
      unfold more
      rw [if_neg hx]
      exact (pc.map txOf).trans (List.Perm.cons x pm)
    have z1 : fs.size = xs.length + 1 := by
      have := p2.length_eq
      unfold more at this
      rw [if_neg hx] at this
      simpa using this
    have z2 : fs.size < scanBound := z1 ▸ room
    have ld : w.params.followText "set-order" = true ∨ tc.led = true := wk.led.imp id fun z => l4.trans z
    refine wpAny_bind (gw _ ?_)
    split
    · refine wpAny_bind ?_
      rw [hashByValue_scannable 8 sc]
      refine wpAny_pure ?_
      refine lay_end ?_ h1 h2 h3 m2 p2 (more_nodup nd) z2 ?_ ?_
      · intro b z G q; cases b <;> first | exact wpAny_pure q | exact wpAny_rule q
      · split
        · exact ⟨by first | exact SetTable.fits_plain_off l2 | exact l2, l3, ld⟩
        · exact ⟨by first | exact l2 | exact SetTable.fits_plain_off l2, l3, ld⟩
      · intro hp sb r; exact wpAny_pure (k hp _ sb r)
    · refine wpAny_bind (wpAny_pure ?_)
      simp only [↓reduceIte]
      refine lay_end ?_ h1 h2 h3 m2 p2 (more_nodup nd) z2 ⟨l2, l3, ld⟩ ?_
      · intro b z G q; cases b <;> first | exact wpAny_pure q | exact wpAny_rule q
      · intro hp sb r; exact wpAny_pure (k hp _ sb r)
end
end NvSet

set_option maxRecDepth 100000
set_option maxHeartbeats 4000000
namespace NvSet
open PySem PySem.Spec PyProof.Rows L2
/-- the tracked set of texts -/
def TxO (w : World) (a : Addr) (xs : List Str) : HO := .ext fun h => Txs w h a xs
/-- a set's object when it is new -/
def newS (w : World) : Obj := { cls := .type "set", dict := none, data := .set #[] 0 (.fresh 0 0 (!w.params.followText "set-order")) }
theorem txs_new {w : World} {h : Heap} {a : Addr} (e : h.get? a = some (newS w)) : Txs w h a [] :=
  ⟨_, #[], 0, _, e, ⟨rfl, rfl, rfl⟩, rfl, (fun x hx => by simp at hx), List.Perm.nil, List.nodup_nil, by decide, ⟨rfl, List.Pairwise.nil, by
    show _ ∨ (!w.params.followText "set-order") = true
    cases w.params.followText "set-order"
    · exact .inr rfl
    · exact .inl rfl⟩⟩
theorem txo_ok {P : Program} {w : World} {H : Hp} {h : Heap} {a : Addr} {xs : List Str} (R : Txs w h a xs) : ObjOk P w H h a (TxO w a xs) := ⟨R, R.there, fun _ _ p k => p.keeps k⟩
/-- so many texts, from the first on -/
def gather : List Str → List Str
  | [] => []
  | x :: r => more x (gather r)
theorem mem_gather {y : Str} : ∀ {xs : List Str}, y ∈ gather xs ↔ y ∈ xs
  | [] => Iff.rfl
  | x :: r => by
    show y ∈ more x (gather r) ↔ _
    rw [mem_more, mem_gather, List.mem_cons]
theorem gather_len : ∀ xs : List Str, (gather xs).length ≤ xs.length
  | [] => Nat.le_refl _
  | x :: r => by
    have := gather_len r
    show (more x (gather r)).length ≤ r.length + 1
    unfold more
    split
    · omega
    · rw [List.length_cons]
      omega
section
variable {P : Program} {w : World} {A : Around} {E : Value → Shared → Prop} {s : Shared} {a : Addr} {xs : List Str}
/-- found.add(x) -/
theorem add_call {x : Str} {t : Tok} {Q : Value → Shared → Prop} (R : Txs w s.heap a xs) (room : xs.length + 1 < scanBound)
    (k : ∀ hp, Heap.SameBut a s.heap hp → Txs w hp a (more x xs) → Q .none { s with heap := hp, toks := s.toks + 1 }) :
    wpAny (model P w) A (call (.builtin "set.add") [.ref a, .str x t]) Q E s := by
  refine wpAny_call_entry F.slot_set_add R.type F.entry_set_add ?_ (F.args_set_add_2 _ _)
  unfold Builtin.«set.add» Builtin.Frozenset.oneOther
  simp only [List.isEmpty_nil, bind_assoc]
  unfold Builtin.Frozenset.addrOf setAdd
  refine wpAny_bind (wpAny_pure ?_)
  try dsimp only
  refine wpAny_bind (wpAny_pure ?_)
  try dsimp only
  refine wpAny_bind (wpAny_holding (wpAny_bind ((strKind P w).pyHash (str_is x t) ?_)))
  exact add_laid (s := { s with toks := s.toks + 1 }) R room fun hp b sb r => (show wpAny _ _ (ret Value.none) _ _ _ from wpAny_pure ⟨_, rfl, k hp sb r⟩)
/-- the loop behind set(xs): n texts, of which i are in -/
theorem update_loop {I : Addr} {fp wr : List Addr} {G : Array GenState → Array GenState → Prop} {n : Nat} {Pv : Nat → Value → Prop} {St : Nat → Shared → Prop} {R : Result → Shared → Prop} (W : WalksS P w A.in1 I fp wr G n Pv St) (S : Addr) (hSf : S ∉ fp) (ks : List Str) (hn : n = ks.length)
    (few : ks.length < 1000) (hval : ∀ i v, Pv i v → ∃ x t, ks[i]? = some x ∧ v = .str x t) (h0 : Heap) (free : ∀ b ∈ S :: wr, h0.get? b = none) :
    ∀ (j i : Nat) (s : Shared) (ys : List Str), i + j = n → St i s → (∀ b o, h0.get? b = some o → s.heap.get? b = some o) → Txs w s.heap S ys → ys.length ≤ i → (∀ y, y ∈ ys ↔ y ∈ ks.take i) →
      (∀ z ys, Moved (S :: wr) G s z → Txs w z.heap S ys → (∀ y, y ∈ ys ↔ y ∈ ks) → (∀ b o, h0.get? b = some o → z.heap.get? b = some o) → R (.ok (.ret .none)) z) →
      codeAny (model P w) A (.builtin "set.update.loop" ⟨[.ref S, .ref I], []⟩) R s := by
  have sw : S ∉ wr := fun z => hSf (W.sub _ z)
  have up : ∀ b ∈ wr, b ∈ S :: wr := fun b hb => List.mem_cons_of_mem _ hb
  have stay : ∀ {u v : Shared}, Moved wr G u v → (∀ b o, h0.get? b = some o → u.heap.get? b = some o) → ∀ b o, h0.get? b = some o → v.heap.get? b = some o := fun mv kp b o e =>
    mv.heap b o (fun z => by rw [free b (up b z)] at e; cases e) (kp b o e)
  intro j
  induction j with
  | zero =>
    intro i s ys hij st kp T _ hy hR
    obtain rfl : i = n := by omega
    refine codeAny_builtin F.entry_set_update_loop ?_
    rw [Around.under_plainId F.plain_set_update_loop _]
    show wpAny _ A.in1 (pyNext (.ref I) >>= _) _ _ s
    refine wpAny_bind (W.done s _ _ st fun z mv => ?_)
    show wpAny _ A.in1 (ret Value.none) _ _ z
    refine wpAny_pure (hR z ys (mv.mono up) (T.keeps fun o e => mv.heap S o sw e) (fun y => ?_) (stay mv kp))
    rw [hy y, hn, List.take_length]
  | succ j ih =>
    intro i s ys hij st kp T hl hy hR
    refine codeAny_builtin F.entry_set_update_loop ?_
    rw [Around.under_plainId F.plain_set_update_loop _]
    show wpAny _ A.in1 (pyNext (.ref I) >>= _) _ _ s
    refine wpAny_bind (W.item i s _ _ (by omega) st fun v z hv st2 mv => ?_)
    obtain ⟨x, t, hx, rfl⟩ := hval i v hv
    show wpAny _ A.in1 (holding [Value.str x t] (setAdd S (.str x t)) >>= _) _ _ z
    refine wpAny_bind (wpAny_holding ?_)
    unfold setAdd
    refine wpAny_holding (wpAny_bind ((strKind P w).pyHash (str_is x t) ?_))
    have T2 : Txs w z.heap S ys := T.keeps fun o e => mv.heap S o sw e
    refine add_laid (s := { z with toks := z.toks + 1 }) T2 (by unfold scanBound; omega) fun hp b sb T3 => ?_
    refine wpAny_pure ⟨plainId_quiet F.plain_set_update_loop _, ih (i + 1) _ (more x ys) (by omega) (W.frame _ z _ _ st2 (Nat.le_add_right _ _) fun b hb o e => ?_) (fun b o e => ?_) T3 ?_ (fun y => ?_) fun z2 ys2 mv2 T4 hy2 kp2 => ?_⟩
    · exact (sb.2 b (fun q : b = S => hSf (q ▸ hb))).trans e
    · exact (sb.2 b (fun q : b = S => by rw [q, free S List.mem_cons_self] at e; cases e)).trans (stay mv kp b o e)
    · unfold more
      split
      · omega
      · rw [List.length_cons]
        omega
    · rw [mem_more, hy y, List.take_add_one, hx]
      show _ ↔ y ∈ List.take i ks ++ [x]
      rw [List.mem_append, List.mem_singleton]
      exact Or.comm
    · refine hR z2 ys2 (Moved.trans W.gtrans ((mv.mono up).then_heap (Nat.le_add_right _ _) fun b o hb e => ?_) mv2) T4 hy2 kp2
      exact (sb.2 b (fun q : b = S => hb (q ▸ List.mem_cons_self))).trans e
/-- sorted(set) -/
theorem sorted_txs {Q : Value → Shared → Prop} (R : Txs w s.heap a xs) (hh : A.handled = none) (few : xs.length < 64)
    (k : ∀ z p (out : Array Value) (c : Nat) (ys : List Str), (∀ b o, s.heap.get? b = some o → z.heap.get? b = some o) → z.gens = s.gens → z.os = s.os → s.heap.objs.size ≤ p → z.heap.get? p = some (seqObj "list" out c) →
      StrsAre out.toList ys → ys.Perm xs → sortedS ys = true → Q (.ref p) z) : wpAny (model P w) A (call (.builtin "sorted") [.ref a]) Q E s := by
  obtain ⟨ob, es, ep, tb, h1, h2, h3, m, pm, nd, sm, wk⟩ := R.ex
  refine Calls.call_function_entry kind_sorted plain_sorted entry_sorted (args_sorted1 _) ?_
  unfold Builtin.«sorted»
  refine wpAny_bind (m := checkCount "sorted" 1 1 _) (wpAny_pure (wpAny_bind (collect_set (A := A.in1) hh ⟨ob, h1, h2.1, h3⟩ wk.fit sm wk.ris wk.led fun z vs k1 hz g1 o1 pv => ?_)))
  have allS : ∀ l : List Value, (∀ v ∈ l, ∃ e, Mem w e ∧ v = e.2) → ∃ ys, StrsAre l ys ∧ ∀ f : Value → Str, (∀ e, Mem w e → f e.2 = txOf e) → ys = l.map f := by
    intro l
    induction l with
    | nil => intro _; exact ⟨[], .nil, fun _ _ => rfl⟩
    | cons v l ih =>
      intro hv
      obtain ⟨ys, h1, h2⟩ := ih fun u hu => hv u (List.mem_cons_of_mem _ hu)
      obtain ⟨e, me, rfl⟩ := hv v List.mem_cons_self
      obtain ⟨t, e1, _⟩ := me.tx
      refine ⟨txOf e :: ys, ?_, fun f hf => ?_⟩
      · rw [e1]
        exact .cons _ _ h1
      · rw [List.map_cons, hf e me, ← h2 f hf]
  obtain ⟨ys, sy, fy⟩ := allS vs fun v hv => by
    obtain ⟨e, he, q⟩ := List.mem_map.mp (pv.mem_iff.mp hv)
    exact ⟨e, m e he, q.symm⟩
  have ey := fy (fun v => match v with | .str x _ => x | _ => "") (fun e me => rfl)
  have py : ys.Perm xs := by
    rw [ey]
    refine (pv.map _).trans ?_
    rw [List.map_map]
    exact pm
  have lv : vs.length = xs.length := by rw [← py.length_eq, ey, List.length_map]
  refine wpAny_bind (wpAny_newList ?_ (by rw [lv, sizeLine_eq]; omega))
  have hoL : (z.heap.push (seqObj "list" vs.toArray 0)).get? z.heap.objs.size = some (seqObj "list" vs.toArray 0) := Heap.get?_push_size _ rfl
  refine wpAny_bind (wpAny_holding (wpAny_call_entry slot_list_sort ⟨_, hoL, rfl⟩ entry_list_sort (list_sort_treeK strKind_oneLt hoL sy.keysOf (fun v₁ v₂ rest e => keyKind_strs (by rw [← e]; exact sy)) (by rw [lv]; exact few) fun st a1 a2 => ⟨_, rfl, ?_⟩) (args_list_sort _)))
  obtain ⟨ys', b1, b2, b3⟩ := sorted_out_str sy a1 a2
  obtain ⟨c, hc⟩ := sortedHeap_at (vs := vs) (out := (arrOf st).map (·.2)) hoL
  refine wpAny_pure ⟨_, rfl, k _ z.heap.objs.size _ c ys' (fun b u e => ?_) g1 o1 hz hc b1 (b2.trans py) b3⟩
  have q := k1 b u e
  have hlt := Heap.lt_size q
  show (sortedHeap (z.heap.push (seqObj "list" vs.toArray 0)) z.heap.objs.size vs _).get? b = some u
  exact (sortedHeap_old (Nat.ne_of_lt hlt) (by rw [size_push']; exact Nat.lt_succ_of_lt hlt)).trans (Heap.get?_push_of_some _ q)
end
end NvSet

set_option maxRecDepth 100000
set_option maxHeartbeats 8000000
namespace NvSet
open PySem PySem.Spec PyProof.Rows L2
section
variable {P : Program} {w : World} {A : Around} {E : Value → Shared → Prop} {s : Shared}
/-- set(xs) of a list of texts -/
theorem set_call {l : Addr} {items : Array Value} (ks : List Str) {Q : Value → Shared → Prop} (hh : A.handled = none) (hl : s.heap.IsList l items) (hlen : items.size = ks.length) (hval : ∀ (i : Nat) (v : Value), items[i]? = some v → ∃ x t, ks[i]? = some x ∧ v = Value.str x t) (few : ks.length < 1000)
    (k : ∀ (hp : Heap) (tk : Nat) ys, Txs w hp s.heap.objs.size ys → (∀ y, y ∈ ys ↔ y ∈ ks) → (∀ b o, s.heap.get? b = some o → hp.get? b = some o) → Q (.ref s.heap.objs.size) { s with heap := hp, toks := tk }) :
    wpAny (model P w) A (call (.type "set") [.ref l]) Q E s := by
  obtain ⟨c, tl, hmro⟩ := F.called_set.mro
  have hmade := F.called_set.made
  have hsub := F.called_set.sub
  refine wpAny_call (codeAny_of_tree ?_)
  show wpAny _ _ (callAny (.type "set") _) _ _ _
  refine wpAny_pure ⟨Code.quiet_builtin _ (by decide +kernel), codeAny_builtin F.entry_type_call ?_⟩
  rw [Around.under_plain (weight_type_call_type "set" [.ref l] []) rfl]
  have h1 := F.called_set.notType
  have h2 := F.called_set.canCreate
  have hct := F.typeCall_set_1 (.ref l)
  repeat (any_goals (first | assumption | wp_step))
  refine codeAny_mono (code_set_led1 (.ref l) (E := E) (Q₁ := fun obj z => obj = .ref s.heap.objs.size ∧ z = { s with heap := s.heap.push (newS w) }) ⟨rfl, rfl⟩) fun r z hr => ?_
  cases r with
  | error e => exact hr
  | ok fl =>
    cases fl with
    | ret obj =>
      obtain ⟨rfl, rfl⟩ := hr
      have at0 : (s.heap.push (newS w)).get? s.heap.objs.size = some (newS w) := Heap.get?_push_size _ rfl
      have ty0 : Shared.TypeIs { s with heap := s.heap.push (newS w) } (.ref s.heap.objs.size) "set" := ⟨_, at0, rfl⟩
      have hli := F.called_set.init.lookup
      have hbi := F.called_set.init.bind (.ref s.heap.objs.size)
      repeat (any_goals (first | assumption | wp_step))
      refine codeAny_mono (codeAny_call_builtin (R := wants (fun r z => r = .none ∧ ∃ hp tk ys, z = { s with heap := hp, toks := tk } ∧ Txs w hp s.heap.objs.size ys ∧ (∀ y, y ∈ ys ↔ y ∈ ks) ∧ ∀ b o, s.heap.get? b = some o → hp.get? b = some o) E)
        F.called_set.init.plain F.entry_set_init (check_set_init_1 ty0 ?_)) fun r z hr => ?_
      · obtain ⟨ol, hol, hcl, nl, hdl⟩ := hl
        obtain ⟨ocls, odict, odata, oslots⟩ := ol
        simp only at hcl hdl
        subst hcl; subst hdl
        have hol' : (s.heap.push (newS w)).get? l = some { cls := .type "list", dict := odict, data := .seq items nl, slots := oslots } := Heap.get?_push_of_some _ hol
        have hsls := F.sub_list_set
        have hslf := F.sub_list_frozenset
        have hne : (Value.type "list" == Value.type "dict") = false := by decide
        have hl1 : (s.heap.push (newS w)).IsList l items := ⟨_, hol', rfl, nl, rfl⟩
        unfold Builtin.«set.__init__» noKeywords Builtin.Frozenset.updateFrom
        generalize hPI : pyIter = PI
        wp_walk
        subst hPI
        refine wpAny_pyIter_list hl1 (wpAny_bind (wpAny_runValue ?_))
        have lS : l < s.heap.objs.size := Heap.lt_size hol
        have sz : (s.heap.push (newS w)).objs.size = s.heap.objs.size + 1 := Heap.size_push ..
        have nI : l ≠ (s.heap.push (newS w)).objs.size := by rw [sz]; exact Nat.ne_of_lt (Nat.lt_succ_of_lt lS)
        have nS : s.heap.objs.size ∉ [(s.heap.push (newS w)).objs.size, l] := by
          rw [sz]
          intro z
          rcases List.mem_cons.mp z with z | z
          · exact absurd z (Nat.ne_of_lt (Nat.lt_succ_self _))
          · exact absurd (List.mem_singleton.mp z) (Nat.ne_of_gt lS)
        have none_of : ∀ b, s.heap.objs.size ≤ b → s.heap.get? b = none := fun b hb => by
          cases q : s.heap.get? b with
          | none => rfl
          | some o => exact absurd (Nat.lt_of_lt_of_le (Heap.lt_size q) hb) (Nat.lt_irrefl _)
        have hh3 : A.in1.in1.in1.handled = none := by simp [hh]
        refine update_loop ((Walks.list hh3 _ l nI items).toS) s.heap.objs.size nS ks hlen few hval s.heap (fun b hb => ?_) items.size 0 _ [] (by omega) ⟨⟨_, Heap.get?_push_size _ rfl, rfl, rfl⟩, (hl1.push _)⟩ (fun b o e => Heap.get?_push_of_some _ (Heap.get?_push_of_some _ e))
          (txs_new (Heap.get?_push_of_some _ at0)) (Nat.zero_le _) (fun y => by simp) ?_
        · rcases List.mem_cons.mp hb with z | z
          · rw [z]
            exact none_of _ (Nat.le_refl _)
          · rw [List.mem_singleton.mp z, sz]
            exact none_of _ (Nat.le_succ _)
        · intro z ys mv T hy kp
          obtain ⟨h', g2, d', tk', os'⟩ := z
          have eg : g2 = s.gens := mv.gens
          have ed : d' = s.drawn := mv.drawn
          have eo : os' = s.os := mv.os
          subst eg; subst ed; subst eo
          show wpAny _ _ _ _ _ _
          refine wpAny_pure ?_
          show wpAny _ _ (ret Value.none) _ _ _
          exact wpAny_pure ⟨rfl, h', tk', ys, rfl, T, hy, kp⟩
      · cases r with
        | error e => exact hr
        | ok f2 =>
          cases f2 with
          | ret r =>
            obtain ⟨rfl, hp, tk, ys, rfl, T, hy, kp⟩ := hr
            repeat (any_goals (first | assumption | wp_step))
            exact k _ _ _ T hy kp
          | _ => exact hr.elim
    | _ => exact hr.elim
end
section
variable {X : Cx}
/-- set(xs), a list of texts -/
def rSetTx (K : PySem.W.Frag) (w : World) : List V → Hp → VK → Prop := fun vs H Q => ∃ (l : Addr) (ks : List Str), vs = [V.ref l] ∧ SqL K H l (ks.map V.str) ∧ ks.length < 1000 ∧ ∀ a ys, H a = none → ys.Nodup → (∀ y, y ∈ ys ↔ y ∈ ks) → Q (.ref a) (upd H a (TxO w a ys))
theorem str_at : ∀ {ks : List Str} {its : List Value}, Vals (ks.map V.str) its → ∀ (i : Nat) (v : Value), its[i]? = some v → ∃ x t, ks[i]? = some x ∧ v = .str x t
  | [], _, .nil, i, v, h => by cases h
  | x :: ks, _, .cons r rr, 0, v, h => by
    obtain ⟨t, e⟩ := (show RelV (V.str x) _ from r)
    have := Option.some.inj h
    exact ⟨x, t, rfl, this ▸ e⟩
  | x :: ks, _, .cons r rr, i + 1, v, h => str_at rr i v h
theorem cr_setTx (hc : X.calm = true) : CallR X (.type "set") (rSetTx X.K X.w) := by
  intro pins s σ H xs us Q I r h
  obtain ⟨l, ks, rfl, hl, few, q⟩ := h
  rw [Vals.ref1 r]
  obtain ⟨its, rv, pl, hz⟩ := I.list hl
  have nw : H s.heap.objs.size = none := I.hok.fresh (Nat.le_refl _)
  have hlen : its.toArray.size = ks.length := by
    have := rv.length
    rw [List.length_map] at this
    simpa using this.symm
  refine set_call (P := X.prog) (w := X.w) ks (I.ok.hd hc) pl.isList hlen (fun i v hv => str_at rv i v (by simpa using hv)) few fun hp tk ys T hy kp => ?_
  obtain ⟨_, _, _, _, _, _, _, _, _, nd, _⟩ := T.ex
  exact ⟨.ref s.heap.objs.size, upd H s.heap.objs.size (TxO X.w s.heap.objs.size ys), I.laid (t' := tk) kp (Nat.le_refl _) (txo_ok T), rfl, q _ ys nw nd hy⟩
/-- sorted(set) of texts -/
def rSortedTx (w : World) : List V → Hp → VK → Prop := fun vs H Q => ∃ (a : Addr) (xs : List Str), vs = [V.ref a] ∧ H a = some (TxO w a xs) ∧ xs.length < 64 ∧
  ∀ (ys : List Str) (p : Addr), ys.Perm xs → xs.Nodup → sortedS ys = true → H p = none → Q (.ref p) (upd H p (.lst (ys.map V.str)))
theorem cr_sortedTx (hc : X.calm = true) : CallR X (.builtin "sorted") (rSortedTx X.w) := by
  intro pins s σ H vs us Q I r h
  obtain ⟨a, xs, rfl, ha, few, q⟩ := h
  have R : Txs X.w s.heap a xs := (I.hok a _ ha).1
  rw [Vals.ref1 r]
  refine sorted_txs R (I.ok.hd hc) few fun z p out c ys kp g o hp hg so pm srt => ?_
  have hlen : (ys.map V.str).length ≤ sizeLine := by rw [List.length_map, pm.length_eq, sizeLine_eq]; omega
  have hn : H p = none := I.hok.fresh hp
  have J : Inv X pins σ (upd H p (.lst (ys.map V.str))) { s with heap := z.heap, gens := z.gens, drawn := z.drawn, toks := z.toks } :=
    I.call (ch := []) (Un.laid kp hp hn) (I.hok.laid kp hp ⟨hlen, out.toList, c, vals_of_strs so, hg⟩) (by rw [g]; exact I.bare) (fun _ z => nomatch z)
  have e : z = { s with heap := z.heap, gens := z.gens, drawn := z.drawn, toks := z.toks } := by
    cases z
    cases s
    cases o
    rfl
  obtain ⟨_, _, _, _, _, _, _, _, _, nd, _⟩ := R.ex
  rw [e]
  exact ⟨.ref p, _, J, rfl, q ys p pm nd srt hn⟩
/-- an added text -/
theorem add_ok {pins : List (Addr × Obj)} {σ : L2.St} {H : Hp} {s : Shared} {E : Value → Shared → Prop} {D : Addr} {xs : List Str} {y : Str} {u : Value} {Q : Value → Shared → Prop} (I : Inv X pins σ H s) (ry : RelV (.str y) u) (hD : H D = some (TxO X.w D xs)) (room : xs.length + 1 < scanBound)
    (k : ∀ z, Inv X pins σ (upd H D (TxO X.w D (more y xs))) z → Q .none z) : wpAny (model X.prog X.w) X.A (call (.builtin "set.add") [.ref D, u]) Q E s := by
  obtain ⟨t, rfl⟩ := ry
  exact add_call (I.hok D _ hD).1 room fun hp sb T => k _ (I.write (e := D) (t' := s.toks + 1) (by rw [hD]; trivial) (.inl rfl) (fun b v hb hv => (sb.2 b hb).trans hv) T.there (txo_ok T))
end
end NvSet

set_option maxRecDepth 100000
set_option maxHeartbeats 8000000
namespace NvSet
open PySem PySem.Spec PyProof.Rows L2 PpSet
section
variable {X : Cx}
/-- {elt for tg in iter if ..}, texts: D the set that is made -/
def tScT (w : World) (wi : TI) (g : TG) (tt : TT) (te : TE) (vs : List Nat) : TE := fun σ H Q => wi σ H fun J H1 => ∀ D, H1 D = none → ∃ W : Nat → Nat → Hp → Prop, (∃ m, W 0 m (upd H1 D (TxO w D []))) ∧ ∀ i m H, W i m H →
  (J.stop i H ∧ Q (.ref D) H) ∨ (J.go i H ∧ ∃ Nx : Hp → Prop, (∀ H', Nx H' → ∃ m', m' < m ∧ W (i + 1) m' H') ∧ ∀ x H', J.yld i H x H' → g x (wipe σ vs) H' fun τ H2 => wipe τ vs = wipe σ vs ∧ tt τ H2 fun b H3 =>
    if b = true then te τ H3 fun y H4 => ∃ (c : Str) (xs : List Str), y = .str c ∧ H4 D = some (TxO w D xs) ∧ xs.length + 1 < scanBound ∧ Nx (upd H4 D (TxO w D (more c xs))) else Nx H3)
/-- the blocks of a comprehension, for every start -/
abbrev InBlk (X : Cx) (sc : Scope) (F : Cx → Prop) : Prop := ∀ (s : Shared) (H : Hp) (C : Addr) (cl : List (PySem.Str × Addr)) (fp : List Addr), F (X.blk s H sc (compEnvC sc cl C X.env) fp)
theorem pe_scT {elt tg iter : Expr} {ifs : List Expr} {sc : Scope} {own : List (PySem.Str × Nat)} {pos : Pos} {wi : TI} {g : TG} {tt : TT} {te : TE} (hc : X.calm = true) (hN : X.N.Nodup) (hi : PI X tg iter wi) (ok : BlkOk X.N X.env.scope sc own)
    (hg : InBlk X sc fun Y => PG Y tg g) (ht : InBlk X sc fun Y => PTs Y ifs tt) (he : InBlk X sc fun Y => PE Y elt te) (hs : ∀ x, foldedSetIterable iter X.env x = pure x := by intro _; rfl) :
    PE X (.SetComp elt [⟨tg, iter, ifs, 0⟩] sc pos) (tScT X.w wi g tt te (own.map (·.2))) := by
  refine ⟨fun pins s σ H Q I h => ?_⟩
  rw [eval_SetComp]
  have free : ∀ y ∈ sc.names, y.2 = .free → ∃ c, X.env.cells.lookup y.1 = some c := fun y hy e => (ok.free y hy e).elim (fun z => I.ok.has _ (.inl z)) fun z => I.ok.has _ (.inr z)
  refine wpAny_comprehension_free (use := none) rfl hs (closure_ok free) ok.kind (fun y hy e => by rw [ok.uniq y hy, e]) (thn (hi.run pins s σ H _ I h) fun xv s1 hx => thn hx fun itv s2 hj => ?_)
  obtain ⟨it, fp, tn, J, H2, rfl, I2, T, st2, f2, q⟩ := hj
  refine newSet_ok (newEnv_comp ?_)
  generalize eD : s2.heap.objs.size = D
  have nD : H2 D = none := I2.hok.fresh (Nat.le_of_eq eD)
  obtain ⟨W, ⟨m0, w0⟩, turn⟩ := q D nD
  generalize e3 : ({ s2 with heap := s2.heap.push { cls := .type "set", dict := none, data := .set #[] 0 (.fresh 0 0 (!X.w.params.followText "set-order")) } } : Shared) = s3
  have p3 : s3.heap = s2.heap.push (newS X.w) := by rw [← e3]; rfl
  generalize eH : upd H2 D (TxO X.w D []) = H3 at w0
  have I3 : Inv X pins σ H3 s3 := by
    rw [← e3, ← eH]
    refine I2.laid (t' := s2.toks) (fun b o e => Heap.get?_push_of_some _ e) (Nat.le_of_eq eD) (txo_ok (txs_new ?_))
    rw [← eD]
    exact Heap.get?_push_size _ rfl
  have below : ∀ b ∈ fp, b < s2.heap.objs.size := fun b hb => by
    obtain ⟨o, e, _⟩ := T.obj _ _ st2 b hb
    exact Heap.lt_size e
  have f3 : ∀ b ∈ fp, FpOk X pins H3 b ∧ b < s3.heap.objs.size := fun b hb => by
    have lt := below b hb
    refine ⟨⟨?_, (f2 b hb).2⟩, by rw [p3, Heap.size_push]; exact Nat.lt_succ_of_lt lt⟩
    rw [← eH, upd_ne (by rw [← eD]; exact Nat.ne_of_lt lt)]
    exact (f2 b hb).1
  have st3 : tn 0 s3.heap := T.keep _ _ _ st2 fun b _ o e => by rw [p3]; exact Heap.get?_push_of_some _ e
  have I4 := block_start I3 ok hN f3
  have pg := hg s3 H3 s3.heap.objs.size (cellsFrom (s3.heap.objs.size + 1) sc.names (cloFrom X.env.cells sc.names [])) fp
  have pt := ht s3 H3 s3.heap.objs.size (cellsFrom (s3.heap.objs.size + 1) sc.names (cloFrom X.env.cells sc.names [])) fp
  have pe := he s3 H3 s3.heap.objs.size (cellsFrom (s3.heap.objs.size + 1) sc.names (cloFrom X.env.cells sc.names [])) fp
  show codeAny _ _ (.compStart (.SetComp elt [⟨tg, iter, ifs, 0⟩] sc pos) 0 (.ref it) (.ref D) (compEnvC sc (cellsFrom (s3.heap.objs.size + 1) sc.names (cloFrom X.env.cells sc.names [])) s3.heap.objs.size X.env)) (compPost (model X.prog X.w) X.A X.xe none _ (.ref D) s3.heap.objs.size) { s3 with heap := pushCells (s3.heap.push { cls := .type "dict", data := .dict #[] }) sc.names }
  generalize ec : compEnvC sc (cellsFrom (s3.heap.objs.size + 1) sc.names (cloFrom X.env.cells sc.names [])) s3.heap.objs.size X.env = ce at I4 pg pt pe ⊢
  have lc : ce.locals = s3.heap.objs.size := by subst ec; rfl
  generalize e4 : ({ s3 with heap := pushCells (s3.heap.push { cls := .type "dict", data := .dict #[] }) sc.names } : Shared) = s4 at I4 ⊢
  have st4 : tn 0 s4.heap := T.keep _ _ _ st3 fun b _ o e => by rw [← e4]; exact pushCells_keeps _ _ _ _ (Heap.get?_push_of_some _ e)
  have foot : ∀ {τ : L2.St} {G : Hp} {z : Shared}, Inv (X.blk s3 H3 sc ce fp) [] τ G z → (∀ b ∈ fp, G b = none) → ∀ b ∈ fp, FpOk (X.blk s3 H3 sc ce fp) [] G b := fun {τ G z} J' hn b hb =>
    ⟨hn b hb, (J'.ok.exf b hb).1, J'.ok.exfs b hb, .inl hb, fun x c e => (J'.ok.exf b hb).2 x c e, fun p hp => absurd (show p ∈ ([] : List (Addr × Obj)) ++ [] from hp) (by simp)⟩
  refine codeAny_compStart_set ?lp (T.self X.A 0 _ _ _ st4 ?lp)
  refine compLoopS_any (fun n z => ∃ i G, Inv (X.blk s3 H3 sc ce fp) [] (wipe σ (own.map (·.2))) G z ∧ tn i z.heap ∧ (∀ b ∈ fp, G b = none) ∧ W i n G) ?_ m0 ⟨0, H3, I4, st4, fun b hb => (f3 b hb).1.1, w0⟩
  rintro n s5 ⟨i, H5, I5, st5, n5, w5⟩
  rcases turn i n H5 w5 with ⟨stop, qq⟩ | ⟨go, Nx, hNx, step⟩
  · refine thnF (T.done (X.blk s3 H3 sc ce fp) rfl rfl rfl hc i [] s5 _ H5 (fun _ _ => False) I5 (foot I5 n5) st5 stop) fun r s6 ⟨hr, I6⟩ => ?_
    subst hr
    have I7 : Inv X pins σ H5 s6 := I3.call' (ch := fp) I6.os I6.base I6.hok I6.bare fun b hb => ⟨(f3 b hb).1.2.2.2.1, (f3 b hb).1.2.1, (f3 b hb).1.2.2.2.2.1, (f3 b hb).1.2.2.2.2.2⟩
    have nC : H5 s3.heap.objs.size = none := lc ▸ (show H5 ce.locals = none from I6.free)
    obtain ⟨m, hn, _⟩ := I6.loc
    have hn : s6.heap.Ns s3.heap.objs.size m := lc ▸ (show s6.heap.Ns ce.locals m from hn)
    refine ⟨m, hn, fun hp sb => ?_⟩
    obtain ⟨k0, k1, k2, k3, k4, k5⟩ := I3.fpOk (Nat.le_refl _) nC
    exact ⟨.ref D, H5, I7.turned (t' := s6.toks) (fun b o hb e => (sb.2 b hb).trans e) k0 k1 k3 k4 k5, rfl, qq⟩
  · refine thnF (T.item (X.blk s3 H3 sc ce fp) rfl rfl rfl hc i [] s5 _ H5 (fun _ _ => False) I5 (foot I5 n5) st5 go) fun r s6 ⟨u, hr, h6⟩ => ?_
    subst hr
    refine thnF h6 fun _ s7 ⟨x, H7, I7, r7, y7, st7, n7⟩ => ?_
    refine thnF (pg.run _ s7 _ H7 x u _ (I7.pinned (foot I7 n7) (T.obj _ _ st7)) r7 (step x H7 y7)) fun _ s8 ⟨τ, H8, I8, hw, q8⟩ => ?_
    refine thnF (pt.run _ s8 τ H8 _ I8 q8) fun b s9 ⟨H9, I9, q9⟩ => ?_
    have fin : ∀ {z : Shared} {G : Hp}, Inv (X.blk s3 H3 sc ce fp) ([] ++ pinsAt fp s7.heap) τ G z → Nx G → ∃ m, m < n ∧ ∃ i G, Inv (X.blk s3 H3 sc ce fp) [] (wipe σ (own.map (·.2))) G z ∧ tn i z.heap ∧ (∀ b ∈ fp, G b = none) ∧ W i m G := fun {z G} J' nx => by
      obtain ⟨m', hm, w'⟩ := hNx G nx
      have pin : ∀ b ∈ fp, ∀ o, s7.heap.get? b = some o → z.heap.get? b = some o ∧ G b = none := fun b hb o e =>
        let y := J'.pin (b, o) (List.mem_append_right _ (List.mem_append_right _ (mem_pinsAt hb e)))
        ⟨y.1, y.2.1⟩
      refine ⟨m', hm, i + 1, G, (J'.unpinned (pins := [])).weak (by rw [← hw, wipe_length]) (fun j v e => ?_), T.keep _ _ _ st7 fun b hb o e => (pin b hb o e).1, fun b hb => ?_, w'⟩
      · rw [← hw] at e
        exact (wipe_some e).1
      · obtain ⟨o, e, _⟩ := T.obj _ _ st7 b hb
        exact (pin b hb o e).2
    cases b with
    | false =>
      simp only [Bool.false_eq_true, if_false] at q9 ⊢
      exact fin I9 q9
    | true =>
      simp only [if_true] at q9 ⊢
      refine thnF (pe.run _ s9 τ H9 _ I9 q9) fun z s10 ⟨yv, H10, I10, r10, c, xs, ey, hD, room, nx⟩ => ?_
      subst ey
      exact add_ok (X := X.blk s3 H3 sc ce fp) I10 r10 hD room fun s11 I11 => fin I11 nx
end
end NvSet

set_option maxRecDepth 100000
namespace NvSet
open PySem PySem.Spec PyProof.Rows L2
theorem str_of_list {a b : Str} (h : a.cps.toList = b.cps.toList) : a = b := by
  cases a; cases b
  exact congrArg Str.mk (Array.toList_inj.mp h)
/-- no earlier than -/
def Le (a b : Str) : Prop := ¬ b.cps.toList < a.cps.toList
theorem Le.trans {a b c : Str} (h1 : Le a b) (h2 : Le b c) : Le a c := List.not_lt.mpr (List.le_trans (List.not_lt.mp h1) (List.not_lt.mp h2))
theorem Le.anti {a b : Str} (h1 : Le a b) (h2 : Le b a) : a = b := str_of_list (List.le_antisymm (List.not_lt.mp h1) (List.not_lt.mp h2))
theorem le_of {a b : Str} (h : (!ltCps b.cps.toList a.cps.toList) = true) : Le a b := fun z => by
  rw [ltCps_eq, decide_eq_true z] at h
  cases h
theorem rising_pw : ∀ (l : List Str) (p : Str), risingS p l = true → (p :: l).Pairwise Le
  | [], p, _ => List.pairwise_singleton _ _
  | x :: r, p, h => by
    have h' : (!ltCps x.cps.toList p.cps.toList && risingS x r) = true := h
    rw [Bool.and_eq_true] at h'
    have ih := rising_pw r x h'.2
    have px := le_of h'.1
    refine List.pairwise_cons.mpr ⟨fun y hy => ?_, ih⟩
    rcases List.mem_cons.mp hy with e | e
    · rw [e]; exact px
    · exact px.trans ((List.pairwise_cons.mp ih).1 y e)
theorem sorted_pw : ∀ {l : List Str}, sortedS l = true → l.Pairwise Le
  | [], _ => List.Pairwise.nil
  | x :: r, h => rising_pw r x h
theorem pw_unique : ∀ {l m : List Str}, l.Pairwise Le → m.Pairwise Le → l.Nodup → m.Nodup → (∀ y, y ∈ l ↔ y ∈ m) → l = m
  | [], [], _, _, _, _, _ => rfl
  | [], y :: m, _, _, _, _, h => by cases (h y).2 List.mem_cons_self
  | x :: l, [], _, _, _, _, h => by cases (h x).1 List.mem_cons_self
  | x :: l, y :: m, h1, h2, n1, n2, h => by
    obtain ⟨a1, b1⟩ := List.pairwise_cons.mp h1
    obtain ⟨a2, b2⟩ := List.pairwise_cons.mp h2
    obtain ⟨c1, d1⟩ := List.nodup_cons.mp n1
    obtain ⟨c2, d2⟩ := List.nodup_cons.mp n2
    have e : x = y := by
      rcases List.mem_cons.mp ((h x).1 List.mem_cons_self) with e | e
      · exact e
      · rcases List.mem_cons.mp ((h y).2 List.mem_cons_self) with e' | e'
        · exact e'.symm
        · exact (a1 y e').anti (a2 x e)
    subst e
    refine congrArg (List.cons x) (pw_unique b1 b2 d1 d2 fun z => ⟨fun hz => ?_, fun hz => ?_⟩)
    · rcases List.mem_cons.mp ((h z).1 (List.mem_cons_of_mem _ hz)) with e | e
      · exact absurd (e ▸ hz) c1
      · exact e
    · rcases List.mem_cons.mp ((h z).2 (List.mem_cons_of_mem _ hz)) with e | e
      · exact absurd (e ▸ hz) c2
      · exact e
/-- the texts xs, each once, rising -/
structure Rising (ys xs : List Str) : Prop where
  srt : sortedS ys = true
  nd : ys.Nodup
  mem : ∀ y, y ∈ ys ↔ y ∈ xs
theorem Rising.eq {ys zs xs : List Str} (a : Rising ys xs) (b : Rising zs xs) : ys = zs := pw_unique (sorted_pw a.srt) (sorted_pw b.srt) a.nd b.nd fun y => (a.mem y).trans (b.mem y).symm
/-- a comprehension of texts over a list that stays -/
theorem sc_list {w : World} {K : PySem.W.Frag} {a : Addr} {xs : List V} {g : TG} {tt : TT} {te : TE} {vs : List Nat} {σ : L2.St} {H1 : Hp} {D : Addr} {Qd : Hp → Prop} (Pv : Nat → Hp → Prop) (h0 : Pv 0 (upd H1 D (TxO w D []))) (hl : ∀ i H, i ≤ xs.length → Pv i H → SqL K H a xs)
    (hs : ∀ i x H, xs[i]? = some x → Pv i H → g x (wipe σ vs) H fun τ H2 => wipe τ vs = wipe σ vs ∧ tt τ H2 fun b H3 =>
      if b = true then te τ H3 fun y H4 => ∃ (c : Str) (us : List Str), y = .str c ∧ H4 D = some (TxO w D us) ∧ us.length + 1 < scanBound ∧ Pv (i + 1) (upd H4 D (TxO w D (more c us))) else Pv (i + 1) H3) (hd : ∀ H, Pv xs.length H → Qd H) :
    ∃ W : Nat → Nat → Hp → Prop, (∃ m, W 0 m (upd H1 D (TxO w D []))) ∧ ∀ i m H, W i m H →
      ((Itl K a).stop i H ∧ Qd H) ∨ ((Itl K a).go i H ∧ ∃ Nx : Hp → Prop, (∀ H', Nx H' → ∃ m', m' < m ∧ W (i + 1) m' H') ∧ ∀ x H', (Itl K a).yld i H x H' → g x (wipe σ vs) H' fun τ H2 => wipe τ vs = wipe σ vs ∧ tt τ H2 fun b H3 =>
        if b = true then te τ H3 fun y H4 => ∃ (c : Str) (us : List Str), y = .str c ∧ H4 D = some (TxO w D us) ∧ us.length + 1 < scanBound ∧ Nx (upd H4 D (TxO w D (more c us))) else Nx H3) := by
  refine ⟨fun i m H => m + i = xs.length ∧ Pv i H, ⟨xs.length, rfl, h0⟩, ?_⟩
  rintro i m H ⟨hm, p⟩
  have st := hl i H (by omega) p
  by_cases lt : i < xs.length
  · refine .inr ⟨⟨xs, xs[i], st, List.getElem?_eq_getElem lt⟩, Pv (i + 1), fun H' p' => ⟨m - 1, by omega, by omega, p'⟩, ?_⟩
    rintro x H' ⟨rfl, y⟩
    exact hs i x _ (y xs st) p
  · obtain rfl : i = xs.length := by omega
    exact .inl ⟨⟨xs, st, Nat.le_refl _⟩, hd H p⟩
end NvSet

set_option maxRecDepth 100000
set_option maxHeartbeats 4000000
namespace Nv
open PySem PySem.Spec PyProof.Rows L2
def topS (i : Nat) : Stmt := PySem.Challenge.pw_nevernought_k50_machines_equal_long_and.main.body.getD i (.Pass ⟨0, 0, 0, 0⟩)
abbrev sNE : Stmt := inClass (topS 2) 0
theorem scNE : FnScope ["self", "word", "message"] ["self", "word", "message"] (defScope sNE) := ⟨rfl, rfl, rfl, by decide +kernel, rfl, by decide +kernel, by decide +kernel⟩
/-- the fields of an exception that has its word alone -/
def wordOf (w : Str) : List (Str × V) := [(Str.ofString "word", .str w)]
/-- an exception that is being made gets its word -/
def made (a C : Addr) (w : Str) (H : Hp) (Q : VK) : Prop := ∀ dx, H dx = none → dx ≠ a → Q .non (upd (upd H dx (exd dx (wordOf w))) a (exo a C (some dx)))
def spNE (K : PySem.W.Frag) : Sp := fun vs H Q _ => ∃ (a C : Addr) (w m : Str), vs = [.ref a, .str w, .str m] ∧ OexC K C ∧ PySem.W.findIn K (.ref C) "word" = some none ∧ H a = some (exo a C none) ∧ made a C w H Q
theorem same_new {H : Hp} {p : Addr} {o : HO} (h : H p = none) : Same H (upd H p o) := fun b x e => by
  rw [upd_ne (ne_of_none e h)]
  exact e
/-- a new pair of numbers is told; all that stood stands -/
def newSh (H : Hp) (Q : VK) (t b : Int) : Prop := ∀ (p : Addr) (H' : Hp), Same H H' → H p = none → H' p = some (.tup [.int t, .int b]) → Q (.ref p) H'
theorem newSh.at_ {H : Hp} {Q : VK} {t b : Int} (q : newSh H Q t b) : ∀ p, H p = none → Q (.ref p) (upd H p (.tup [.int t, .int b])) := fun p hp => q p _ (same_new hp) hp upd_same
/-! The law's bag: [the script's numbers, a place, what is left of a great one, a salt, a count]. -/
def bagL (l : Addr) (i j s n : Int) : List V := [.ref l, .int i, .int j, .int s, .int n]
structure BagAt (l b : Addr) (H : Hp) : Prop where
  ex : ∃ i j s n : Int, H b = some (.lst (bagL l i j s n)) ∧ 0 ≤ i ∧ 0 ≤ j ∧ 0 ≤ s ∧ s < 2147483647
structure Bag (l b : Addr) (H : Hp) : Prop where
  ex : ∃ ns : List Int, l ≠ b ∧ H l = some (.lst (ns.map V.int)) ∧ BagAt l b H
/-- but for b all is as it was -/
def But (b : Addr) (H H' : Hp) : Prop := ∀ a, a ≠ b → H' a = H a
theorem But.refl (b : Addr) (H : Hp) : But b H H := fun _ _ => rfl
theorem But.trans {b : Addr} {H H1 H2 : Hp} (x : But b H H1) (y : But b H1 H2) : But b H H2 := fun a n => (y a n).trans (x a n)
theorem But.upd {b : Addr} {H H1 : Hp} {o : HO} (x : But b H H1) : But b H (upd H1 b o) := fun a n => (upd_ne n).trans (x a n)
theorem keep {a b : TS} {D : Ends} {σ : L2.St} {H : Hp} (M : L2.St → Hp → Prop) (h : ∀ σ' H', M σ' H' → b D σ' H') (k : (∀ σ' H', M σ' H' → b D σ' H') → a { D with nx := b D } σ H) : tSeq a b D σ H := k h
def spPull : Sp := fun vs H Q _ => ∃ (l b : Addr) (m : Int), vs = [.ref b, .int m] ∧ 0 < m ∧ m.natAbs < 2 ^ 8000 ∧ Bag l b H ∧ ∀ (r : Int) (H' : Hp), 0 ≤ r → r < m → Bag l b H' → But b H H' → Q (.int r) H'
/-- a number that is reckoned with -/
def Fit (i : Int) : Prop := i.natAbs < 2 ^ 1000
theorem Fit.mulOk {i j : Int} (a : Fit i) (b : Fit j) : CMulW i j := wide_mul a b (by decide) (by decide) (by decide)
theorem Fit.mul {i j : Int} (a : Fit i) (b : Fit j) : (i * j).natAbs < 2 ^ 8000 := Nat.lt_of_lt_of_le (wide_lt a b) (Nat.pow_le_pow_right (by decide) (by decide))
/-- but for b all that was tracked is as it was -/
def Grow (b : Addr) (H H' : Hp) : Prop := ∀ a o, a ≠ b → H a = some o → H' a = some o
theorem Grow.refl (b : Addr) (H : Hp) : Grow b H H := fun _ _ _ h => h
theorem Grow.trans {b : Addr} {H H1 H2 : Hp} (x : Grow b H H1) (y : Grow b H1 H2) : Grow b H H2 := fun a o n h => y a o n (x a o n h)
theorem But.grow {b : Addr} {H H' : Hp} (x : But b H H') : Grow b H H' := fun a o n h => by rw [x a n]; exact h
theorem Same.grow {b : Addr} {H H' : Hp} (x : Same H H') : Grow b H H' := fun a o _ h => x a o h
theorem Bag.is {l b : Addr} {H : Hp} (B : Bag l b H) : ∃ o, H b = some o := by
  obtain ⟨ns, _, _, ⟨i, j, s, n, hb, _⟩⟩ := B
  exact ⟨_, hb⟩
theorem Bag.ne {l b p : Addr} {H : Hp} (B : Bag l b H) (h : H p = none) : p ≠ b := fun z => by
  obtain ⟨o, e⟩ := B.is
  rw [z, e] at h
  cases h
theorem Grow.free {b p : Addr} {H H' : Hp} (x : Grow b H H') (n : p ≠ b) (h : H' p = none) : H p = none := by
  cases e : H p with
  | none => rfl
  | some o =>
    rw [x p o n e] at h
    cases h
/-- a bag stays one where all else only grows -/
theorem Bag.same {l b : Addr} {H H' : Hp} (B : Bag l b H) (x : Same H H') : Bag l b H' := by
  obtain ⟨ns, nl, hl, ⟨i, j, s, n, hb, r⟩⟩ := B
  exact ⟨ns, nl, x _ _ hl, ⟨i, j, s, n, x _ _ hb, r⟩⟩
/-- a share that the law draws -/
structure Drawn (t b : Int) : Prop where
  top : t.natAbs < 2 ^ 45
  bot : b.natAbs < 2 ^ 45
  pos : 0 < b
theorem Drawn.fitT {t b : Int} (d : Drawn t b) : Fit t := Nat.lt_of_lt_of_le d.top (Nat.pow_le_pow_right (by decide) (by decide))
theorem Drawn.fitB {t b : Int} (d : Drawn t b) : Fit b := Nat.lt_of_lt_of_le d.bot (Nat.pow_le_pow_right (by decide) (by decide))
theorem drawn_fr {t b : Int} (ht : t.natAbs < 2 ^ 45) (hb : b.natAbs < 2 ^ 45) (h0 : b ≠ 0) : Drawn (frT t b) (frB t b) := ⟨Nat.lt_of_le_of_lt (frT_le t h0) ht, Nat.lt_of_le_of_lt (frB_le t h0) hb, frB_pos t h0⟩
theorem fit8 {i : Int} {n : Nat} (h : i.natAbs < 2 ^ n) (hn : n ≤ 8000) : i.natAbs < 2 ^ 8000 := Nat.lt_of_lt_of_le h (Nat.pow_le_pow_right (by decide) hn)
def spDraw : Sp := fun vs H Q _ => ∃ l b : Addr, vs = [.ref b] ∧ Bag l b H ∧ ∀ (p : Addr) (t d : Int) (H' : Hp), Drawn t d → Bag l b H' → Grow b H H' → H p = none → H' p = some (.tup [.int t, .int d]) → Q (.ref p) H'
section
variable {P : Program} {w : World} {K : PySem.W.Frag} {mg : Str → Option Value} {base : Heap}
theorem ok_NE {f : Addr} {fd : FuncData} {k : Nat} {dvs : List V} (F : FunD K "__init__" "NeverError.__init__" (defArgs sNE) (defBody sNE) (defScope sNE) dvs [] f fd) (mv : mg "ValueError" = none)
    (vV : PySem.W.findCls K (.type "ValueError") (.type "type") "__init__" = some (.val (.builtin "ValueError.__init__"))) : FnOk P w K mg base CX0 (k + 1) f fd ["self", "word", "message"] (spNE K) := by
  refine F.ok scNE (fun vs H Q E h => ?_) (fun cdv A outer s H vs Q E hr h => ?_)
  · obtain ⟨a, C, w, m, rfl, _⟩ := h
    rfl
  · obtain ⟨a, C, w, m, rfl, ho, hn, ha, q⟩ := h
    refine ⟨_, pss_cons (ps_expr (pe_veinit (by rfl) mv vV (pa_cons (pv 0) (pa_cons (pv 2) pa_nil)))) (pss_one (ps_ost (pv 0) (pv 1))), ?_⟩
    refine ⟨_, rfl, _, rfl, a, C, [.str m], rfl, (by show 1 ≤ 1000; decide), ho, ha, ?_⟩
    exact ⟨_, rfl, _, rfl, a, C, rfl, ho, hn, .inl ⟨ha, fun dx n ne => q dx n ne⟩⟩
def spGcd : Sp := fun vs H Q _ => ∃ a b : Int, vs = [.int a, .int b] ∧ Q (.int ((Int.gcd a b : Nat) : Int)) H
def mGcd (σ : L2.St) (_ : Hp) : Nat := match σ with
  | [_, some (.int y)] => y.natAbs
  | _ => 0
abbrev sLGcd : Stmt := topS 64
theorem scLGcd : FnScope ["_law_one", "_law_other"] ["_law_one", "_law_other"] (defScope sLGcd) := ⟨rfl, rfl, rfl, by decide +kernel, rfl, by decide +kernel, by decide +kernel⟩
theorem ok_law_gcd {f : Addr} {fd : FuncData} {k : Nat} (F : Fun K "_law_gcd" "_law_gcd" sLGcd f fd) (ma : mg "abs" = none) : FnOk P w K mg base CX0 (k + 1) f fd ["_law_one", "_law_other"] spGcd := by
  refine F.ok scLGcd (fun vs H Q E h => ?_) (fun cdv A outer s H vs Q E hr h => ?_)
  · obtain ⟨a, b, rfl, _⟩ := h
    rfl
  · obtain ⟨a, b, rfl, q⟩ := h
    refine ⟨_, pss_cons (ps_while PassesOwn.never (pt_cmpR op_ne (pv 1) pe_int (nomark _))
        (pss_one (ps_par (i := 0) (j := 1) (by rfl) scLGcd.nd rfl rfl (by decide) rfl rfl (pa_cons (pv 1) (pa_cons (pe_op op_modN (pv 0) (pv 1)) pa_nil)) (by rfl))))
      (pss_one (ps_ret (pe_callB call_abs (by rfl) ma (by decide +kernel) (pa_cons (pv 0) pa_nil)))), ?_⟩
    refine while_by (fun σ H' => ∃ x y : Int, σ = [some (.int x), some (.int y)] ∧ H' = H ∧ Int.gcd x y = Int.gcd a b) mGcd ⟨a, b, rfl, rfl, rfl⟩ (fun σ H' hP => ?_) (fun σ H Q Q' hh hc => ?_)
    · obtain ⟨x, y, rfl, rfl, e⟩ := hP
      refine ⟨_, rfl, rfl, _, rfl, ?_⟩
      refine ite2 (fun c => ?_) (fun c => ?_)
      · have hy : y ≠ 0 := fun z => by
          subst z
          exact absurd c (by decide)
        refine ⟨_, rfl, _, rfl, _, rfl, x, y, rfl, rfl, hy, _, _, rfl, ⟨y, x.fmod y, rfl, rfl, ?_⟩, fmod_small x hy⟩
        rw [gcd_step]
        exact e
      · have hy : y = 0 := Classical.byContradiction fun z => c (by
          show (!decide (V.int y = V.int 0)) = true
          rw [decide_eq_false (fun q => z (V.int.inj q))]
          rfl)
        subst hy
        refine ⟨_, rfl, x, rfl, ?_⟩
        rw [gcd_zero, e]
        exact q
    · obtain ⟨v, e1, e2, k, e3, e4⟩ := hc
      exact ⟨v, e1, e2, k, e3, hh _ _ e4⟩
abbrev sGcd : Stmt := topS 11
def spPGcd : Sp := fun vs H Q _ => ∃ a b : Int, vs = [.int a, .int b] ∧ b.natAbs < 2 ^ 6000 ∧ Q (.int ((Int.gcd a b : Nat) : Int)) H
theorem scGcd : FnScope ["one", "other"] ["one", "other"] (defScope sGcd) := ⟨rfl, rfl, rfl, by decide +kernel, rfl, by decide +kernel, by decide +kernel⟩
/-- numbers of at most 6000 bits are divided as ever -/
theorem ok_gcd {f : Addr} {fd : FuncData} {k : Nat} (F : Fun K "common_divisor" "common_divisor" sGcd f fd) (ma : mg "abs" = none) (mL : ∃ t, mg "LONG" = some (.int 6000 t)) : FnOk P w K mg base CX0 (k + 1) f fd ["one", "other"] spPGcd := by
  obtain ⟨tL, hL⟩ := mL
  refine F.ok scGcd (fun vs H Q E h => ?_) (fun cdv A outer s H vs Q E hr h => ?_)
  · obtain ⟨a, b, rfl, _⟩ := h
    rfl
  · obtain ⟨a, b, rfl, hb, q⟩ := h
    refine ⟨_, pss_cons (ps_if (pt_cmpR op_gt (pe_bits (pv 1)) (pe_glob (v := .int 6000) (by rfl) hL ⟨_, rfl⟩) (nomark _)) pss_never pss_nil)
      (pss_cons (ps_while PassesOwn.never (pt_cmpR op_ne (pv 1) pe_int (nomark _))
        (pss_one (ps_par (i := 0) (j := 1) (by rfl) scGcd.nd rfl rfl (by decide) rfl rfl (pa_cons (pv 1) (pa_cons (pe_op op_modN (pv 0) (pv 1)) pa_nil)) (by rfl))))
      (pss_one (ps_ret (pe_callB call_abs (by rfl) ma (by decide +kernel) (pa_cons (pv 0) pa_nil))))), ?_⟩
    have hs : ¬ (6000 : Int) < ((Builtin.Int.intBits b : Nat) : Int) := by
      have := PyProof.Rows.intBits_le hb
      omega
    refine ⟨_, rfl, b, rfl, _, 6000, rfl, rfl, _, rfl, ite2 (fun c => absurd (of_decide_eq_true c) hs) (fun _ => ?_)⟩
    refine while_by (fun σ H' => ∃ x y : Int, σ = [some (.int x), some (.int y)] ∧ H' = H ∧ Int.gcd x y = Int.gcd a b) mGcd ⟨a, b, rfl, rfl, rfl⟩ (fun σ H' hP => ?_) (fun σ H Q Q' hh hc => ?_)
    · obtain ⟨x, y, rfl, rfl, e⟩ := hP
      refine ⟨_, rfl, rfl, _, rfl, ?_⟩
      refine ite2 (fun c => ?_) (fun c => ?_)
      · have hy : y ≠ 0 := fun z => by
          subst z
          exact absurd c (by decide)
        refine ⟨_, rfl, _, rfl, _, rfl, x, y, rfl, rfl, hy, _, _, rfl, ⟨y, x.fmod y, rfl, rfl, ?_⟩, fmod_small x hy⟩
        rw [gcd_step]
        exact e
      · have hy : y = 0 := Classical.byContradiction fun z => c (by
          show (!decide (V.int y = V.int 0)) = true
          rw [decide_eq_false (fun q => z (V.int.inj q))]
          rfl)
        subst hy
        refine ⟨_, rfl, x, rfl, ?_⟩
        rw [gcd_zero, e]
        exact q
    · obtain ⟨v, e1, e2, k, e3, e4⟩ := hc
      exact ⟨v, e1, e2, k, e3, hh _ _ e4⟩
def spFr : Sp := fun vs H Q _ => ∃ t b : Int, vs = [.int t, .int b] ∧ b ≠ 0 ∧ b.natAbs < 2 ^ 8000 ∧ newSh H Q (frT t b) (frB t b)
theorem at0 {a b : V} : atI [a, b] 0 = some a := rfl
theorem at1 {a b : V} : atI [a, b] 1 = some b := rfl
abbrev sLFr : Stmt := topS 65
theorem scLFr : FnScope ["_law_top", "_law_bottom", "_law_per"] ["_law_top", "_law_bottom"] (defScope sLFr) := ⟨rfl, rfl, rfl, by decide +kernel, rfl, by decide +kernel, by decide +kernel⟩
theorem ok_law_fr {f : Addr} {fd : FuncData} (F : Fun K "_law_fr" "_law_fr" sLFr f fd) (GG : C8.Cal P w K mg base 1 "_law_gcd" spGcd []) : FnOk P w K mg base CX0 2 f fd ["_law_top", "_law_bottom"] spFr := by
  refine F.ok scLFr (fun vs H Q E h => ?_) (fun cdv A outer s H vs Q E hr h => ?_)
  · obtain ⟨a, b, rfl, _⟩ := h
    rfl
  · obtain ⟨t, b, rfl, e, hb, q1⟩ := h
    refine ⟨_, pss_cons (ps_set (i := 2) scLFr.nd rfl (.inl rfl) (C8.pe_c GG hr (by decide) (by rfl) (pa_cons (pv 0) (pa_cons (pv 1) pa_nil))))
      (pss_cons (ps_set (i := 2) scLFr.nd rfl (.inl rfl) (pe_ifExp (pt_cmpR op_lt (pv 1) pe_int (nomark _)) (pe_op op_sub pe_int (pv 2)) (pv 2)))
      (pss_one (ps_ret (pe_tup (pa_cons (pe_op op_div (pv 0) (pv 2)) (pa_cons (pe_op op_div (pv 1) (pv 2)) pa_nil)))))), ?_⟩
    refine ⟨_, rfl, _, rfl, t, b, rfl, ?_⟩
    have fin : ∀ d : Int, d = per t b → tRet (tTup (tCons (tOp (rI DivOk fun i j => .int (i.fdiv j)) (tVar 0) (tVar 2)) (tCons (tOp (rI DivOk fun i j => .int (i.fdiv j)) (tVar 1) (tVar 2)) tNil)))
        { nx := fun _ H' => Q .non H', rt := Q } [some (.int t), some (.int b), some (.int d)] H := fun d hd => by
      have ok : DivOk t d := ⟨by rw [hd]; exact per_ne t e, by rw [hd]; exact Nat.lt_of_le_of_lt (per_le t e) hb⟩
      refine ⟨_, rfl, _, rfl, t, d, rfl, rfl, ok, _, rfl, _, rfl, b, d, rfl, rfl, ok, (by show 2 ≤ sizeLine; decide), fun p hp => ?_⟩
      rw [hd]
      exact q1.at_ p hp
    refine ⟨_, rfl, b, 0, rfl, rfl, _, rfl, ite2 (fun c2 => ?_) (fun c2 => ?_)⟩
    · have l : b < 0 := of_decide_eq_true c2
      refine ⟨_, rfl, 0, _, rfl, rfl, ?_⟩
      exact fin _ (by unfold per; rw [if_pos l]; omega)
    · have l : ¬ b < 0 := fun z => c2 (decide_eq_true z)
      refine ⟨_, rfl, ?_⟩
      exact fin _ (by unfold per; rw [if_neg l])
abbrev sPull : Stmt := topS 61
theorem scPull : FnScope ["_law_bag_here", "_law_sides", "_law_cell", "_law_got", "_law_seed"] ["_law_bag_here", "_law_sides"] (defScope sPull) := ⟨rfl, rfl, rfl, by decide +kernel, rfl, by decide +kernel, by decide +kernel⟩
theorem at_in {xs : List V} {r : Int} (h0 : 0 ≤ r) (h : r.toNat < xs.length) : atI xs r = some xs[r.toNat] := by
  obtain ⟨n, rfl⟩ := Int.eq_ofNat_of_zero_le h0
  exact atI_nat (List.getElem?_eq_getElem h)
theorem ok_pull {f : Addr} {fd : FuncData} {k : Nat} (F : Fun K "_law_pull" "_law_pull" sPull f fd) (ml : mg "len" = none) : FnOk P w K mg base CX0 (k + 1) f fd ["_law_bag_here", "_law_sides"] spPull := by
  refine F.ok scPull (fun vs H Q E h => ?_) (fun cdv A outer s H vs Q E hr h => ?_)
  · obtain ⟨l, b, m, rfl, _⟩ := h
    rfl
  · obtain ⟨l, b, m, rfl, hm, hm9, ⟨ns, nlb, hl, ⟨i, j, sa, n, hb, hi, hj, hs, hs2⟩⟩, q⟩ := h
    have hm8 : CDivW 0 m := wide_div hm hm9 (by decide) (by decide)
    refine ⟨_, pss_cons (ps_if (PW.pt (pw_and (pt_cmpR op_eq (pe_ix ix_list (pv 0) pe_int (fun _ _ => rfl)) pe_int (nomark _))
          (pw_and1 (pt_cmpR op_lt (pe_ix ix_list (pv 0) pe_int (fun _ _ => rfl)) (pe_callB call_len_seq (by rfl) ml PySem.boot_len (pa_cons (pe_ix ix_list (pv 0) pe_int (fun _ _ => rfl)) pa_nil)) (nomark _)))))
        (pss_cons (ps_set (i := 2) scPull.nd rfl (.inl rfl) (pe_ix ix_list (pe_ix ix_list (pv 0) pe_int (fun _ _ => rfl)) (pe_ix ix_list (pv 0) pe_int (fun _ _ => rfl)) (fun _ _ => rfl)))
        (pss_cons (ps_asg (pe_op op_add (pe_ix ix_list (pv 0) pe_int (fun _ _ => rfl)) pe_int) (pg_sub (pv 0) pe_int set_list))
        (pss_one (ps_if (pt_cmpR op_ge (pv 2) (pe_op op_pow pe_int pe_int) (nomark _)) (pss_one (ps_asg (pv 2) (pg_sub (pv 0) pe_int set_list)))
          (pss_one (ps_asg (pe_op op_mod (pe_op op_add (pe_op op_add (pe_op op_mul (pe_ix ix_list (pv 0) pe_int (fun _ _ => rfl)) pe_int) (pe_op op_mod (pv 2) pe_int)) pe_int) pe_int) (pg_sub (pv 0) pe_int set_list)))))))
        pss_nil)
      (pss_cons (ps_if (pt_cmpR op_gt (pe_ix ix_list (pv 0) pe_int (fun _ _ => rfl)) pe_int (nomark _))
        (pss_cons (ps_set (i := 3) scPull.nd rfl (.inl rfl) (pe_op op_mod (pe_ix ix_list (pv 0) pe_int (fun _ _ => rfl)) (pv 1)))
        (pss_cons (ps_asg (pe_op op_fdivW (pe_ix ix_list (pv 0) pe_int (fun _ _ => rfl)) (pv 1)) (pg_sub (pv 0) pe_int set_list))
        (pss_one (ps_ret (pv 3))))) pss_nil)
      (pss_cons (ps_asg (pe_op op_add (pe_ix ix_list (pv 0) pe_int (fun _ _ => rfl)) pe_int) (pg_sub (pv 0) pe_int set_list))
      (pss_cons (ps_set (i := 4) scPull.nd rfl (.inl rfl) (pe_op op_mod (pe_op op_add (pe_ix ix_list (pv 0) pe_int (fun _ _ => rfl)) (pe_op op_mul (pe_ix ix_list (pv 0) pe_int (fun _ _ => rfl)) pe_int)) pe_int))
      (pss_cons (ps_asg (pe_op op_mod (pe_op op_add (pe_op op_add (pe_op op_mul (pe_op op_mod (pe_op op_mul (pv 4) (pv 4)) pe_int) (pe_op op_add (pe_op op_mod (pv 4) pe_int) pe_int)) (pe_op op_mul pe_int (pv 4))) pe_int) pe_int) (pg_sub (pv 0) pe_int set_list))
      (pss_one (ps_ret (pe_op op_mod (pe_op op_add (pe_op op_fdiv (pe_ix ix_list (pv 0) pe_int (fun _ _ => rfl)) pe_int) (pe_op op_mul (pe_op op_mod (pe_ix ix_list (pv 0) pe_int (fun _ _ => rfl)) pe_int) pe_int)) (pv 1)))))))), ?_⟩
    refine keep (fun σ' H' => ∃ (i j sa n : Int) (y : Option V), σ' = [some (.ref b), some (.int m), y, none, none] ∧ H' b = some (.lst (bagL l i j sa n)) ∧ 0 ≤ i ∧ 0 ≤ j ∧ 0 ≤ sa ∧ sa < 2147483647 ∧ But b H H') (fun σ' H1 hM => ?_) (fun rest => ?_)
    · obtain ⟨i, j, sa, n, y, rfl, hb, hi, hj, hs, hs2, bt⟩ := hM
      have bagOf : ∀ (H2 : Hp), But b H H2 → BagAt l b H2 → Bag l b H2 := fun H2 bt2 x => ⟨ns, nlb, by rw [bt2 l nlb]; exact hl, x⟩
      refine ⟨_, rfl, b, _, 2, _, rfl, rfl, SqL.of hb, rfl, j, 0, rfl, rfl, _, rfl, ite2 (fun c => ?_) (fun c => ?_)⟩
      · -- what is left of a great number
        refine ⟨_, rfl, b, _, 2, _, rfl, rfl, SqL.of hb, rfl, _, rfl, j, m, rfl, rfl, hm, ?_⟩
        refine ⟨_, rfl, b, _, 2, _, rfl, rfl, SqL.of hb, rfl, _, rfl, j, m, rfl, rfl, hm8, _, rfl, b, _, 2, 2, rfl, rfl, hb, rfl, ?_⟩
        refine ⟨_, rfl, ?_⟩
        exact q _ _ (Int.emod_nonneg j (by omega)) (Int.emod_lt_of_pos j hm) (bagOf _ bt.upd ⟨⟨i, j / m, sa, n, upd_same, hi, Int.ediv_nonneg hj (by omega), hs, hs2⟩⟩) bt.upd
      · refine ⟨_, rfl, b, _, 4, _, rfl, rfl, SqL.of hb, rfl, n, 1, rfl, rfl, _, rfl, b, _, 4, 4, rfl, rfl, hb, rfl, ?_⟩
        have hb2 : (upd H1 b (.lst (bagL l i j sa (n + 1)))) b = some (.lst (bagL l i j sa (n + 1))) := upd_same
        refine ⟨_, rfl, b, _, 3, _, rfl, rfl, SqL.of hb2, rfl, _, rfl, b, _, 4, _, rfl, rfl, SqL.of hb2, rfl, n + 1, 7211, rfl, rfl, .inr ⟨by decide, by decide⟩, sa, _, rfl, rfl, _, 2147483647, rfl, rfl, (by show (0 : Int) < _; decide), ?_⟩
        have r0 := Int.emod_nonneg (sa + (n + 1) * 7211) (show (2147483647 : Int) ≠ 0 by decide)
        have r1 := Int.emod_lt_of_pos (sa + (n + 1) * 7211) (show (0 : Int) < 2147483647 by decide)
        show tSeq _ _ _ [some (.ref b), some (.int m), y, none, some (.int ((sa + (n + 1) * 7211) % 2147483647))] _
        generalize (sa + (n + 1) * 7211) % 2147483647 = sd at r0 r1 ⊢
        have t0 := Int.emod_nonneg (sd * sd) (show (2147483629 : Int) ≠ 0 by decide)
        have t1 := Int.emod_lt_of_pos (sd * sd) (show (0 : Int) < 2147483629 by decide)
        refine ⟨_, rfl, _, rfl, sd, sd, rfl, rfl, .inl ⟨by omega, by omega⟩, _, 2147483629, rfl, rfl, (by show (0 : Int) < _; decide), _, rfl, sd, 30011, rfl, rfl, (by show (0 : Int) < _; decide), _, 5, rfl, rfl, _, _, rfl, rfl, .inl ⟨by omega, by omega⟩, _, rfl, 20011, sd, rfl, rfl, .inl ⟨by decide, by decide⟩, _, _, rfl, rfl, _, 977, rfl, rfl, _, 2147483647, rfl, rfl, (by show (0 : Int) < _; decide), _, rfl, b, _, 3, 3, rfl, rfl, hb2, rfl, ?_⟩
        have s0 := Int.emod_nonneg (sd * sd % 2147483629 * (sd % 30011 + 5) + 20011 * sd + 977) (show (2147483647 : Int) ≠ 0 by decide)
        have s1 := Int.emod_lt_of_pos (sd * sd % 2147483629 * (sd % 30011 + 5) + 20011 * sd + 977) (show (0 : Int) < 2147483647 by decide)
        have hb3 : (upd (upd H1 b (.lst (bagL l i j sa (n + 1)))) b (.lst (bagL l i j ((sd * sd % 2147483629 * (sd % 30011 + 5) + 20011 * sd + 977) % 2147483647) (n + 1)))) b = some (.lst (bagL l i j ((sd * sd % 2147483629 * (sd % 30011 + 5) + 20011 * sd + 977) % 2147483647) (n + 1))) := upd_same
        refine ⟨_, rfl, b, _, 3, _, rfl, rfl, SqL.of hb3, rfl, _, 71, rfl, rfl, ⟨by decide, by decide⟩, _, rfl, b, _, 3, _, rfl, rfl, SqL.of hb3, rfl, _, 8191, rfl, rfl, (by show (0 : Int) < _; decide), _, 41, rfl, rfl, .inr ⟨by decide, by decide⟩, _, _, rfl, rfl, _, rfl, _, m, rfl, rfl, hm, ?_⟩
        exact q _ _ (Int.emod_nonneg _ (by omega)) (Int.emod_lt_of_pos _ hm) (bagOf _ bt.upd.upd ⟨⟨i, j, _, n + 1, upd_same, hi, hj, s0, s1⟩⟩) bt.upd.upd
    · have stay := rest [some (.ref b), some (.int m), none, none, none] H ⟨i, j, sa, n, none, rfl, hb, hi, hj, hs, hs2, But.refl b H⟩
      refine ⟨_, rfl, b, _, 2, _, rfl, rfl, SqL.of hb, rfl, rfl, _, rfl, ite2 (fun c => ?_) (fun c => ?_)⟩
      · refine ⟨_, rfl, b, _, 1, _, rfl, rfl, SqL.of hb, rfl, _, rfl, b, _, 0, _, rfl, rfl, SqL.of hb, rfl, l, _, rfl, .inl (SqL.of hl), i, _, rfl, rfl, _, rfl, ite2 (fun c2 => ?_) (fun c2 => ?_)⟩
        · have hlt : i < ((ns.map V.int).length : Int) := of_decide_eq_true c2
          rw [List.length_map] at hlt
          obtain ⟨cell, hc⟩ : ∃ cell : Int, atI (ns.map V.int) i = some (.int cell) := by
            have h1 : i.toNat < (ns.map V.int).length := by rw [List.length_map]; omega
            refine ⟨ns[i.toNat]'(by rw [List.length_map] at h1; exact h1), ?_⟩
            rw [at_in hi h1, List.getElem_map]
          refine ⟨_, rfl, b, _, 0, _, rfl, rfl, SqL.of hb, rfl, _, rfl, b, _, 1, _, rfl, rfl, SqL.of hb, rfl, l, _, i, _, rfl, rfl, SqL.of hl, hc, ?_⟩
          refine ⟨_, rfl, b, _, 1, _, rfl, rfl, SqL.of hb, rfl, i, 1, rfl, rfl, _, rfl, b, _, 1, 1, rfl, rfl, hb, rfl, ?_⟩
          have hb2 : (upd H b (.lst (bagL l (i + 1) j sa n))) b = some (.lst (bagL l (i + 1) j sa n)) := upd_same
          refine ⟨_, rfl, 10, 18, rfl, rfl, ⟨by decide, by decide, by decide⟩, cell, _, rfl, rfl, _, rfl, ite2 (fun c3 => ?_) (fun c3 => ?_)⟩
          · have hbig : (10 : Int) ^ (18 : Int).toNat ≤ cell := of_decide_eq_true c3
            have hpos : (0 : Int) ≤ cell := Int.le_trans (by decide) hbig
            refine ⟨_, rfl, _, rfl, b, _, 2, 2, rfl, rfl, hb2, rfl, ?_⟩
            exact rest _ _ ⟨i + 1, cell, sa, n, _, rfl, upd_same, by omega, hpos, hs, hs2, (But.refl b H).upd.upd⟩
          · refine ⟨_, rfl, b, _, 3, _, rfl, rfl, SqL.of hb2, rfl, sa, 40283, rfl, rfl, .inr ⟨by decide, by decide⟩, _, rfl, cell, 2147483587, rfl, rfl, (by show (0 : Int) < _; decide), _, _, rfl, rfl, _, 7, rfl, rfl, _, 2147483647, rfl, rfl, (by show (0 : Int) < _; decide), _, rfl, b, _, 3, 3, rfl, rfl, hb2, rfl, ?_⟩
            exact rest _ _ ⟨i + 1, j, _, n, _, rfl, upd_same, by omega, hj, Int.emod_nonneg _ (by decide), Int.emod_lt_of_pos _ (by decide), (But.refl b H).upd.upd⟩
        · exact stay
      · exact iteF stay
abbrev sOf : Stmt := topS 62
theorem scOf : FnScope ["_law_bag_here", "_law_some"] ["_law_bag_here", "_law_some"] (defScope sOf) := ⟨rfl, rfl, rfl, by decide +kernel, rfl, by decide +kernel, by decide +kernel⟩
/-- one of those that are there -/
def spOf : Sp := fun vs H Q _ => ∃ (l b o : Addr) (xs : List V), vs = [.ref b, .ref o] ∧ o ≠ b ∧ H o = some (.lst xs) ∧ 0 < xs.length ∧ xs.length ≤ 1000 ∧ Bag l b H ∧ ∀ (v : V) (H' : Hp), v ∈ xs → Bag l b H' → But b H H' → Q v H'
theorem small_fit {n : Nat} (h : n ≤ 1000) : ((n : Int)).natAbs < 2 ^ 8000 := Nat.lt_of_le_of_lt (show ((n : Int)).natAbs ≤ 2 ^ 10 by omega) (Nat.pow_lt_pow_right (by decide) (by decide))
theorem ok_of {f : Addr} {fd : FuncData} (F : Fun K "_law_of" "_law_of" sOf f fd) (GP : C8.Cal P w K mg base 1 "_law_pull" spPull []) (ml : mg "len" = none) : FnOk P w K mg base CX0 2 f fd ["_law_bag_here", "_law_some"] spOf := by
  refine F.ok scOf (fun vs H Q E h => ?_) (fun cdv A outer s H vs Q E hr h => ?_)
  · obtain ⟨l, b, o, xs, rfl, _⟩ := h
    rfl
  · obtain ⟨l, b, o, xs, rfl, nob, ho, h0, h1, hB, q⟩ := h
    refine ⟨_, pss_one (ps_ret (pe_ix ix_list (pv 1) (C8.pe_c GP hr (by decide) (by rfl) (pa_cons (pv 0) (pa_cons (pe_callB call_len_seq (by rfl) ml PySem.boot_len (pa_cons (pv 1) pa_nil)) pa_nil))) (fun _ _ => rfl))), ?_⟩
    refine ⟨_, rfl, _, rfl, _, rfl, o, xs, rfl, .inl (SqL.of ho), l, b, _, rfl, by omega, small_fit h1, hB, fun r H' r0 r1 hB' bt => ?_⟩
    have ho' : H' o = some (.lst xs) := by rw [bt o nob]; exact ho
    have hlt : r.toNat < xs.length := by omega
    exact ⟨o, xs, r, xs[r.toNat], rfl, rfl, SqL.of ho', at_in r0 hlt, q _ _ (List.getElem_mem hlt) hB' bt⟩
abbrev sLight : Stmt := topS 67
theorem scLight : FnScope ["_law_bag_here"] ["_law_bag_here"] (defScope sLight) := ⟨rfl, rfl, rfl, by decide +kernel, rfl, by decide +kernel, by decide +kernel⟩
/-- the end of a drawing: fr(t, d) -/
theorem draw_end {l b : Addr} {H H1 : Hp} {Q : VK} {E : XK} {t d : Int} (g : Grow b H H1) (B : Bag l b H1) (ht : t.natAbs < 2 ^ 45) (hd : d.natAbs < 2 ^ 45) (h0 : d ≠ 0)
    (q : ∀ (p : Addr) (t d : Int) (H' : Hp), Drawn t d → Bag l b H' → Grow b H H' → H p = none → H' p = some (.tup [.int t, .int d]) → Q (.ref p) H') : spFr [.int t, .int d] H1 Q E :=
  ⟨t, d, rfl, h0, fit8 hd (by decide), fun p H' sm hp ep => q p _ _ _ (drawn_fr ht hd h0) (B.same sm) (g.trans (Same.grow sm)) (g.free (B.ne hp) hp) ep⟩
theorem ok_light {f : Addr} {fd : FuncData} (F : Fun K "_law_light" "_law_light" sLight f fd) (GF : C8.Cal P w K mg base 2 "_law_fr" spFr []) (GP : C8.Cal P w K mg base 1 "_law_pull" spPull []) : FnOk P w K mg base CX0 3 f fd ["_law_bag_here"] spDraw := by
  refine F.ok scLight (fun vs H Q E h => ?_) (fun cdv A outer s H vs Q E hr h => ?_)
  · obtain ⟨l, b, rfl, _⟩ := h
    rfl
  · obtain ⟨l, b, rfl, B, q⟩ := h
    refine ⟨_, pss_one (ps_ret (C8.pe_c GF hr (by decide) (by rfl) (pa_cons (pe_op op_sub (C8.pe_c GP hr (by decide) (by rfl) (pa_cons (pv 0) (pa_cons pe_int pa_nil))) pe_int)
      (pa_cons (pe_ix ix_list (pe_lst (pa_cons pe_int (pa_cons pe_int (pa_cons pe_int (pa_cons pe_int (pa_cons pe_int (pa_cons pe_int pa_nil))))))) (C8.pe_c GP hr (by decide) (by rfl) (pa_cons (pv 0) (pa_cons pe_int pa_nil))) (fun _ _ => rfl)) pa_nil)))), ?_⟩
    refine ⟨_, rfl, l, b, 9, rfl, by decide, fit8 (n := 4) (by decide) (by decide), B, fun r H1 r0 r1 B1 t1 => ?_⟩
    refine ⟨r, 4, rfl, rfl, (by show 6 ≤ sizeLine; decide), fun o no => ?_⟩
    have B2 := B1.same (same_new (o := .lst [.int 1, .int 1, .int 1, .int 2, .int 3, .int 5]) no)
    refine ⟨_, rfl, l, b, 6, rfl, by decide, fit8 (n := 4) (by decide) (by decide), B2, fun r2 H2 s0 s1 B3 t2 => ?_⟩
    have nob := B1.ne no
    have ho : H2 o = some (.lst [.int 1, .int 1, .int 1, .int 2, .int 3, .int 5]) := by rw [t2 o nob, upd_same]
    have g : Grow b H H2 := t1.grow.trans ((Same.grow (same_new no)).trans t2.grow)
    have pick : ∃ d : Int, atI [V.int 1, V.int 1, V.int 1, V.int 2, V.int 3, V.int 5] r2 = some (.int d) ∧ 0 < d ∧ d ≤ 5 := by
      have : r2 = 0 ∨ r2 = 1 ∨ r2 = 2 ∨ r2 = 3 ∨ r2 = 4 ∨ r2 = 5 := by omega
      rcases this with e | e | e | e | e | e <;> subst e
      · exact ⟨1, rfl, by decide, by decide⟩
      · exact ⟨1, rfl, by decide, by decide⟩
      · exact ⟨1, rfl, by decide, by decide⟩
      · exact ⟨2, rfl, by decide, by decide⟩
      · exact ⟨3, rfl, by decide, by decide⟩
      · exact ⟨5, rfl, by decide, by decide⟩
    obtain ⟨d, hd, d0, d5⟩ := pick
    exact ⟨o, _, r2, _, rfl, rfl, SqL.of ho, hd, draw_end (E := C8.E0) g B3 (Nat.lt_of_le_of_lt (show (r - 4).natAbs ≤ 9 by omega) (by decide)) (Nat.lt_of_le_of_lt (show d.natAbs ≤ 9 by omega) (by decide)) (by omega) q⟩
abbrev sBag : Stmt := topS 60
theorem scBag : FnScope ["_law_script", "_law_salt", "_law_cell"] ["_law_script"] (defScope sBag) := ⟨rfl, rfl, rfl, by decide +kernel, rfl, by decide +kernel, by decide +kernel⟩
/-- a new bag of a script -/
def spBag (K : PySem.W.Frag) : Sp := fun vs H Q _ => ∃ (a : Addr) (ns : List Int), vs = [.ref a] ∧ SqL K H a (ns.map V.int) ∧ ∀ (l b : Addr) (H' : Hp), Same H H' → H b = none → H l = none → Bag l b H' → Q (.ref b) H'
theorem cut63 (ns : List Int) : ∃ ms : List Int, cutV (ns.map V.int) none (some 63) = ms.map V.int := by
  refine ⟨(ns.drop (HT.sIx ns.length 0 none)).take (HT.sIx ns.length ns.length (some 63) - HT.sIx ns.length 0 none), ?_⟩
  unfold cutV
  rw [List.length_map, List.map_take, List.map_drop]
theorem ok_bag {f : Addr} {fd : FuncData} {k : Nat} (F : Fun K "_law_bag" "_law_bag" sBag f fd) (ml : mg "list" = none) : FnOk P w K mg base CX0 (k + 1) f fd ["_law_script"] (spBag K) := by
  refine F.ok scBag (fun vs H Q E h => ?_) (fun cdv A outer s H vs Q E hr h => ?_)
  · obtain ⟨a, ns, rfl, _⟩ := h
    rfl
  · obtain ⟨a, ns, rfl, hS, q⟩ := h
    refine ⟨_, pss_cons (ps_set (i := 1) scBag.nd rfl (.inl rfl) pe_int)
      (pss_cons (ps_for PassesOwn.never rfl (pi_list (pe_slice sl_list (pv 0) po_none (po_some pe_int))) (pg_name (i := 2) scBag.nd rfl (.inl rfl))
        (pss_one (ps_set (i := 1) scBag.nd rfl (.inl rfl) (pe_op op_mod (pe_op op_add (pe_op op_add (pe_op op_mul (pv 1) pe_int) (pe_op op_mod (pv 2) pe_int)) pe_int) pe_int))))
      (pss_one (ps_ret (pe_lst (pa_cons (pe_callTy call_list_of (by rfl) ml (by decide +kernel) (pa_cons (pe_slice sl_list (pv 0) po_none (po_some pe_int)) pa_nil)) (pa_cons pe_int (pa_cons pe_int (pa_cons (pv 1) (pa_cons pe_int pa_nil))))))))), ?_⟩
    obtain ⟨ms, em⟩ := cut63 ns
    refine ⟨_, rfl, 63, rfl, a, _, rfl, hS, fun c nc => ?_⟩
    rw [em]
    have sm : Same H (upd H c (.lst (ms.map V.int))) := same_new nc
    refine ⟨c, rfl, ⟨_, SqL.of upd_same⟩, for_list (K := K) (a := c) (xs := ms.map V.int) (fun i σ H' => ∃ (sa : Int) (y : Option V), σ = [some (.ref a), some (.int sa), y] ∧ 0 ≤ sa ∧ sa < 2147483647 ∧ H' = upd H c (.lst (ms.map V.int))) ⟨9454, none, rfl, by decide, by decide, rfl⟩
      (fun i σ H' _ hP => by obtain ⟨_, _, _, _, _, e⟩ := hP; rw [e]; exact SqL.of upd_same) ?_ ?_⟩
    · rintro i y σ H' hi ⟨sa, y2, rfl, h0, h1, rfl⟩
      obtain ⟨z, rfl⟩ : ∃ z : Int, y = .int z := by
        rw [List.getElem?_map] at hi
        cases e : ms[i]? with
        | none =>
          rw [e] at hi
          cases hi
        | some z =>
          rw [e] at hi
          exact ⟨z, (Option.some.inj hi).symm⟩
      refine ⟨_, rfl, sa, 48611, rfl, rfl, .inr ⟨by decide, by decide⟩, _, rfl, z, 2147483629, rfl, rfl, (by show (0 : Int) < _; decide), _, _, rfl, rfl, _, 23, rfl, rfl, _, 2147483647, rfl, rfl, (by show (0 : Int) < _; decide), ?_⟩
      exact ⟨_, some (.int z), rfl, Int.emod_nonneg _ (by decide), Int.emod_lt_of_pos _ (by decide), rfl⟩
    · rintro σ H' ⟨sa, y2, rfl, h0, h1, rfl⟩
      refine ⟨_, rfl, 63, rfl, a, _, rfl, sm.seq hS, fun c2 nc2 => ?_⟩
      rw [em]
      refine ⟨c2, _, rfl, .inl (SqL.of upd_same), fun l nl => ?_⟩
      refine ⟨_, rfl, (by show 5 ≤ sizeLine; decide), fun b nb => ?_⟩
      have s2 := sm.trans (same_new (o := .lst (ms.map V.int)) nc2)
      have s3 := s2.trans (same_new (o := .lst (ms.map V.int)) nl)
      have s4 := s3.trans (same_new (o := .lst (bagL l 0 0 sa 0)) nb)
      refine q l b _ s4 (s3.free nb) (s2.free nl) ⟨ms, ne_of_none upd_same nb, ?_, ⟨0, 0, sa, 0, upd_same, by decide, by decide, h0, h1⟩⟩
      rw [upd_ne (ne_of_none upd_same nb), upd_same]
end
/-! The law's own comparison: of equal data it tells True. -/
structure Scal (K : PySem.W.Frag) (x : V) : Prop where
  ex : ∃ (t : Value) (b1 b2 b3 : Bool), (∀ H, TyX K H x t) ∧ PySem.W.kitAny K t [.type "list", .type "tuple"] = some false ∧ PySem.W.kitOne K t (.type "bool") = some b1 ∧ PySem.W.kitOne K t (.type "int") = some b2 ∧ PySem.W.kitOne K t (.type "str") = some b3 ∧ scal x x = true
theorem kit2 {K : PySem.W.Frag} {t : String} {a b : String} (h1 : kitB t a = some false) (h2 : kitB t b = some false) : PySem.W.kitAny K (.type t) [.type a, .type b] = some false :=
  kitAny_cons (b := false) (kit_ty h1) (fun _ => kitAny_cons (b := false) (kit_ty h2) (fun _ => kitAny_nil) (fun z => nomatch z)) (fun z => nomatch z)
theorem Scal.int {K : PySem.W.Frag} (i : Int) : Scal K (.int i) := ⟨.type "int", false, true, false, fun _ => .base (.int i), kit2 (by decide +kernel) (by decide +kernel), kit_ty (by decide +kernel), kit_ty (by decide +kernel), kit_ty (by decide +kernel), rfl⟩
theorem Scal.str {K : PySem.W.Frag} (z : Str) : Scal K (.str z) := ⟨.type "str", false, false, true, fun _ => .base (.str z), kit2 (by decide +kernel) (by decide +kernel), kit_ty (by decide +kernel), kit_ty (by decide +kernel), kit_ty (by decide +kernel), rfl⟩
theorem Scal.bl {K : PySem.W.Frag} (b : Bool) : Scal K (.bl b) := ⟨.type "bool", true, true, false, fun _ => .base (.bl b), kit2 (by decide +kernel) (by decide +kernel), kit_ty (by decide +kernel), kit_ty (by decide +kernel), kit_ty (by decide +kernel), rfl⟩
theorem Scal.non {K : PySem.W.Frag} : Scal K .non := ⟨.type "NoneType", false, false, false, fun _ => .base .non, kit2 (by decide +kernel) (by decide +kernel), kit_ty (by decide +kernel), kit_ty (by decide +kernel), kit_ty (by decide +kernel), rfl⟩
/-- x and y are equal data, at most n within one another -/
def Twin (K : PySem.W.Frag) (H : Hp) : Nat → V → V → Prop
  | 0, x, y => x = y ∧ Scal K x
  | n + 1, x, y => (x = y ∧ Scal K x) ∨ ∃ (a b : Addr) (xs ys : List V), x = .ref a ∧ y = .ref b ∧ ((SqL K H a xs ∧ SqL K H b ys) ∨ (SqT K H a xs ∧ SqT K H b ys)) ∧ xs.length = ys.length ∧ ys.length ≤ 1000 ∧ ∀ (i : Nat) (u v : V), xs[i]? = some u → ys[i]? = some v → Twin K H n u v
theorem seqT {K : PySem.W.Frag} {H H' : Hp} {a : Addr} {xs : List V} (e : Same H H') (h : SqT K H a xs) : SqT K H' a xs := by
  rcases h with (h | ⟨o, h⟩) | h
  · exact .inl (.inl (e _ _ h))
  · exact .inl (.inr ⟨o, e _ _ h⟩)
  · exact .inr h
theorem Twin.same {K : PySem.W.Frag} {H H' : Hp} (s : Same H H') : ∀ {n : Nat} {x y : V}, Twin K H n x y → Twin K H' n x y
  | 0, _, _, h => h
  | n + 1, _, _, h => by
    rcases h with h | ⟨a, b, xs, ys, e1, e2, q, l, m, r⟩
    · exact .inl h
    · refine .inr ⟨a, b, xs, ys, e1, e2, ?_, l, m, fun i u v hu hv => (r i u v hu hv).same s⟩
      rcases q with ⟨q1, q2⟩ | ⟨q1, q2⟩
      · exact .inl ⟨s.seq q1, s.seq q2⟩
      · exact .inr ⟨seqT s q1, seqT s q2⟩
theorem Twin.one {K : PySem.W.Frag} {H : Hp} {x : V} (s : Scal K x) : ∀ n : Nat, Twin K H n x x
  | 0 => ⟨rfl, s⟩
  | _ + 1 => .inl ⟨rfl, s⟩
theorem tyL {K : PySem.W.Frag} {H : Hp} {a : Addr} {xs : List V} (h : SqL K H a xs) : TyX K H (.ref a) (.type "list") := by
  rcases h with (h | ⟨o, h⟩) | ⟨o, its, n, h1, h2, _⟩
  · exact .base (.lst h)
  · exact .base (.frz h)
  · exact .kList h1 h2
theorem tyT {K : PySem.W.Frag} {H : Hp} {a : Addr} {xs : List V} (h : SqT K H a xs) : TyX K H (.ref a) (.type "tuple") := by
  rcases h with (h | ⟨o, h⟩) | ⟨o, its, n, h1, h2, _⟩
  · exact .base (.tup h)
  · exact .fTuple h
  · exact .kTuple h1 h2
abbrev sSame : Stmt := topS 63
theorem scSame : FnScope ["_law_found", "_law_due", "_law_k"] ["_law_found", "_law_due"] (defScope sSame) := ⟨rfl, rfl, rfl, by decide +kernel, rfl, by decide +kernel, by decide +kernel⟩
def spSame (K : PySem.W.Frag) (n : Nat) : Sp := fun vs H Q _ => ∃ x y : V, vs = [x, y] ∧ Twin K H n x y ∧ ∀ H', Same H H' → Q (.bl true) H'
/-- the names that the comparison reads stand for the built-in ones -/
structure Blt (mg : Str → Option Value) : Prop where
  isi : mg "isinstance" = none
  lst : mg "list" = none
  tup : mg "tuple" = none
  len : mg "len" = none
  all : mg "all" = none
  rng : mg "range" = none
  bol : mg "bool" = none
  int : mg "int" = none
  str : mg "str" = none
  abs : mg "abs" = none
section
variable {P : Program} {w : World} {K : PySem.W.Frag} {mg : Str → Option Value} {base : Heap}
theorem not_same {b : Bool} {A B : Prop} (h : B) : if (!decide (V.bl b = V.bl b)) = true then A else B := by
  rw [decide_eq_true rfl]
  exact iteF h
theorem yes_if {σ : L2.St} {H : Hp} {A B : Hp → Prop} (h : A H) : tYes σ H fun b H3 => if b = true then A H3 else B H3 := by
  show if true = true then A H else B H
  exact iteT h
theorem ok_same {f : Addr} {fd : FuncData} (F : Fun K "_law_same" "_law_same" sSame f fd) (gf : mg "_law_same" = some (.ref f)) (bf : Binds K fd ["_law_found", "_law_due"] []) (T : Blt mg) :
    ∀ n : Nat, FnOk P w K mg base CX0 (n + 1) f fd ["_law_found", "_law_due"] (spSame K n) := by
  have top : ∀ (n k : Nat), (n = 0 ∨ ∃ m, n = m + 1 ∧ k = m + 1 ∧ FnOk P w K mg base CX0 (m + 1) f fd ["_law_found", "_law_due"] (spSame K m)) → FnOk P w K mg base CX0 (k + 1) f fd ["_law_found", "_law_due"] (spSame K n) := by
    intro n k hn
    -- what the recursion keeps: nothing at depth 0
    have G : ∃ (j : Nat) (sp : Sp), j ≤ k ∧ FnOk P w K mg base CX0 j f fd ["_law_found", "_law_due"] sp ∧ ∀ m, n = m + 1 → sp = spSame K m := by
      rcases hn with e | ⟨m, e, ek, g⟩
      · subst e
        exact ⟨0, fun _ _ _ _ => False, Nat.zero_le _, ⟨fun _ _ _ _ z => z.elim, fun _ _ _ _ _ _ _ _ _ _ _ _ _ z => z.elim⟩, fun m z => nomatch z⟩
      · exact ⟨m + 1, spSame K m, by omega, g, fun m' z => by rw [e] at z; cases z; rfl⟩
    obtain ⟨j, sp, hj, g, hsp⟩ := G
    refine F.ok scSame (fun vs H Q E h => ?_) (fun cdv A outer s H vs Q E hr h => ?_)
    · obtain ⟨x, y, rfl, _⟩ := h
      rfl
    · obtain ⟨x, y, rfl, tw, q⟩ := h
      refine ⟨_, pss_cons (ps_if (pt_val (pe_callB call_isiT (by rfl) T.isi (by decide +kernel) (pa_cons (pv 1) (pa_cons (pe_tup (pa_cons (pe_bltn (v := .ty "list") (by rfl) T.lst (by decide +kernel) rfl) (pa_cons (pe_bltn (v := .ty "tuple") (by rfl) T.tup (by decide +kernel) rfl) pa_nil))) pa_nil))))
          (pss_cons (ps_if (PW.pt (pw_or (pt_cmpR op_ne (pe_callB call_isi (by rfl) T.isi (by decide +kernel) (pa_cons (pv 0) (pa_cons (pe_bltn (v := .ty "list") (by rfl) T.lst (by decide +kernel) rfl) pa_nil))) (pe_callB call_isi (by rfl) T.isi (by decide +kernel) (pa_cons (pv 1) (pa_cons (pe_bltn (v := .ty "list") (by rfl) T.lst (by decide +kernel) rfl) pa_nil))) (nomark _))
              (pw_or1 (pt_cmpR op_ne (pe_callB call_isi (by rfl) T.isi (by decide +kernel) (pa_cons (pv 0) (pa_cons (pe_bltn (v := .ty "tuple") (by rfl) T.tup (by decide +kernel) rfl) pa_nil))) (pe_callB call_isi (by rfl) T.isi (by decide +kernel) (pa_cons (pv 1) (pa_cons (pe_bltn (v := .ty "tuple") (by rfl) T.tup (by decide +kernel) rfl) pa_nil))) (nomark _))))) (pss_one (ps_ret pe_bl)) pss_nil)
          (pss_one (ps_ret (pe_and (pe_cmpR op_eq (pe_callB call_len_seq (by rfl) T.len PySem.boot_len (pa_cons (pv 0) pa_nil)) (pe_callB call_len_seq (by rfl) T.len PySem.boot_len (pa_cons (pv 1) pa_nil)) (nomark _))
            (pe_one (pe_callB (cr_all rfl) (by rfl) T.all (by decide +kernel) (pa_cons (pe_lc (own := [("_law_k", 2)]) (g := gName 2) (tt := tYes) rfl scSame.nd (pi_range1 (by rfl) T.rng (pa_cons (pe_callB call_len_seq (by rfl) T.len PySem.boot_len (pa_cons (pv 1) pa_nil)) pa_nil))
              (blkOk_by (N := ["_law_found", "_law_due", "_law_k"]) (sc := defScope sSame) (by decide +kernel)) (fun _ _ _ _ _ => pg_name (i := 2) scSame.nd rfl (Or.inl rfl)) (fun _ _ _ _ _ => pts_nil)
              (fun _ _ _ _ _ => pe_call g (hr.mono hj) (by rfl) gf F.kp bf .nil pass0 (pa_cons (pe_ix (r := rIx K) ix_seq (pv 0) (pv 2) (fun _ _ => rfl)) (pa_cons (pe_ix (r := rIx K) ix_seq (pv 1) (pv 2) (fun _ _ => rfl)) pa_nil)))) pa_nil))))))) pss_nil)
        (pss_cons (ps_if (PW.pt (pw_or (pt_cmpR op_isN (pv 1) pe_non (nomark _)) (pw_or1 (pt_cmpR op_isN (pv 0) pe_non (nomark _))))) (pss_one (ps_ret (pe_and (pe_cmpR op_isN (pv 0) pe_non (nomark _)) (pe_one (pe_cmpR op_isN (pv 1) pe_non (nomark _)))))) pss_nil)
        (pss_cons (ps_if (PW.pt (pw_or (pt_cmpR op_ne (pe_callB call_isi (by rfl) T.isi (by decide +kernel) (pa_cons (pv 1) (pa_cons (pe_bltn (v := .ty "bool") (by rfl) T.bol (by decide +kernel) rfl) pa_nil))) (pe_callB call_isi (by rfl) T.isi (by decide +kernel) (pa_cons (pv 0) (pa_cons (pe_bltn (v := .ty "bool") (by rfl) T.bol (by decide +kernel) rfl) pa_nil))) (nomark _))
              (pw_or1 (pt_cmpR op_ne (pe_callB call_isi (by rfl) T.isi (by decide +kernel) (pa_cons (pv 1) (pa_cons (pe_bltn (v := .ty "int") (by rfl) T.int (by decide +kernel) rfl) pa_nil))) (pe_callB call_isi (by rfl) T.isi (by decide +kernel) (pa_cons (pv 0) (pa_cons (pe_bltn (v := .ty "int") (by rfl) T.int (by decide +kernel) rfl) pa_nil))) (nomark _))))) (pss_one (ps_ret pe_bl)) pss_nil)
        (pss_one (ps_ret (pe_and (pe_cmpR op_eq (pe_callB call_isi (by rfl) T.isi (by decide +kernel) (pa_cons (pv 1) (pa_cons (pe_bltn (v := .ty "str") (by rfl) T.str (by decide +kernel) rfl) pa_nil))) (pe_callB call_isi (by rfl) T.isi (by decide +kernel) (pa_cons (pv 0) (pa_cons (pe_bltn (v := .ty "str") (by rfl) T.str (by decide +kernel) rfl) pa_nil))) (nomark _))
            (pe_one (pe_cmpR op_eq (pv 0) (pv 1) (nomark _)))))))), ?_⟩
      refine ⟨_, rfl, (by show 2 ≤ sizeLine; decide), fun c nc => ?_⟩
      have sm : Same H (upd H c (.tup [.ty "list", .ty "tuple"])) := same_new nc
      have lt : Paired ClsV [V.ty "list", V.ty "tuple"] [.type "list", .type "tuple"] := .cons (.ty _) (.cons (.ty _) .nil)
      by_cases hs : x = y ∧ Scal K x
      · obtain ⟨rfl, ⟨t, b1, b2, b3, ty, k0, k1, k2, k3, ks⟩⟩ := hs
        refine ⟨x, c, _, t, _, false, rfl, upd_same, lt, ty _, k0, _, rfl, iteF ?_⟩
        refine ⟨_, rfl, rfl, _, rfl, ite2 (fun e => ?_) (fun e => ?_)⟩
        · have en : x = .non := of_decide_eq_true e
          subst en
          refine iteT ⟨_, rfl, rfl, _, rfl, iteT ⟨_, rfl, rfl, ?_⟩⟩
          exact q _ sm
        · refine ⟨_, rfl, rfl, _, rfl, ?_⟩
          rw [eq_false_of_ne_true e]
          refine iteF ?_
          refine ⟨_, rfl, x, _, t, _, b1, rfl, .ty _, ty _, k1, _, rfl, x, _, t, _, b1, rfl, .ty _, ty _, k1, rfl, _, rfl, not_same ?_⟩
          refine ⟨_, rfl, x, _, t, _, b2, rfl, .ty _, ty _, k2, _, rfl, x, _, t, _, b2, rfl, .ty _, ty _, k2, rfl, _, rfl, not_same ?_⟩
          refine ⟨_, rfl, x, _, t, _, b3, rfl, .ty _, ty _, k3, _, rfl, x, _, t, _, b3, rfl, .ty _, ty _, k3, rfl, _, rfl, ?_⟩
          rw [decide_eq_true rfl]
          refine iteT ⟨_, rfl, _, rfl, ks, ?_⟩
          rw [decide_eq_true rfl]
          exact q _ sm
      · cases n with
        | zero => exact absurd tw hs
        | succ m =>
          have esp := hsp m rfl
          subst esp
          rcases tw with tw | ⟨a, b, xs, ys, rfl, rfl, kd, hl, hl2, r⟩
          · exact absurd tw hs
          · have kd' : ∀ H', Same H H' → (SqL K H' a xs ∧ SqL K H' b ys) ∨ (SqT K H' a xs ∧ SqT K H' b ys) := fun H' z => by
              rcases kd with ⟨q1, q2⟩ | ⟨q1, q2⟩
              · exact .inl ⟨z.seq q1, z.seq q2⟩
              · exact .inr ⟨seqT z q1, seqT z q2⟩
            have tys : ∃ (t : Value) (b1 b2 : Bool), (∀ H', Same H H' → TyX K H' (.ref a) t ∧ TyX K H' (.ref b) t) ∧ PySem.W.kitAny K t [.type "list", .type "tuple"] = some true ∧ PySem.W.kitOne K t (.type "list") = some b1 ∧ PySem.W.kitOne K t (.type "tuple") = some b2 := by
              rcases kd with ⟨q1, q2⟩ | ⟨q1, q2⟩
              · exact ⟨.type "list", true, false, fun H' z => ⟨tyL (z.seq q1), tyL (z.seq q2)⟩, kitAny_cons (b := true) (kit_ty (by decide +kernel)) (fun z => nomatch z) (fun _ => rfl), kit_ty (by decide +kernel), kit_ty (by decide +kernel)⟩
              · exact ⟨.type "tuple", false, true, fun H' z => ⟨tyT (seqT z q1), tyT (seqT z q2)⟩, kitAny_cons (b := false) (kit_ty (by decide +kernel)) (fun _ => kitAny_cons (b := true) (kit_ty (by decide +kernel)) (fun z => nomatch z) (fun _ => rfl)) (fun z => nomatch z), kit_ty (by decide +kernel), kit_ty (by decide +kernel)⟩
            obtain ⟨t, b1, b2, ty, k0, k1, k2⟩ := tys
            have ls : ∀ H', Same H H' → (SqL K H' a xs ∨ SqT K H' a xs) ∧ (SqL K H' b ys ∨ SqT K H' b ys) := fun H' z => by
              rcases kd' H' z with ⟨q1, q2⟩ | ⟨q1, q2⟩
              · exact ⟨.inl q1, .inl q2⟩
              · exact ⟨.inr q1, .inr q2⟩
            have ixs : ∀ (H' : Hp), Same H H' → ∀ (zs : List V) (z : Addr) (i : Nat) (v : V) (Q' : VK), (SqL K H' z zs ∨ SqT K H' z zs) → zs[i]? = some v → Q' v H' → rIx K (.ref z) (.int (0 + (i : Int))) H' Q' := fun H' _ zs z i v Q' hz hv hq => by
              have e : (0 : Int) + (i : Int) = (i : Int) := Int.zero_add _
              rw [e]
              rcases hz with hz | hz
              · exact .inl ⟨z, zs, i, v, rfl, rfl, hz, atI_nat hv, hq⟩
              · exact .inr (.inl ⟨z, zs, i, v, rfl, rfl, hz, atI_nat hv, hq⟩)
            refine ⟨_, c, _, t, _, true, rfl, upd_same, lt, (ty _ sm).2, k0, _, rfl, iteT ?_⟩
            refine ⟨_, rfl, _, _, t, _, b1, rfl, .ty _, (ty _ sm).1, k1, _, rfl, _, _, t, _, b1, rfl, .ty _, (ty _ sm).2, k1, rfl, _, rfl, not_same ?_⟩
            refine ⟨_, rfl, _, _, t, _, b2, rfl, .ty _, (ty _ sm).1, k2, _, rfl, _, _, t, _, b2, rfl, .ty _, (ty _ sm).2, k2, rfl, _, rfl, not_same ?_⟩
            refine ⟨_, rfl, a, xs, rfl, (ls _ sm).1, _, rfl, b, ys, rfl, (ls _ sm).2, rfl, _, rfl, ?_⟩
            rw [hl, decide_eq_true rfl]
            refine iteT ⟨_, rfl, b, ys, rfl, (ls _ sm).2, (ys.length : Int), rfl, by omega, by omega, fun D hD => ?_⟩
            have sD := sm.trans (same_new (o := .lst []) hD)
            refine lc_range (lo := 0) (n := (ys.length : Int).toNat) (fun i H' => Same H H' ∧ H D = none ∧ H' D = some (.lst ((List.replicate i true).map V.bl))) ⟨sD, sm.free hD, upd_same⟩ (fun i H' hi hP => ?_) (fun H' hP => ?_)
            · obtain ⟨s1, nD, eD⟩ := hP
              have hi' : i < ys.length := by omega
              have hx : xs[i]? = some (xs[i]'(by omega)) := List.getElem?_eq_getElem (by omega)
              have hy : ys[i]? = some ys[i] := List.getElem?_eq_getElem hi'
              refine ⟨rfl, yes_if ?_⟩
              refine ⟨_, rfl, _, rfl, ixs H' s1 xs a i _ _ (ls _ s1).1 hx ⟨_, rfl, _, rfl, ixs H' s1 ys b i _ _ (ls _ s1).2 hy ⟨_, _, rfl, (r i _ _ hx hy).same s1, fun H2 s2 => ?_⟩⟩⟩
              refine ⟨_, s2 _ _ eD, ?_, ?_, nD, ?_⟩
              · rw [List.length_map, List.length_replicate]
                exact small1000 (by omega)
              · exact fun z o hz => by
                  rw [upd_ne (ne_of_none hz nD)]
                  exact s2 _ _ (s1 _ _ hz)
              · rw [upd_same, List.replicate_succ', List.map_append]
                rfl
            · obtain ⟨s1, nD, eD⟩ := hP
              refine ⟨D, List.replicate (ys.length : Int).toNat true, rfl, SqL.of eD, ?_⟩
              have e : (List.replicate (ys.length : Int).toNat true).all id = true := by
                rw [List.all_replicate]
                split <;> rfl
              rw [e]
              exact q _ s1
  intro n
  induction n with
  | zero => exact top 0 0 (.inl rfl)
  | succ m ih => exact top (m + 1) (m + 1) (.inr ⟨m, rfl, rfl, ih⟩)
end
open LamX
/-- keep, behind a statement -/
theorem keepN {a b : TS} {D : Ends} {rt : VK} {bk ct : L2.St → Hp → Prop} {σ : L2.St} {H : Hp} (M : L2.St → Hp → Prop) (h : ∀ σ' H', M σ' H' → b D σ' H') (k : (∀ σ' H', M σ' H' → b D σ' H') → a { D with nx := b D } σ H) : Ends.nx { nx := tSeq a b D, rt := rt, bk := bk, ct := ct } σ H := k h
/-- the bag and the tables of code objects stand -/
structure Ok (l b : Addr) (T : List (Addr × Str)) (H : Hp) : Prop where
  bag : Bag l b H
  tab : Tabs T H
theorem tabs_lst {D : Addr} {xs : List V} {T : List (Addr × Str)} {H H' : Hp} (hD : H D = some (.lst xs)) (t : Tabs T H) (g : Grow D H H') : Tabs T H' := fun p hp => by
  obtain ⟨ps, h1, h2, h3⟩ := t p hp
  refine ⟨ps, g _ _ (fun z => ?_) h1, h2, fun pos cv hc => ?_⟩
  · rw [z, hD] at h1
    cases h1
  · obtain ⟨c, e1, e2⟩ := h3 pos cv hc
    refine ⟨c, e1, g _ _ (fun z => ?_) e2⟩
    rw [z, hD] at e2
    have e3 := Option.some.inj e2
    unfold CodeO at e3
    cases e3
theorem tabs_grow {l b : Addr} {T : List (Addr × Str)} {H H' : Hp} (B : Bag l b H) (t : Tabs T H) (g : Grow b H H') : Tabs T H' := by
  obtain ⟨ns, _, _, ⟨i, j, s, n, hb, _⟩⟩ := B
  exact tabs_lst hb t g
theorem Ok.grow {l b : Addr} {T : List (Addr × Str)} {H H' : Hp} (o : Ok l b T H) (g : Grow b H H') (B : Bag l b H') : Ok l b T H' := ⟨B, tabs_grow o.bag o.tab g⟩
theorem Ok.same {l b : Addr} {T : List (Addr × Str)} {H H' : Hp} (o : Ok l b T H) (s : Same H H') : Ok l b T H' := ⟨o.bag.same s, o.tab.ext s⟩
theorem Ok.ext {l b : Addr} {T : List (Addr × Str)} {H H' : Hp} (o : Ok l b T H) (e : ExtN H H') (t : Tabs T H') : Ok l b T H' := by
  obtain ⟨ns, nl, hl, ⟨i, j, s, n, hb, r⟩⟩ := o.bag
  exact ⟨⟨ns, nl, e _ _ hl (fun _ z => nomatch z), ⟨i, j, s, n, e _ _ hb (fun _ z => nomatch z), r⟩⟩, t⟩
/-- a list that is being built stands beside the bag -/
theorem Bag.beside {l b D : Addr} {H : Hp} {o : HO} (B : Bag l b H) (n1 : D ≠ b) (n2 : D ≠ l) : Bag l b (upd H D o) := by
  obtain ⟨ns, nl, hl, ⟨i, j, s, n, hb, r⟩⟩ := B
  exact ⟨ns, nl, by rw [upd_ne n2.symm]; exact hl, ⟨i, j, s, n, by rw [upd_ne n1.symm]; exact hb, r⟩⟩
theorem Bag.neL {l b p : Addr} {H : Hp} (B : Bag l b H) (h : H p = none) : p ≠ l := fun z => by
  obtain ⟨ns, nl, hl, _⟩ := B
  rw [z, hl] at h
  cases h
def shV (t b : Int) : HO := .tup [.int t, .int b]
theorem twin_sh {K : PySem.W.Frag} {H : Hp} {p q : Addr} {t b : Int} (hp : H p = some (shV t b)) (hq : H q = some (shV t b)) : Twin K H 1 (.ref p) (.ref q) :=
  .inr ⟨p, q, _, _, rfl, rfl, .inr ⟨SqT.of hp, SqT.of hq⟩, rfl, (by show 2 ≤ 1000; decide), fun i u v hu hv => by
    have e : u = v := Option.some.inj (hu.symm.trans hv)
    subst e
    match i with
    | 0 => cases hu; exact ⟨rfl, Scal.int t⟩
    | 1 => cases hu; exact ⟨rfl, Scal.int b⟩
    | i + 2 => cases hu⟩
theorem Twin.up {K : PySem.W.Frag} {H : Hp} : ∀ {n : Nat} {x y : V}, Twin K H n x y → Twin K H (n + 1) x y
  | 0, _, _, h => .inl h
  | n + 1, _, _, h => by
    rcases h with h | ⟨a, b, xs, ys, e1, e2, q, l, m, r⟩
    · exact .inl h
    · exact .inr ⟨a, b, xs, ys, e1, e2, q, l, m, fun i u v hu hv => (r i u v hu hv).up⟩
theorem paired_at {R : V → V → Prop} : ∀ {xs ys : List V}, Paired R xs ys → ∀ (i : Nat) (u v : V), xs[i]? = some u → ys[i]? = some v → R u v
  | _, _, .nil, _, _, _, hu, _ => by cases hu
  | _, _, .cons h _, 0, _, _, hu, hv => by cases hu; cases hv; exact h
  | _, _, .cons _ r, i + 1, u, v, hu, hv => paired_at r i u v hu hv
/-- lists or tuples item by item -/
theorem twin_all {K : PySem.W.Frag} {H : Hp} {n : Nat} {a b : Addr} {xs ys : List V} (h : (SqL K H a xs ∧ SqL K H b ys) ∨ (SqT K H a xs ∧ SqT K H b ys)) (l : ys.length ≤ 1000) (r : Paired (Twin K H n) xs ys) : Twin K H (n + 1) (.ref a) (.ref b) :=
  .inr ⟨a, b, xs, ys, rfl, rfl, h, Paired.length r, l, paired_at r⟩
end Nv

set_option maxRecDepth 100000
set_option maxHeartbeats 4000000
/-! Reckonings as they stand in memory. -/
namespace Nv
open PySem PySem.Spec PyProof.Rows L2
inductive Op where
  | plus | less | times
  deriving DecidableEq
def Op.word : Op → Str
  | .plus => "plus"
  | .less => "less"
  | .times => "times"
/-- a reckoning with the addresses of its tuples -/
inductive AT where
  | sh (p q : Addr) (t b : Int)
  | le (p : Addr) (x : Str)
  | two (p : Addr) (o : Op) (A B : AT)
  | un (p : Addr) (A : AT)
def AT.at_ : AT → Addr
  | .sh p _ _ _ => p
  | .le p _ => p
  | .two p _ _ _ => p
  | .un p _ => p
def AT.v (T : AT) : V := .ref T.at_
def AT.word : AT → Str
  | .sh _ _ _ _ => "share"
  | .le _ _ => "letter"
  | .two _ o _ _ => o.word
  | .un _ _ => "undo"
def AT.kids : AT → List AT
  | .sh _ _ _ _ => []
  | .le _ _ => []
  | .two _ _ A B => [A, B]
  | .un _ A => [A]
/-- what stands in its tuple behind the word -/
def AT.rest : AT → List V
  | .sh _ q _ _ => [.ref q]
  | .le _ x => [.str x]
  | .two _ _ A B => [A.v, B.v]
  | .un _ A => [A.v]
def AT.items (T : AT) : List V := .str T.word :: T.rest
/-- its tuples stand so -/
def AT.In (H : Hp) : AT → Prop
  | .sh p q t b => H p = some (.tup [.str "share", .ref q]) ∧ H q = some (.tup [.int t, .int b])
  | .le p x => H p = some (.tup [.str "letter", .str x])
  | .two p o A B => H p = some (.tup [.str o.word, A.v, B.v]) ∧ A.In H ∧ B.In H
  | .un p A => H p = some (.tup [.str "undo", A.v]) ∧ A.In H
def AT.parts : AT → List AT
  | .two p o A B => .two p o A B :: (A.parts ++ B.parts)
  | .un p A => .un p A :: A.parts
  | T => [T]
def AT.count : AT → Nat
  | .two _ _ A B => 1 + A.count + B.count
  | .un _ A => 1 + A.count
  | _ => 1
def AT.deep : AT → Nat
  | .two _ _ A B => max A.deep B.deep
  | .un _ A => A.deep + 1
  | _ => 0
/-- its letters, by places -/
def AT.lets : AT → List Str
  | .le _ x => [x]
  | .two _ _ A B => A.lets ++ B.lets
  | .un _ A => A.lets
  | _ => []
def AT.undos : AT → Nat → List Nat
  | .two _ _ A B, n => A.undos (n + 1) ++ B.undos (n + 1 + A.count)
  | .un _ A, n => A.undos (n + 1) ++ [n]
  | _, _ => []
/-- a letter is a text of 1 to 6 small letters -/
structure Small (x : Str) : Prop where
  lo : 1 ≤ x.length
  hi : x.length ≤ 6
  all : ∀ c ∈ x.cps.toList, c ∈ (Str.ofString "abcdefghijklmnopqrstuvwxyz").cps.toList
structure ShOk (t b : Int) : Prop where
  top : t.natAbs < 10 ^ 12
  bot : b < 10 ^ 12
  pos : 1 ≤ b
  low : Int.gcd t b = 1
/-- its shares and letters are such -/
def AT.Ok : AT → Prop
  | .sh _ _ t b => ShOk t b
  | .le _ x => Small x
  | .two _ _ A B => A.Ok ∧ B.Ok
  | .un _ A => A.Ok
/-- tuples stay -/
def TupKeep (H H' : Hp) : Prop := ∀ a xs, H a = some (.tup xs) → H' a = some (.tup xs)
theorem TupKeep.refl (H : Hp) : TupKeep H H := fun _ _ h => h
theorem TupKeep.trans {H H1 H2 : Hp} (x : TupKeep H H1) (y : TupKeep H1 H2) : TupKeep H H2 := fun a xs h => y a xs (x a xs h)
theorem Same.tk {H H' : Hp} (s : Same H H') : TupKeep H H' := fun a xs h => s a _ h
theorem tk_new {H : Hp} {p : Addr} {o : HO} (h : H p = none) : TupKeep H (upd H p o) := fun a xs e => by
  rw [upd_ne (ne_of_none e h)]
  exact e
/-- a list is stored to -/
theorem tk_lst {H : Hp} {p : Addr} {ys : List V} {o : HO} (h : H p = some (.lst ys)) : TupKeep H (upd H p o) := fun a xs e => by
  rw [upd_ne (fun z => by rw [z, h] at e; cases e)]
  exact e
theorem AT.In.keep {H H' : Hp} (k : TupKeep H H') : ∀ {T : AT}, T.In H → T.In H'
  | .sh _ _ _ _, h => ⟨k _ _ h.1, k _ _ h.2⟩
  | .le _ _, h => k _ _ h
  | .two _ _ _ _, h => ⟨k _ _ h.1, h.2.1.keep k, h.2.2.keep k⟩
  | .un _ _, h => ⟨k _ _ h.1, h.2.keep k⟩
theorem AT.In.tup {H : Hp} : ∀ {T : AT}, T.In H → H T.at_ = some (.tup T.items)
  | .sh _ _ _ _, h => h.1
  | .le _ _, h => h
  | .two _ _ _ _, h => h.1
  | .un _ _, h => h.1
theorem AT.In.kid {H : Hp} : ∀ {T : AT}, T.In H → ∀ A ∈ T.kids, A.In H
  | .sh _ _ _ _, _, _, hA => nomatch hA
  | .le _ _, _, _, hA => nomatch hA
  | .two _ _ _ _, h, A, hA => by
    rcases List.mem_cons.mp hA with e | e
    · rw [e]; exact h.2.1
    · rw [List.mem_singleton.mp e]; exact h.2.2
  | .un _ _, h, A, hA => by rw [List.mem_singleton.mp hA]; exact h.2
theorem AT.Ok.kid : ∀ {T : AT}, T.Ok → ∀ A ∈ T.kids, A.Ok
  | .sh _ _ _ _, _, _, hA => nomatch hA
  | .le _ _, _, _, hA => nomatch hA
  | .two _ _ _ _, h, A, hA => by
    rcases List.mem_cons.mp hA with e | e
    · rw [e]; exact h.1
    · rw [List.mem_singleton.mp e]; exact h.2
  | .un _ _, h, A, hA => by rw [List.mem_singleton.mp hA]; exact h
theorem AT.count_pos : ∀ T : AT, 1 ≤ T.count
  | .sh _ _ _ _ => Nat.le_refl _
  | .le _ _ => Nat.le_refl _
  | .two _ _ A B => by show 1 ≤ 1 + A.count + B.count; omega
  | .un _ A => by show 1 ≤ 1 + A.count; omega
theorem AT.parts_len : ∀ T : AT, T.parts.length = T.count
  | .sh _ _ _ _ => rfl
  | .le _ _ => rfl
  | .two _ _ A B => by
    show (A.parts ++ B.parts).length + 1 = 1 + A.count + B.count
    rw [List.length_append, A.parts_len, B.parts_len]
    omega
  | .un _ A => by
    show A.parts.length + 1 = 1 + A.count
    rw [A.parts_len]
    omega
theorem AT.parts_eq : ∀ T : AT, T.parts = T :: (T.kids.map AT.parts).flatten
  | .sh _ _ _ _ => rfl
  | .le _ _ => rfl
  | .two _ _ A B => by simp [AT.parts, AT.kids]
  | .un _ A => by simp [AT.parts, AT.kids]
theorem AT.count_eq : ∀ T : AT, T.count = 1 + (T.kids.map AT.count).sum
  | .sh _ _ _ _ => rfl
  | .le _ _ => rfl
  | .two _ _ A B => by simp [AT.count, AT.kids]; omega
  | .un _ A => by simp [AT.count, AT.kids]
theorem AT.kid_count : ∀ {T A : AT}, A ∈ T.kids → A.count < T.count
  | .sh _ _ _ _, _, h => nomatch h
  | .le _ _, _, h => nomatch h
  | .two _ _ A B, C, h => by
    show C.count < 1 + A.count + B.count
    rcases List.mem_cons.mp h with e | e
    · rw [e]; omega
    · rw [List.mem_singleton.mp e]; omega
  | .un _ A, C, h => by
    show C.count < 1 + A.count
    rw [List.mem_singleton.mp h]
    omega
theorem AT.In.parts {H : Hp} : ∀ {T : AT}, T.In H → ∀ A ∈ T.parts, A.In H
  | .sh _ _ _ _, h, A, hA => by rw [List.mem_singleton.mp hA]; exact h
  | .le _ _, h, A, hA => by rw [List.mem_singleton.mp hA]; exact h
  | .two _ _ _ _, h, A, hA => by
    rcases List.mem_cons.mp hA with e | e
    · rw [e]; exact h
    · rcases List.mem_append.mp e with e | e
      · exact h.2.1.parts A e
      · exact h.2.2.parts A e
  | .un _ _, h, A, hA => by
    rcases List.mem_cons.mp hA with e | e
    · rw [e]; exact h
    · exact h.2.parts A e
theorem AT.kids_len : ∀ T : AT, T.kids.length ≤ 2
  | .sh _ _ _ _ => Nat.zero_le _
  | .le _ _ => Nat.zero_le _
  | .two _ _ _ _ => Nat.le_refl _
  | .un _ _ => by show 1 ≤ 2; omega
/-- the letters, by the parts -/
theorem AT.lets_parts : ∀ T : AT, T.lets = (T.parts.filterMap fun A => match A with | .le _ x => some x | _ => none)
  | .sh _ _ _ _ => rfl
  | .le _ _ => rfl
  | .two p o A B => by
    show A.lets ++ B.lets = _
    rw [A.lets_parts, B.lets_parts]
    show _ = (List.filterMap _ (AT.two p o A B :: (A.parts ++ B.parts)))
    rw [List.filterMap_cons_none rfl, List.filterMap_append]
  | .un p A => by
    show A.lets = _
    rw [A.lets_parts]
    show _ = (List.filterMap _ (AT.un p A :: A.parts))
    rw [List.filterMap_cons_none rfl]
end Nv

set_option maxRecDepth 100000
set_option maxHeartbeats 4000000
namespace Nv
open PySem PySem.Spec PyProof.Rows L2 NvSet LamX
theorem ifP {p : Prop} [Decidable p] {A B : Prop} (hp : p) (h : A) : if decide p = true then A else B := by rw [decide_eq_true hp]; exact iteT h
theorem ifN {p : Prop} [Decidable p] {A B : Prop} (hp : ¬ p) (h : B) : if decide p = true then A else B := by rw [decide_eq_false hp]; exact iteF h
theorem ifNP {p : Prop} [Decidable p] {A B : Prop} (hp : p) (h : B) : if (!decide p) = true then A else B := by rw [decide_eq_true hp]; exact iteF h
theorem ifNN {p : Prop} [Decidable p] {A B : Prop} (hp : ¬ p) (h : A) : if (!decide p) = true then A else B := by rw [decide_eq_false hp]; exact iteT h
theorem same_upd {H H' : Hp} {p : Addr} {o : HO} (s : Same H H') (h : H p = none) : Same H (upd H' p o) := fun a x e => by
  rw [upd_ne (ne_of_none e h)]
  exact s a x e
theorem upd_grow {H : Hp} {D : Addr} {o : HO} : Grow D H (upd H D o) := fun a x n h => by rw [upd_ne n]; exact h
/-- loops of any kind -/
theorem lc_any {J : It} {n : Nat} {G : Hp → Prop} {Y : Nat → Hp → V → Hp → Prop} (w : Walk J n G Y) {Bd : (Hp → Prop) → V → Hp → Prop} {H1 : Hp} {Qd : Hp → Prop} (Pv : Nat → Hp → Prop) (h0 : Pv 0 H1) (hG : ∀ i H, i ≤ n → Pv i H → G H)
    (hs : ∀ i x H H', i < n → Pv i H → Y i H x H' → Bd (Pv (i + 1)) x H') (hd : ∀ H, Pv n H → Qd H) :
    ∃ W : Nat → Nat → Hp → Prop, (∃ m, W 0 m H1) ∧ ∀ i m H, W i m H →
      (J.stop i H ∧ Qd H) ∨ (J.go i H ∧ ∃ Nx : Hp → Prop, (∀ H', Nx H' → ∃ m', m' < m ∧ W (i + 1) m' H') ∧ ∀ x H', J.yld i H x H' → Bd Nx x H') := by
  refine ⟨fun i m H => m = n - i ∧ i ≤ n ∧ Pv i H, ⟨n, by simp, Nat.zero_le _, h0⟩, ?_⟩
  rintro i m H ⟨rfl, hi, p⟩
  have q := hG i H hi p
  by_cases hlt : i < n
  · exact .inr ⟨w.goes i H hlt q, Pv (i + 1), fun H' p' => ⟨n - (i + 1), by omega, rfl, hlt, p'⟩, fun x H' y => hs i x H H' hlt p (w.yields i H x H' hlt q y)⟩
  · have e : i = n := by omega
    subst e
    exact .inl ⟨w.stops H q, hd H p⟩
theorem pimp {α β : Type} {R S : α → β → Prop} (h : ∀ a b, R a b → S a b) : ∀ {xs : List α} {ys : List β}, Paired R xs ys → Paired S xs ys
  | _, _, .nil => .nil
  | _, _, .cons a t => .cons (h _ _ a) (pimp h t)
theorem psnoc {α β : Type} {R : α → β → Prop} {x : α} {y : β} (h : R x y) : ∀ {xs : List α} {ys : List β}, Paired R xs ys → Paired R (xs ++ [x]) (ys ++ [y])
  | _, _, .nil => .cons h .nil
  | _, _, .cons a t => .cons a (psnoc h t)
theorem pappend {α β : Type} {R : α → β → Prop} : ∀ {xs : List α} {ys : List β} {xs' : List α} {ys' : List β}, Paired R xs ys → Paired R xs' ys' → Paired R (xs ++ xs') (ys ++ ys')
  | _, _, _, _, .nil, h => h
  | _, _, _, _, .cons a t, h => .cons a (pappend t h)
/-! shares -/
def ShS (K : PySem.W.Frag) (H : Hp) (v : V) (x : Int × Int) : Prop := ∃ p, v = .ref p ∧ SqT K H p [.int x.1, .int x.2]
theorem ShS.same {K : PySem.W.Frag} {H H' : Hp} (s : Same H H') {v : V} {x : Int × Int} (h : ShS K H v x) : ShS K H' v x := by
  obtain ⟨p, e, hp⟩ := h
  exact ⟨p, e, seqT s hp⟩
theorem sqT_tk {K : PySem.W.Frag} {H H' : Hp} (k : TupKeep H H') (z : ∀ a o u, H a = some (.frz o u) → H' a = some (.frz o u)) {a : Addr} {xs : List V} (h : SqT K H a xs) : SqT K H' a xs := by
  rcases h with (h | ⟨o, h⟩) | h
  · exact .inl (.inl (k _ _ h))
  · exact .inl (.inr ⟨o, z _ _ _ h⟩)
  · exact .inr h
/-- light shares -/
structure Lt (x : Int × Int) : Prop where
  pos : 0 < x.2
  dvd : x.2 ∣ 30
  top : x.1.natAbs < 2 ^ 14
theorem lt01 : Lt (0, 1) := ⟨by decide, ⟨30, rfl⟩, by decide⟩
theorem lt11 : Lt (1, 1) := ⟨by decide, ⟨30, rfl⟩, by decide⟩
def lcS (c b : Int) : Int := c.fdiv (Int.gcd c b : Int) * b
theorem lcS_ok {c b : Int} (hc : 0 < c) (hb : 0 < b) (dc : c ∣ 30) (db : b ∣ 30) : 0 < lcS c b ∧ lcS c b ∣ 30 := by
  obtain ⟨n, rfl⟩ := Int.eq_ofNat_of_zero_le (Int.le_of_lt hc)
  obtain ⟨m, rfl⟩ := Int.eq_ofNat_of_zero_le (Int.le_of_lt hb)
  have e : lcS (n : Int) (m : Int) = ((Nat.lcm n m : Nat) : Int) := by
    unfold lcS
    have g : Int.gcd (n : Int) (m : Int) = Nat.gcd n m := rfl
    rw [g, Int.fdiv_eq_ediv_of_nonneg _ (by omega)]
    have : ((n : Int) / ((Nat.gcd n m : Nat) : Int)) = ((n / Nat.gcd n m : Nat) : Int) := (Int.natCast_ediv n (Nat.gcd n m)).symm
    rw [this, ← Int.natCast_mul]
    congr 1
    unfold Nat.lcm
    exact (Nat.div_mul_right_comm (Nat.gcd_dvd_left n m) m)
  have d1 : n ∣ 30 := by
    have : ((n : Nat) : Int) ∣ ((30 : Nat) : Int) := dc
    exact Int.natCast_dvd_natCast.mp this
  have d2 : m ∣ 30 := by
    have : ((m : Nat) : Int) ∣ ((30 : Nat) : Int) := db
    exact Int.natCast_dvd_natCast.mp this
  rw [e]
  refine ⟨?_, ?_⟩
  · have := Nat.lcm_pos (show 0 < n by omega) (show 0 < m by omega)
    omega
  · have : ((Nat.lcm n m : Nat) : Int) ∣ ((30 : Nat) : Int) := Int.natCast_dvd_natCast.mpr (Nat.lcm_dvd d1 d2)
    exact this
theorem le30 {c : Int} (hc : 0 < c) (d : c ∣ 30) : c ≤ 30 := Int.le_of_dvd (by decide) d
abbrev sWhr : Stmt := topS 16
abbrev nWhr : List Str := ["row", "common", "top", "bottom"]
theorem scWhr : FnScope nWhr ["row"] (defScope sWhr) := ⟨rfl, rfl, rfl, by decide +kernel, rfl, by decide +kernel, by decide +kernel⟩
/-- a row of whole numbers -/
def spWhr (K : PySem.W.Frag) : Sp := fun vs H Q _ => ∃ (r : Addr) (ps : List V) (row : List (Int × Int)), vs = [.ref r] ∧ SqL K H r ps ∧ Paired (ShS K H) ps row ∧ row.length ≤ 200 ∧ (∀ x ∈ row, Lt x) ∧
  ∀ (p : Addr) (ns : List Int) (H' : Hp), Same H H' → H p = none → ns.length = row.length → H' p = some (.lst (ns.map V.int)) → Q (.ref p) H'
section
variable {P : Program} {w : World} {K : PySem.W.Frag} {mg : Str → Option Value} {base : Heap}
theorem ok_whr {f : Addr} {fd : FuncData} (F : Fun K "whole_row" "whole_row" sWhr f fd) (GG : C8.Cal P w K mg base 1 "common_divisor" spPGcd []) : FnOk P w K mg base CX0 2 f fd ["row"] (spWhr K) := by
  refine F.ok scWhr (fun vs H Q E h => ?_) (fun cdv A outer s0 H vs Q E hr h => ?_)
  · obtain ⟨r, ps, row, rfl, _⟩ := h
    rfl
  · obtain ⟨r, ps, row, rfl, hR, hP, hl, hm, q⟩ := h
    have hlen : ps.length = row.length := Paired.length hP
    refine ⟨_, pss_cons (ps_set (i := 1) scWhr.nd rfl (by first | exact .inl rfl | exact .inr rfl) pe_int)
      (pss_cons (ps_for PassesOwn.never rfl (pi_list (pv 0)) (pg_tup rfl (pgs_cons (pg_name (i := 2) scWhr.nd rfl (by first | exact .inl rfl | exact .inr rfl)) (pgs_cons (pg_name (i := 3) scWhr.nd rfl (by first | exact .inl rfl | exact .inr rfl)) pgs_nil)))
        (pss_one (ps_set (i := 1) scWhr.nd rfl (by first | exact .inl rfl | exact .inr rfl) (pe_op op_mulW (pe_op op_div (pv 1) (C8.pe_c GG hr (by decide) (by rfl) (pa_cons (pv 1) (pa_cons (pv 3) pa_nil)))) (pv 3)))))
      (pss_one (ps_ret (pe_lc (own := [("top", 2), ("bottom", 3)]) (g := gTup K 2 (gCons (gName 2) (gCons (gName 3) gNil))) (tt := tYes) rfl scWhr.nd (pi_list (pv 0)) (blkOk_by (N := nWhr) (sc := defScope sWhr) (by decide +kernel))
        (fun _ _ _ _ _ => pg_tup rfl (pgs_cons (pg_name (i := 2) scWhr.nd rfl (.inl rfl)) (pgs_cons (pg_name (i := 3) scWhr.nd rfl (.inl rfl)) pgs_nil))) (fun _ _ _ _ _ => pts_nil)
        (fun _ _ _ _ _ => pe_op op_mulW (pe_op op_div (pv 1) (pv 3)) (pv 2)))))), ?_⟩
    have cw : ∀ {a b : Int} {m n : Nat}, a.natAbs < 2 ^ m → b.natAbs < 2 ^ n → 0 < m → 0 < n → m + n ≤ 1000000 → CMulW a b := fun h1 h2 h3 h4 h5 => wide_mul h1 h2 h3 h4 h5
    have up8 : ∀ {n : Nat}, n ≤ 30 → n < 2 ^ 8000 := fun h => Nat.lt_of_le_of_lt h (Nat.lt_of_lt_of_le (show 30 < 2 ^ 5 by decide) (Nat.pow_le_pow_right (by decide) (by decide)))
    have up6' : ∀ {n : Nat}, n ≤ 30 → n < 2 ^ 6000 := fun h => Nat.lt_of_le_of_lt h (Nat.lt_of_lt_of_le (show 30 < 2 ^ 5 by decide) (Nat.pow_le_pow_right (by decide) (by decide)))
    have b5 : ∀ {n : Nat}, n ≤ 30 → n < 2 ^ 5 := fun h => Nat.lt_of_le_of_lt h (by decide)
    refine ⟨_, rfl, r, rfl, ⟨ps, hR⟩, for_it (walk_list (xs := ps)) (fun i σ H' => (∃ (y2 y3 : Option V) (c : Int), σ = [some (.ref r), some (.int c), y2, y3] ∧ 0 < c ∧ c ∣ 30) ∧ H' = H) ⟨⟨none, none, 1, rfl, by decide, ⟨30, rfl⟩⟩, rfl⟩ (fun i σ H' _ hP' => by rw [hP'.2]; exact hR) (fun i x σ Ha Hb hi hP' y => ?_) (fun σ H' hP' => ?_)⟩
    · obtain ⟨⟨y2, y3, c, rfl, c0, cd⟩, rfl⟩ := hP'
      obtain ⟨rfl, ex⟩ := y
      obtain ⟨z, ez, p, rfl, hp⟩ := L2.paired_get hP ex
      have mz := hm z (List.mem_of_getElem? ez)
      have c30 := le30 c0 cd
      have z30 := le30 mz.pos mz.dvd
      have zp := mz.pos
      have gp : 0 < Int.gcd c z.2 := Int.gcd_pos_of_ne_zero_left z.2 (Int.ne_of_gt c0)
      have gle : Int.gcd c z.2 ≤ 30 := by
        have := Int.gcd_le_natAbs_left z.2 (Int.ne_of_gt c0)
        omega
      have dok : DivOk c ((Int.gcd c z.2 : Nat) : Int) := ⟨by omega, up8 (by omega)⟩
      have dle : (c.fdiv ((Int.gcd c z.2 : Nat) : Int)).natAbs ≤ 30 := by
        have h1 : (c.fdiv ((Int.gcd c z.2 : Nat) : Int)) = c / ((Int.gcd c z.2 : Nat) : Int) := Int.fdiv_eq_ediv_of_nonneg _ (by omega)
        rw [h1]
        have h2 := Int.ediv_le_self ((Int.gcd c z.2 : Nat) : Int) (Int.le_of_lt c0)
        have h3 := Int.ediv_nonneg (Int.le_of_lt c0) (show (0 : Int) ≤ ((Int.gcd c z.2 : Nat) : Int) by omega)
        omega
      obtain ⟨l1, l2⟩ := lcS_ok c0 mz.pos cd mz.dvd
      refine ⟨p, _, rfl, hp, rfl, _, _, rfl, _, _, rfl, rfl, ?_⟩
      refine ⟨_, rfl, _, rfl, _, rfl, c, z.2, rfl, up6' (by omega), ?_⟩
      refine ⟨c, _, rfl, rfl, dok, _, rfl, _, _, rfl, rfl, cw (b5 dle) (b5 (show z.2.natAbs ≤ 30 by omega)) (by decide) (by decide) (by decide), ?_⟩
      exact ⟨⟨_, _, _, rfl, l1, l2⟩, rfl⟩
    · obtain ⟨⟨y2, y3, c, rfl, c0, cd⟩, eH⟩ := hP'
      subst eH
      have c30 := le30 c0 cd
      refine ⟨_, rfl, r, rfl, ⟨ps, hR⟩, fun D nD => ?_⟩
      refine lc_it (walk_list (xs := ps)) (fun i H'' => Same H' H'' ∧ ∃ ns : List Int, ns.length = i ∧ H'' D = some (.lst (ns.map V.int))) ⟨same_new nD, [], rfl, upd_same⟩ (fun i H' _ hI => hI.1.seq hR) (fun i v Ha Hb hi hI y => ?_) (fun H' hI => ?_)
      · obtain ⟨sa, ns, ln, eD⟩ := hI
        obtain ⟨rfl, ex⟩ := y
        obtain ⟨z, ez, p, rfl, hp⟩ := L2.paired_get hP ex
        have mz := hm z (List.mem_of_getElem? ez)
        have z30 := le30 mz.pos mz.dvd
        have zp := mz.pos
        have dle : (c.fdiv z.2).natAbs ≤ 30 := by
          have h1 : c.fdiv z.2 = c / z.2 := Int.fdiv_eq_ediv_of_nonneg _ (by omega)
          rw [h1]
          have h2 := Int.ediv_le_self z.2 (Int.le_of_lt c0)
          have h3 := Int.ediv_nonneg (Int.le_of_lt c0) (show (0 : Int) ≤ z.2 by omega)
          omega
        refine ⟨p, _, rfl, seqT sa hp, rfl, _, _, rfl, _, _, rfl, rfl, rfl, yes_if ?_⟩
        refine ⟨_, rfl, _, rfl, c, z.2, rfl, rfl, ⟨by omega, up8 (by omega)⟩, _, rfl, _, _, rfl, rfl, cw (b5 dle) mz.top (by decide) (by decide) (by decide), ?_⟩
        refine ⟨_, eD, small1000 (by rw [List.length_map]; omega), same_upd sa nD, ns ++ [c.fdiv z.2 * z.1], by rw [List.length_append, ln]; rfl, ?_⟩
        rw [upd_same, List.map_append]
        rfl
      · obtain ⟨sa, ns, ln, eD⟩ := hI
        exact q D ns H' sa nD (by omega) eD
end
end Nv

set_option maxRecDepth 100000
set_option maxHeartbeats 4000000
namespace Nv
open PySem PySem.Spec PyProof.Rows L2 NvSet LamX
abbrev sWhl : Stmt := topS 35
abbrev sWho : Stmt := topS 36
theorem scWhl : FnScope ["row", "flat"] ["row"] (defScope sWhl) := ⟨rfl, rfl, rfl, by decide +kernel, rfl, by decide +kernel, by decide +kernel⟩
abbrev nWho : List Str := ["table", "size", "flat", "bottom", "row", "one"]
theorem scWho : FnScope nWho ["table"] (defScope sWho) := ⟨rfl, rfl, rfl, by decide +kernel, rfl, by decide +kernel, by decide +kernel⟩
theorem pi_listK (K : PySem.W.Frag) {X : Cx} {tg l : Expr} {tl : TE} (hl : PE X l tl) (hK : X.K = K := by rfl) : PI X tg l (iList K tl) := by
  subst hK
  exact pi_list hl
/-- a tuple of a list and a number -/
def Pair2 (H : Hp) (v : V) : Prop := ∃ (t p : Addr) (vs : List V) (n : Int), v = .ref t ∧ H t = some (.tup [.ref p, .int n]) ∧ H p = some (.lst vs)
theorem atI_last (xs : List V) (v : V) : atI (xs ++ [v]) (-1) = some v := by
  unfold atI ixN
  rw [if_neg (by decide), if_pos (by rw [List.length_append, List.length_singleton]; omega)]
  show (xs ++ [v])[((-1 : Int) + ((xs ++ [v]).length : Nat)).toNat]? = some v
  have : ((-1 : Int) + ((xs ++ [v]).length : Nat)).toNat = xs.length := by rw [List.length_append, List.length_singleton]; omega
  rw [this, List.getElem?_append_right (Nat.le_refl _), Nat.sub_self]
  rfl
def spWhl (K : PySem.W.Frag) : Sp := fun vs H Q _ => ∃ (r : Addr) (ps : List V) (row : List (Int × Int)), vs = [.ref r] ∧ SqL K H r ps ∧ Paired (ShS K H) ps row ∧ row.length ≤ 150 ∧ (∀ x ∈ row, Lt x) ∧ ∀ (v : V) (H' : Hp), Same H H' → Pair2 H' v → Q v H'
section
variable {P : Program} {w : World} {K : PySem.W.Frag} {mg : Str → Option Value} {base : Heap}
theorem ok_whl {f : Addr} {fd : FuncData} (F : Fun K "whole_line" "whole_line" sWhl f fd) (GW : C8.Cal P w K mg base 2 "whole_row" (spWhr K) []) : FnOk P w K mg base CX0 3 f fd ["row"] (spWhl K) := by
  refine F.ok scWhl (fun vs H Q E h => ?_) (fun cdv A outer s0 H vs Q E hr h => ?_)
  · obtain ⟨r, ps, row, rfl, _⟩ := h
    rfl
  · obtain ⟨r, ps, row, rfl, hR, hP, hl, hm, q⟩ := h
    have hlen : ps.length = row.length := Paired.length hP
    refine ⟨_, pss_cons (ps_set (i := 1) scWhl.nd rfl (.inl rfl) (C8.pe_c GW hr (by decide) (by rfl) (pa_cons (pe_lst (StX.pa_star (pv 0) (pa_cons (pe_tup (pa_cons pe_int (pa_cons pe_int pa_nil))) pa_nil))) pa_nil)))
      (pss_one (ps_ret (pe_tup (pa_cons (pe_slice sl_list (pv 1) po_none (po_some (pe_un un_neg pe_int))) (pa_cons (pe_ix ix_list (pv 1) (pe_un un_neg pe_int) (fun _ _ => rfl)) pa_nil))))), ?_⟩
    refine ⟨_, rfl, r, ps, rfl, .inr hR, (by show 2 ≤ sizeLine; decide), fun p1 n1 => ?_⟩
    have s1 := same_new (o := .tup [.int 1, .int 1]) n1
    have e1 : upd H p1 (.tup [.int 1, .int 1]) p1 = some (.tup [.int 1, .int 1]) := upd_same
    generalize upd H p1 (.tup [.int 1, .int 1]) = H1 at *
    refine ⟨by rw [List.length_append, hlen, sizeLine_eq]; show _ + 1 ≤ _; omega, fun r2 n2 => ?_⟩
    have s2 := same_new (o := .lst (ps ++ [.ref p1])) n2
    have e2 : upd H1 r2 (.lst (ps ++ [.ref p1])) r2 = some (.lst (ps ++ [.ref p1])) := upd_same
    generalize upd H1 r2 (.lst (ps ++ [.ref p1])) = H2 at *
    refine ⟨r2, _, row ++ [(1, 1)], rfl, SqL.of e2, psnoc ⟨p1, rfl, SqT.of (s2 _ _ e1)⟩ (pimp (fun _ _ z => ShS.same (s1.trans s2) z) hP), by rw [List.length_append]; show _ + 1 ≤ _; omega, fun x hx => ?_, fun p ns H3 s3 np ln ep => ?_⟩
    · rcases List.mem_append.mp hx with e | e
      · exact hm x e
      · rw [List.mem_singleton.mp e]; exact lt11
    · rcases List.eq_nil_or_concat ns with rfl | ⟨fr, la, rfl⟩
      · rw [List.length_append] at ln
        cases ln
      rw [List.concat_eq_append, List.map_append] at ep
      refine ⟨_, rfl, _, rfl, (-1 : Int), rfl, p, _, rfl, SqL.of ep, fun p4 n4 => ?_⟩
      have s4 := same_new (o := .lst (cutV (fr.map V.int ++ [la].map V.int) none (some (-1)))) n4
      have e4 : upd H3 p4 (.lst (cutV (fr.map V.int ++ [la].map V.int) none (some (-1)))) p4 = some (.lst (cutV (fr.map V.int ++ [la].map V.int) none (some (-1)))) := upd_same
      generalize upd H3 p4 (.lst (cutV (fr.map V.int ++ [la].map V.int) none (some (-1)))) = H4 at *
      refine ⟨_, rfl, _, rfl, p, _, (-1 : Int), .int la, rfl, rfl, SqL.of (s4 _ _ ep), atI_last _ _, (by show 2 ≤ sizeLine; decide), fun t nt => ?_⟩
      have s5 := same_new (o := .tup [.ref p4, .int la]) nt
      exact q _ _ (s1.trans (s2.trans (s3.trans (s4.trans s5)))) ⟨t, p4, _, la, rfl, upd_same, s5 _ _ e4⟩
/-- a table's rows -/
def RowS (K : PySem.W.Frag) (H : Hp) (v : V) (xs : List (Int × Int)) : Prop := ∃ (r : Addr) (ps : List V), v = .ref r ∧ H r = some (.lst ps) ∧ Paired (ShS K H) ps xs
theorem RowS.same {H H' : Hp} (s : Same H H') {v : V} {xs : List (Int × Int)} (h : RowS K H v xs) : RowS K H' v xs := by
  obtain ⟨r, ps, e, h1, h2⟩ := h
  exact ⟨r, ps, e, s _ _ h1, pimp (fun _ _ z => z.same s) h2⟩
def TabS' (K : PySem.W.Frag) (H : Hp) (v : V) (T : List (List (Int × Int))) : Prop := ∃ (r : Addr) (rs : List V), v = .ref r ∧ H r = some (.lst rs) ∧ Paired (RowS K H) rs T
theorem TabS'.same {H H' : Hp} (s : Same H H') {v : V} {T : List (List (Int × Int))} (h : TabS' K H v T) : TabS' K H' v T := by
  obtain ⟨r, rs, e, h1, h2⟩ := h
  exact ⟨r, rs, e, s _ _ h1, pimp (fun _ _ z => z.same s) h2⟩
/-- n rows of n light shares -/
structure Sq (n : Nat) (T : List (List (Int × Int))) : Prop where
  len : T.length = n
  wide : ∀ r ∈ T, r.length = n
  lt : ∀ r ∈ T, ∀ x ∈ r, Lt x
def spWho (K : PySem.W.Frag) : Sp := fun vs H Q _ => ∃ (v : V) (n : Nat) (T : List (List (Int × Int))), vs = [v] ∧ TabS' K H v T ∧ Sq n T ∧ n ≤ 12 ∧ ∀ (v : V) (H' : Hp), Same H H' → Pair2 H' v → Q v H'
theorem flat_len {n : Nat} : ∀ {T : List (List (Int × Int))}, (∀ r ∈ T, r.length = n) → T.flatten.length = T.length * n
  | [], _ => by simp
  | r :: T, h => by
    rw [List.flatten_cons, List.length_append, h r List.mem_cons_self, flat_len fun z hz => h z (List.mem_cons_of_mem _ hz), List.length_cons, Nat.add_mul]
    omega
theorem ok_who {f : Addr} {fd : FuncData} (F : Fun K "whole_of" "whole_of" sWho f fd) (B : Blt mg) (GW : C8.Cal P w K mg base 3 "whole_line" (spWhl K) []) : FnOk P w K mg base CX0 4 f fd ["table"] (spWho K) := by
  refine F.ok scWho (fun vs H Q E h => ?_) (fun cdv A outer s0 H vs Q E hr h => ?_)
  · obtain ⟨v, n, T, rfl, _⟩ := h
    rfl
  · obtain ⟨v, n, T, rfl, ⟨ta, rs, rfl, hta, hrs⟩, sq, hn, q⟩ := h
    have lrs : rs.length = n := by rw [Paired.length hrs, sq.len]
    refine ⟨_, pss_cons (ps_set (i := 1) scWho.nd rfl (by first | exact .inl rfl | exact .inr rfl) (pe_callB call_len_seq (by rfl) B.len PySem.boot_len (pa_cons (pv 0) pa_nil)))
      (pss_cons (ps_asg (C8.pe_c GW hr (by decide) (by rfl) (pa_cons (pe_lc2 (own := [("row", 4), ("one", 5)]) (vs1 := [5]) (g := gName 4) (g1 := gName 5) (tt := tYes) (tt1 := tYes) rfl scWho.nd (pi_list (pv 0)) (blkOk_by (N := nWho) (sc := defScope sWho) (by decide +kernel)) (by decide)
          (fun _ _ _ _ _ => pg_name (i := 4) scWho.nd rfl (Or.inl rfl)) (fun _ _ _ _ _ => pts_nil) (fun _ _ _ _ _ => pi_listK K (pv 4)) (fun _ _ _ _ _ => pg_name (i := 5) scWho.nd rfl (Or.inl rfl)) (fun _ _ _ _ _ => pts_nil) (fun _ _ _ _ _ => pv 5)) pa_nil)) (pg_tup rfl (pgs_cons (pg_name (i := 2) scWho.nd rfl (by first | exact .inl rfl | exact .inr rfl)) (pgs_cons (pg_name (i := 3) scWho.nd rfl (by first | exact .inl rfl | exact .inr rfl)) pgs_nil))))
      (pss_one (ps_ret (pe_tup (pa_cons (pe_lc (own := [("row", 4)]) (g := gName 4) (tt := tYes) rfl scWho.nd (pi_range1 (by rfl) B.rng (pa_cons (pv 1) pa_nil)) (blkOk_by (N := nWho) (sc := defScope sWho) (by decide +kernel))
          (fun _ _ _ _ _ => pg_name (i := 4) scWho.nd rfl (Or.inl rfl)) (fun _ _ _ _ _ => pts_nil) (fun _ _ _ _ _ => pe_slice (r := rSlL K) sl_list (pv 2) (po_some (pe_op op_mul (pv 4) (pv 1))) (po_some (pe_op op_mul (pe_op op_add (pv 4) pe_int) (pv 1))))) (pa_cons (pv 3) pa_nil)))))), ?_⟩
    refine ⟨_, rfl, ta, _, rfl, .inl (SqL.of hta), ?_⟩
    refine ⟨_, rfl, ta, rfl, ⟨_, SqL.of hta⟩, fun D nD => ?_⟩
    have FT : ∀ i, (T.take i).flatten.length ≤ 144 := fun i => by
      have h1 := flat_len (n := n) (T := T.take i) fun r hr => sq.wide r (List.mem_of_mem_take hr)
      have h2 : (T.take i).length ≤ n := by rw [List.length_take, sq.len]; omega
      have h3 : (T.take i).length * n ≤ 12 * 12 := Nat.mul_le_mul (by omega) hn
      omega
    refine lc_any (walk_list (xs := rs)) (fun i H' => Same H H' ∧ ∃ ps, H' D = some (.lst ps) ∧ Paired (ShS K H') ps (T.take i).flatten) ⟨same_new nD, [], upd_same, .nil⟩ (fun i H' _ hI => SqL.of (hI.1 _ _ hta)) (fun i v Ha Hb hi hI y => ?_) (fun H1 hI => ?_)
    · obtain ⟨rfl, ex⟩ := y
      obtain ⟨sa, ps, eD, hp⟩ := hI
      obtain ⟨xs, exs, r, qs, rfl, hr1, hqs⟩ := L2.paired_get hrs ex
      have lx := sq.wide xs (List.mem_of_getElem? exs)
      have lq : qs.length = n := by rw [Paired.length hqs, lx]
      have lps := Paired.length hp
      have fti := FT i
      refine ⟨rfl, yes_if ?_⟩
      refine ⟨_, rfl, r, rfl, ⟨_, SqL.of (sa _ _ hr1)⟩, ?_⟩
      refine lc_any (walk_list (xs := qs)) (fun j H' => Same H H' ∧ ∃ ps, H' D = some (.lst ps) ∧ Paired (ShS K H') ps ((T.take i).flatten ++ xs.take j)) ⟨sa, ps, eD, by rw [List.take_zero, List.append_nil]; exact hp⟩ (fun j H' _ hI => SqL.of (hI.1 _ _ hr1)) (fun j v Hc Hd hj hI y => ?_) (fun H2 hI => ?_)
      · obtain ⟨rfl, ey⟩ := y
        obtain ⟨sb, ps2, eD2, hp2⟩ := hI
        obtain ⟨z, ez, p, rfl, hz⟩ := L2.paired_get hqs ey
        have l2 := Paired.length hp2
        rw [List.length_append, List.length_take] at l2
        refine ⟨rfl, yes_if ?_⟩
        refine ⟨_, rfl, _, eD2, small1000 (by omega), same_upd sb nD, _, upd_same, ?_⟩
        rw [List.take_add_one, ez, ← List.append_assoc]
        have keepS : ∀ {v : V} {x : Int × Int}, ShS K Hd v x → ShS K (upd Hd D (.lst (ps2 ++ [.ref p]))) v x := fun {v x} ⟨p', e', h'⟩ => by
          refine ⟨p', e', ?_⟩
          rcases h' with (h' | ⟨o', h'⟩) | h'
          · exact .inl (.inl (by rw [upd_ne (fun z => by rw [z, eD2] at h'; cases h')]; exact h'))
          · exact .inl (.inr ⟨o', by rw [upd_ne (fun z => by rw [z, eD2] at h'; cases h')]; exact h'⟩)
          · exact .inr h'
        exact psnoc (keepS ⟨p, rfl, seqT sb hz⟩) (pimp (fun _ _ z => keepS z) hp2)
      · obtain ⟨sb, ps2, eD2, hp2⟩ := hI
        refine ⟨sb, ps2, eD2, ?_⟩
        rw [List.take_add_one, exs, List.flatten_append]
        rw [lq, ← lx, List.take_length] at hp2
        simpa using hp2
    · obtain ⟨sa, ps, eD, hp⟩ := hI
      rw [lrs, ← sq.len, List.take_length] at hp
      have ft := FT T.length
      rw [List.take_length] at ft
      refine ⟨D, ps, T.flatten, rfl, SqL.of eD, hp, by omega, fun x hx => ?_, fun v H2 s2 h2 => ?_⟩
      · obtain ⟨r, hr1, hx1⟩ := List.mem_flatten.mp hx
        exact sq.lt r hr1 x hx1
      obtain ⟨t, p, vs, m, rfl, ht, hp2⟩ := h2
      refine ⟨t, _, rfl, SqT.of ht, rfl, _, _, rfl, _, _, rfl, rfl, ?_⟩
      refine ⟨_, rfl, (rs.length : Int), rfl, by omega, by omega, fun D2 nD2 => ?_⟩
      rw [show ((rs.length : Int)).toNat = rs.length by omega]
      refine lc_range (lo := 0) (n := rs.length) (fun i H' => Same H2 H' ∧ ∃ xs, xs.length = i ∧ H' D2 = some (.lst xs)) ⟨same_new nD2, [], rfl, upd_same⟩ (fun i Ha hi hP => ?_) (fun H3 hP => ?_)
      · obtain ⟨sb, xs, lx, eD2⟩ := hP
        refine ⟨rfl, yes_if ?_⟩
        refine ⟨_, rfl, _, rfl, _, rfl, _, _, rfl, rfl, .inr ⟨by omega, by omega⟩, _, rfl, _, rfl, _, 1, rfl, rfl, _, rfl, _, _, rfl, rfl, .inr ⟨by omega, by omega⟩, _, rfl, p, _, rfl, SqL.of (sb _ _ hp2), fun o no => ?_⟩
        have s3 := same_new (o := .lst (cutV vs (some ((0 + (i : Int)) * (rs.length : Int))) (some ((0 + (i : Int) + 1) * (rs.length : Int))))) no
        exact ⟨xs, s3 _ _ eD2, small1000 (by omega), same_upd (sb.trans s3) nD2, _, by rw [List.length_append, lx]; rfl, upd_same⟩
      · obtain ⟨sb, xs, lx, eD2⟩ := hP
        refine ⟨_, rfl, (by show 2 ≤ sizeLine; decide), fun t2 nt2 => ?_⟩
        have s4 := same_new (o := .tup [.ref D2, .int m]) nt2
        exact q _ _ (sa.trans (s2.trans (sb.trans s4))) ⟨t2, D2, xs, m, rfl, upd_same, s4 _ _ eD2⟩
end
end Nv

set_option maxRecDepth 100000
namespace Nv
open PySem PySem.Spec PyProof.Rows L2
section
variable {X : Cx}
/-- y = {k: v for target in iter if ..} -/
theorem ps_setDc {i : Nat} {y : Str} {py : Pos} {kx vx tg iter : Expr} {ifs : List Expr} {scope : Scope} {own : List (Str × Nat)} {pos spos : Pos} {wi : TI} {g : TG} {tt : TT} {tk tv : TE} (hc : X.calm = true) (hN : X.N.Nodup) (hy : X.N[i]? = some y) (hyl : X.env.scope.names.lookup y = some .local)
    (hsw : swapsWith (.DictComp kx vx [⟨tg, iter, ifs, 0⟩] scope pos) (some (.Name y py)) spos.line X.env = pure true) (hi : PI X tg iter wi) (ok : BlkOk X.N X.env.scope scope own)
    (hg : ∀ (s : Shared) (H : Hp) (C : Addr) (cl : List (Str × Addr)) (fp : List Addr), PG (X.blk s H scope (compEnvC scope cl C X.env) fp) tg g) (ht : ∀ (s : Shared) (H : Hp) (C : Addr) (cl : List (Str × Addr)) (fp : List Addr), PTs (X.blk s H scope (compEnvC scope cl C X.env) fp) ifs tt)
    (hk : ∀ (s : Shared) (H : Hp) (C : Addr) (cl : List (Str × Addr)) (fp : List Addr), PE (X.blk s H scope (compEnvC scope cl C X.env) fp) kx tk)
    (he : ∀ (s : Shared) (H : Hp) (C : Addr) (cl : List (Str × Addr)) (fp : List Addr), PE (X.blk s H scope (compEnvC scope cl C X.env) fp) vx tv) (hs : ∀ x, foldedSetIterable iter X.env x = pure x := by intro _; rfl) :
    PS X (.Assign [.Name y py] (.DictComp kx vx [⟨tg, iter, ifs, 0⟩] scope pos) spos) (tAsg (tDc wi g tt tk tv (own.map (·.2))) (gName i)) := by
  refine ⟨fun pins s σ H D I h => ?_⟩
  rw [exec_Assign_Name_used _ _ _ _ hsw]
  refine wpAny_bind (wpAny_standAt (wpAny_bind ?_))
  show wpAny _ X.A (do let _ ← comprehension (.DictComp kx vx [⟨tg, iter, ifs, 0⟩] scope pos) scope X.env (firstIterPos [⟨tg, iter, ifs, 0⟩] pos) newDict false (eval iter X.env) (some (assign (.Name y py) X.env))) _ _ s
  have h : tDc wi g tt tk tv (own.map (·.2)) σ H (fun x H1 => gName i x σ H1 D.nx) := h
  refine wpAny_bind (thn (dc_core (Qf := fun _ s' => SP X pins D .next s') hc hN I hi ok hg ht hk he hs h fun L C s' m H' I' q hn f => ?_) fun _ s' hq => wpAny_pure (wpAny_pure hq))
  show wpAny _ _ (assign (.Name y py) X.env (.ref L)) _ _ _
  refine wpAny_assign_Name (store_ok2 (v := V.ref L) I' hN hy (.inl hyl) rfl (fun s2 I2 ⟨a, sb, ha⟩ => ?_) (.inr hyl))
  obtain ⟨f0, f1, f2, f3, f4, f5⟩ := f
  have haC : C ≠ a := by
    rcases ha with z | z
    · rw [z]; exact f1
    · exact fun e => f4 y a z e.symm
  refine ⟨m, hn.sameBut sb haC, fun h3 sb3 => ?_⟩
  exact ⟨_, H', I2.turned (t' := s2.toks) (fun b o hb e => (sb3.2 b hb).trans e) f0 f1 f3 f4 f5, q⟩
theorem sw_trueD {kx vx : Expr} {gs : List Comprehension} {scope : Scope} {pos py : Pos} {y : Str} {l : Nat} {env : Env} (hk : env.scope.kind = .function) (hy : env.scope.names.lookup y = some .local) (hl : (py.line == pos.line) = true)
    (ha : (scope.names.any fun (n, k) => n == y && (k == .local || k == .cell)) = false) : swapsWith (.DictComp kx vx gs scope pos) (some (.Name y py)) l env = pure true := by
  have ky : env.kindOf y = some .local := hy
  have hb : env.blockKind = .function := by unfold Env.blockKind; rw [hk]; rfl
  unfold swapsWith
  simp only [hb, ky, ha, Expr.pos, hl]
  rfl
end
end Nv

set_option maxRecDepth 100000
set_option maxHeartbeats 4000000
namespace Nv
open PySem PySem.Spec PyProof.Rows L2 NvSet LamX
theorem upd_twice {H : Hp} {x : Addr} {o u : HO} : upd (upd H x o) x u = upd H x u := by
  funext a
  by_cases z : a = x
  · rw [z, upd_same, upd_same]
  · rw [upd_ne z, upd_ne z, upd_ne z]
theorem putF_len (f : Str) (v : V) : ∀ fs : List (Str × V), (putF f v fs).length ≤ fs.length + 1
  | [] => Nat.le_refl _
  | (g, x) :: r => by
    unfold putF
    split
    · simp
    · have := putF_len f v r
      simp only [List.length_cons]
      omega
theorem pe_fldK (K : PySem.W.Frag) {X : Cx} {e : Expr} {f : Str} {pos : Pos} {ta : TE} (he : PE X e ta) (hb : attributeBase e f X.env (eval e X.env) = eval e X.env) (hK : X.K = K := by rfl) : PE X (.Attribute e f pos) (tFld K ta f) := by
  subst hK
  exact pe_fld he hb
abbrev sBIni : Stmt := inClass (topS 25) 0
abbrev sCIni : Stmt := inClass (topS 41) 0
abbrev sScl : Stmt := topS 42
abbrev n4 : List Str := ["self", "order", "first", "tables", "last"]
theorem scBIni : FnScope n4 n4 (defScope sBIni) := ⟨rfl, rfl, rfl, by decide +kernel, rfl, by decide +kernel, by decide +kernel⟩
theorem scCIni : FnScope n4 n4 (defScope sCIni) := ⟨rfl, rfl, rfl, by decide +kernel, rfl, by decide +kernel, by decide +kernel⟩
theorem scScl : FnScope ["build", "tables", "letter"] ["build"] (defScope sScl) := ⟨rfl, rfl, rfl, by decide +kernel, rfl, by decide +kernel, by decide +kernel⟩
def fs4 (o f t l : V) : List (Str × V) := [("order", o), ("first", f), ("tables", t), ("last", l)]
/-- what of the class is asked -/
structure Cls4 (K : PySem.W.Frag) (C : Addr) : Prop where
  cl : Cls K C
  nO : NoAttr K C "order"
  nF : NoAttr K C "first"
  nT : NoAttr K C "tables"
  nL : NoAttr K C "last"
def spIni4 (C : Addr) : Sp := fun vs H Q _ => ∃ (x dx : Addr) (o f t l : V), vs = [.ref x, o, f, t, l] ∧ H x = some (.ins C dx []) ∧ Q .non (upd H x (.ins C dx (fs4 o f t l)))
section
variable {P : Program} {w : World} {K : PySem.W.Frag} {mg : Str → Option Value} {base : Heap}
theorem ok_bini {f C : Addr} {fd : FuncData} {k : Nat} (F : Fun K "__init__" "Build.__init__" sBIni f fd) (T : Cls4 K C) : FnOk P w K mg base CX0 (k + 1) f fd n4 (spIni4 C) := by
  refine F.ok scBIni (fun vs H Q E h => ?_) (fun cdv A outer s H vs Q E hr h => ?_)
  · obtain ⟨x, dx, o, f, t, l, rfl, _⟩ := h
    rfl
  · obtain ⟨x, dx, o, f, t, l, rfl, hx, q⟩ := h
    refine ⟨_, pss_cons (ps_fld (pv 0) (pv 1) rfl) (pss_cons (ps_fld (pv 0) (pv 2) rfl) (pss_cons (ps_fld (pv 0) (pv 3) rfl) (pss_one (ps_fld (pv 0) (pv 4) rfl)))), ?_⟩
    have l1 := putF_len "order" o []
    have l2 := putF_len "first" f (putF "order" o [])
    have l3 := putF_len "tables" t (putF "first" f (putF "order" o []))
    rw [List.length_nil] at l1
    refine ⟨_, rfl, _, rfl, x, C, dx, _, rfl, hx, T.cl, T.nO, (by decide), ?_⟩
    refine ⟨_, rfl, _, rfl, x, C, dx, _, rfl, upd_same, T.cl, T.nF, (by omega), ?_⟩
    refine ⟨_, rfl, _, rfl, x, C, dx, _, rfl, upd_same, T.cl, T.nT, (by omega), ?_⟩
    refine ⟨_, rfl, _, rfl, x, C, dx, _, rfl, upd_same, T.cl, T.nL, (by omega), ?_⟩
    rw [upd_twice, upd_twice, upd_twice]
    exact q
theorem ok_cini {f C : Addr} {fd : FuncData} {k : Nat} (F : Fun K "__init__" "Scales.__init__" sCIni f fd) (T : Cls4 K C) : FnOk P w K mg base CX0 (k + 1) f fd n4 (spIni4 C) := by
  refine F.ok scCIni (fun vs H Q E h => ?_) (fun cdv A outer s H vs Q E hr h => ?_)
  · obtain ⟨x, dx, o, f, t, l, rfl, _⟩ := h
    rfl
  · obtain ⟨x, dx, o, f, t, l, rfl, hx, q⟩ := h
    refine ⟨_, pss_cons (ps_fld (pv 0) (pv 1) rfl) (pss_cons (ps_fld (pv 0) (pv 2) rfl) (pss_cons (ps_fld (pv 0) (pv 3) rfl) (pss_one (ps_fld (pv 0) (pv 4) rfl)))), ?_⟩
    have l1 := putF_len "order" o []
    have l2 := putF_len "first" f (putF "order" o [])
    have l3 := putF_len "tables" t (putF "first" f (putF "order" o []))
    rw [List.length_nil] at l1
    refine ⟨_, rfl, _, rfl, x, C, dx, _, rfl, hx, T.cl, T.nO, (by decide), ?_⟩
    refine ⟨_, rfl, _, rfl, x, C, dx, _, rfl, upd_same, T.cl, T.nF, (by omega), ?_⟩
    refine ⟨_, rfl, _, rfl, x, C, dx, _, rfl, upd_same, T.cl, T.nT, (by omega), ?_⟩
    refine ⟨_, rfl, _, rfl, x, C, dx, _, rfl, upd_same, T.cl, T.nL, (by omega), ?_⟩
    rw [upd_twice, upd_twice, upd_twice]
    exact q
/-- a build: letters, begin, tables by letters, end -/
structure BuildAt (K : PySem.W.Frag) (C : Addr) (H : Hp) (x : Addr) (L : List Str) (n : Nat) (b e : List (Int × Int)) (T : Str → List (List (Int × Int))) : Prop where
  ex : ∃ (dx o f t l : Addr) (fv lv : List V) (kvs : List (Key × V)), H x = some (.ins C dx (fs4 (.ref o) (.ref f) (.ref t) (.ref l))) ∧ H o = some (.lst (L.map V.str)) ∧ H f = some (.lst fv) ∧ Paired (ShS K H) fv b ∧ H l = some (.lst lv) ∧ Paired (ShS K H) lv e ∧
    H t = some (.dK kvs) ∧ ∀ y ∈ L, ∃ v, valV kvs (Sum.inr y) = some v ∧ TabS' K H v (T y)
/-- fair numbers in it -/
structure Engine (L : List Str) (n : Nat) (b e : List (Int × Int)) (T : Str → List (List (Int × Int))) : Prop where
  few : L.length ≤ 3
  n12 : n ≤ 12
  lb : b.length = n
  le : e.length = n
  ltb : ∀ x ∈ b, Lt x
  lte : ∀ x ∈ e, Lt x
  sq : ∀ y ∈ L, Sq n (T y)
def spScl (K : PySem.W.Frag) (CB : Addr) : Sp := fun vs H Q _ => ∃ (x : Addr) (L : List Str) (n : Nat) (b e : List (Int × Int)) (T : Str → List (List (Int × Int))), vs = [.ref x] ∧ BuildAt K CB H x L n b e T ∧ Engine L n b e T ∧ ∀ (z : Addr) (H' : Hp), Same H H' → Q (.ref z) H'
theorem ok_scl {f CB CS fS : Addr} {fd fdS : FuncData} (F : Fun K "scales_of" "scales_of" sScl f fd) (TB : Cls4 K CB) (MS : Mk K CS fS) (GS : FnOk P w K mg base CX0 1 fS fdS n4 (spIni4 CS)) (bS : Binds K fdS n4 []) (gS : mg "Scales" = some (.ref CS))
    (GL : C8.Cal P w K mg base 3 "whole_line" (spWhl K) []) (GO : C8.Cal P w K mg base 4 "whole_of" (spWho K) []) : FnOk P w K mg base CX0 5 f fd ["build"] (spScl K CB) := by
  refine F.ok scScl (fun vs H Q E h => ?_) (fun cdv A outer s H vs Q E hr h => ?_)
  · obtain ⟨x, L, n, b, e, T, rfl, _⟩ := h
    rfl
  · obtain ⟨x, L, n, b, e, T, rfl, ⟨dx, o, fa, t, la, fv, lv, kvs, hx, ho, hf, pf, hla, pl, ht, hT⟩, En, q⟩ := h
    refine ⟨_, pss_cons (ps_setDc (i := 1) (own := [("letter", 2)]) (g := gName 2) (tt := tYes) rfl scScl.nd rfl rfl (sw_trueD rfl rfl rfl (by decide +kernel)) (pi_list (pe_fld (pv 0) rfl)) (blkOk_by (N := ["build", "tables", "letter"]) (sc := defScope sScl) (by decide +kernel))
        (fun _ _ _ _ _ => pg_name (i := 2) scScl.nd rfl (Or.inl rfl)) (fun _ _ _ _ _ => pts_nil) (fun _ _ _ _ _ => pv 2) (fun _ _ _ _ _ => C8.pe_c GO hr (by decide) (by rfl) (pa_cons (pe_dget (hu_of hr) (pe_fldK K (pv 0) rfl) (pv 2) (fun _ _ => rfl)) pa_nil)))
      (pss_one (ps_ret (pe_make MS GS (hr.mono (by decide)) (by rfl) gS bS .nil pass0 (pa_cons (pe_fld (pv 0) rfl) (pa_cons (C8.pe_c GL hr (by decide) (by rfl) (pa_cons (pe_fld (pv 0) rfl) pa_nil)) (pa_cons (pv 1) (pa_cons (C8.pe_c GL hr (by decide) (by rfl) (pa_cons (pe_fld (pv 0) rfl) pa_nil)) pa_nil))))))), ?_⟩
    have lb := En.lb
    have le := En.le
    have n12 := En.n12
    refine ⟨_, rfl, x, CB, dx, _, _, rfl, hx, TB.cl, TB.nO, rfl, o, rfl, ⟨_, SqL.of ho⟩, fun D nD => ?_⟩
    refine lc_any (walk_list (xs := L.map V.str)) (fun i H' => Same H H' ∧ ∃ ks, ks.length ≤ i ∧ H' D = some (.dK ks)) ⟨same_new nD, [], Nat.le_refl _, upd_same⟩ (fun i H' _ hI => SqL.of (hI.1 _ _ ho)) (fun i v Ha Hb hi hI y => ?_) (fun H1 hI => ?_)
    · obtain ⟨rfl, ex⟩ := y
      obtain ⟨sa, ks, lk, eD⟩ := hI
      have ex' : (L.map V.str)[i]? = some v := ex
      rw [List.getElem?_map] at ex'
      obtain ⟨z, hz, rfl⟩ := Option.map_eq_some_iff.mp ex'
      have mz := List.mem_of_getElem? hz
      obtain ⟨tv, etv, htv⟩ := hT z mz
      refine ⟨rfl, yes_if ?_⟩
      refine ⟨_, rfl, _, rfl, x, CB, dx, _, _, rfl, sa _ _ hx, TB.cl, TB.nT, rfl, _, rfl, t, tv, rfl, ?_, tv, n, T z, rfl, htv.same sa, En.sq z mz, n12, fun v2 H2 s2 h2 => ?_⟩
      · have := DGet.k (k := Sum.inr z) (sa _ _ ht)
        rw [etv] at this
        exact this
      · rw [List.length_map] at hi
        have := En.few
        refine ⟨ks, Sum.inr z, rfl, s2 _ _ eD, small1000 (by omega), same_upd (sa.trans s2) nD, _, ?_, upd_same⟩
        have := length_putK ks (Sum.inr z) v2
        omega
    · obtain ⟨s1, ks, lk, eD⟩ := hI
      refine ⟨_, rfl, x, CB, dx, _, _, rfl, s1 _ _ hx, TB.cl, TB.nO, rfl, _, rfl, x, CB, dx, _, _, rfl, s1 _ _ hx, TB.cl, TB.nF, rfl, fa, fv, b, rfl, SqL.of (s1 _ _ hf), pimp (fun _ _ z => z.same s1) pf, by omega, En.ltb, fun v2 H2 s2 h2 => ?_⟩
      have s12 := s1.trans s2
      refine ⟨_, rfl, _, rfl, x, CB, dx, _, _, rfl, s12 _ _ hx, TB.cl, TB.nL, rfl, la, lv, e, rfl, SqL.of (s12 _ _ hla), pimp (fun _ _ z => z.same s12) pl, by omega, En.lte, fun v3 H3 s3 h3 => ?_⟩
      intro z dz nz ndz ne
      refine ⟨z, dz, _, _, _, _, rfl, upd_same, rfl, ?_⟩
      rw [upd_twice]
      have sa := same_new (o := .own z) ndz
      have nz2 : upd H3 dz (.own z) z = none := by rw [upd_ne ne.symm]; exact nz
      exact q z _ (s12.trans (s3.trans (sa.trans (same_new nz2))))
end
end Nv

set_option maxRecDepth 100000
set_option maxHeartbeats 4000000
namespace Nv
open PySem PySem.Spec PyProof.Rows L2 NvSet LamX
/-- len of a set of texts -/
def rLenTx (w : World) : List V → Hp → VK → Prop := fun vs H Q => ∃ (a : Addr) (xs : List Str), vs = [V.ref a] ∧ H a = some (TxO w a xs) ∧ Q (.int (xs.length : Int)) H
theorem call_lenTx {X : Cx} : CallR X (.builtin "len") (rLenTx X.w) := by
  intro pins s σ H vs us Q I r h
  obtain ⟨a, xs, rfl, ha, q⟩ := h
  have R : Txs X.w s.heap a xs := (I.hok a _ ha).1
  rw [Vals.ref1 r]
  obtain ⟨ob, es, ep, tb, h1, h2, h3, h4, pm, nd, sz, wk⟩ := R.ex
  have e : es.size = xs.length := by
    have := pm.length_eq
    rw [List.length_map] at this
    simpa using this
  have sb : es.size < 2 ^ 40 := Nat.lt_of_lt_of_le sz (by unfold scanBound; decide)
  refine call_len_set h1 h2 h3 wk.fit (by omega) ⟨.int (xs.length : Int), H, I.tok _, ⟨s.toks + 1, by rw [e]⟩, q⟩
abbrev sBM : Stmt := inClass (topS 4) 0
abbrev sIsLe : Stmt := topS 53
abbrev sNLS : Stmt := topS 55
abbrev sNLn : Stmt := topS 56
theorem scBM : FnScope ["self"] ["self"] (defScope sBM) := ⟨rfl, rfl, rfl, by decide +kernel, rfl, by decide +kernel, by decide +kernel⟩
theorem scIsLe : FnScope ["thing", "sign"] ["thing"] (defScope sIsLe) := ⟨rfl, rfl, rfl, by decide +kernel, rfl, by decide +kernel, by decide +kernel⟩
theorem scNLS : FnScope ["letters", "steps", "letter"] ["letters", "steps"] (defScope sNLS) := ⟨rfl, rfl, rfl, by decide +kernel, rfl, by decide +kernel, by decide +kernel⟩
theorem scNLn : FnScope ["begin", "steps", "end", "many", "letter", "row"] ["begin", "steps", "end"] (defScope sNLn) := ⟨rfl, rfl, rfl, by decide +kernel, rfl, by decide +kernel, by decide +kernel⟩
def spBM (C : Addr) : Sp := fun vs H Q _ => ∃ a : Addr, vs = [.ref a] ∧ H a = some (exo a C none) ∧ made a C "BadMachine" H Q
/-- what is known of the classes NeverError (CN, its __init__ at fN) and BadMachine (C, its __init__ at fI) -/
structure ErrB (K : PySem.W.Frag) (mg : Str → Option Value) (CN C fN fI : Addr) : Prop where
  oex : OexC K C
  xf : XfC K C
  word : PySem.W.findIn K (.ref C) "word" = some none
  gC : mg "BadMachine" = some (.ref C)
  gN : mg "NeverError" = some (.ref CN)
  iC : PySem.W.findIn K (.ref C) "__init__" = some (some (.ref fI))
  tI : PySem.W.typeIn K (.ref fI) = some (.type "function")
  rd : ClX.CRead K CN (.type "type")
  cv : ClX.CVal K CN (.type "type") "__init__" (.ref fN) (.ref fN)
  kp : PySem.W.keepIn K (.ref fN) = true
  hit : PySem.W.exmOne K (.ref C) (.ref CN) = some true
structure ConstM (mg : Str → Option Value) : Prop where
  signs : ∃ t, mg "MOST_SIGNS" = some (.int 6 t)
  small : ∃ t, mg "SMALL_LETTERS" = some (.str "abcdefghijklmnopqrstuvwxyz" t)
section
variable {P : Program} {w : World} {K : PySem.W.Frag} {mg : Str → Option Value} {base : Heap} {CN C fN fI : Addr}
theorem ok_BM {f : Addr} {fd fdN : FuncData} (F : Fun K "__init__" "BadMachine.__init__" sBM f fd) (R : ErrB K mg CN C fN fI) (GN : FnOk P w K mg base CX0 1 fN fdN ["self", "word", "message"] (spNE K)) (bN : Binds K fdN ["self", "word", "message"] []) :
    FnOk P w K mg base CX0 2 f fd ["self"] (spBM C) := by
  refine F.ok scBM (fun vs H Q E h => ?_) (fun cdv A outer s H vs Q E hr h => ?_)
  · obtain ⟨a, rfl, _⟩ := h
    rfl
  · obtain ⟨a, rfl, ha, q⟩ := h
    refine ⟨_, pss_one (ps_expr (pe_clsdef (pe_glob (v := .ref CN) (by rfl) R.gN rfl) R.rd R.cv R.kp GN hr bN .nil pass0 (pa_cons (pv 0) (pa_cons pe_str (pa_cons pe_str pa_nil))))), ?_⟩
    exact ⟨rfl, _, rfl, a, C, _, _, rfl, R.oex, R.word, ha, q⟩
/-- BadMachine is raised; the dict at g may be locked -/
def raisesB (C g : Addr) (H : Hp) (E : XK) : Prop := ∀ d H', Grow g H H' → H d = none → H' d = some (.xd (wordOf "BadMachine")) → E (.ref C) (some d) H'
theorem raisesB.same {g : Addr} {H H1 : Hp} {E : XK} (s : Same H H1) (q : raisesB C g H E) : raisesB C g H1 E := fun d H' s' n e => q d H' (fun a o ne h => s' a o ne (s _ _ h)) (s.free n) e
theorem raisesB.grow {g : Addr} {H H1 : Hp} {E : XK} (s : Grow g H H1) (hg : ∀ d, H1 d = none → H d = none) (q : raisesB C g H E) : raisesB C g H1 E := fun d H' s' n e => q d H' (s.trans s') (hg d n) e
theorem raise_B {g : Addr} {H : Hp} {E : XK} (q : raisesB C g H E) : ([] : List V).length ≤ 1000 ∧ ∀ a, H a = none → spBM C (.ref a :: ([] ++ [])) (upd H a (exo a C none))
    (fun v H2 => v = .non ∧ ∃ (d : Addr) (fs : List (Str × V)), H2 a = some (exo a C (some d)) ∧ H2 d = some (exd d fs) ∧ H d = none ∧ E (.ref C) (some d) (upd (del H2 a) d (.xd fs))) (fun _ _ _ => False) := by
  refine ⟨by decide, fun a na => ⟨a, rfl, upd_same, fun dx nx ne => ⟨rfl, dx, wordOf "BadMachine", upd_same, ?_, ?_, ?_⟩⟩⟩
  · rw [upd_ne ne, upd_same]
  · rw [upd_ne ne] at nx
    exact nx
  · have nx' : H dx = none := by
      rw [upd_ne ne] at nx
      exact nx
    refine q dx _ (fun z o _ hz => ?_) nx' upd_same
    have h1 : z ≠ a := ne_of_none hz na
    have h2 : z ≠ dx := ne_of_none hz nx'
    rw [upd_ne h2, del_ne h1, upd_ne h1, upd_ne h2, upd_ne h1]
    exact hz
/-- is_letter, of letters and of texts that are too long -/
def spIsLe : Sp := fun vs H Q _ => ∃ x : Str, vs = [.str x] ∧ ((Small x ∧ ∀ H', Same H H' → Q (.bl true) H') ∨ (6 < x.length ∧ x.length ≤ 1000 ∧ Q (.bl false) H))
theorem ok_isLe {f : Addr} {fd : FuncData} {k : Nat} (F : Fun K "is_letter" "is_letter" sIsLe f fd) (T : Blt mg) (C : ConstM mg) : FnOk P w K mg base CX0 (k + 1) f fd ["thing"] spIsLe := by
  obtain ⟨tg, eg⟩ := C.signs
  obtain ⟨ts, es⟩ := C.small
  refine F.ok scIsLe (fun vs H Q E h => ?_) (fun cdv A outer s H vs Q E hr h => ?_)
  · obtain ⟨x, rfl, _⟩ := h
    rfl
  · obtain ⟨x, rfl, hq⟩ := h
    refine ⟨_, pss_cons (ps_if (PW.pt (pw_or (pt_not (pt_val (pe_callB call_isi (by rfl) T.isi (by decide +kernel) (pa_cons (pv 0) (pa_cons (pe_bltn (v := .ty "str") (by rfl) T.str (by decide +kernel) rfl) pa_nil)))))
          (pw_or1 (pt_not (pt_chain op_le op_le pe_int (pe_callB call_len_str (by rfl) T.len PySem.boot_len (pa_cons (pv 0) pa_nil)) (pe_glob (v := .int 6) (by rfl) eg ⟨_, rfl⟩)))))) (pss_one (ps_ret pe_bl)) pss_nil)
      (pss_one (ps_ret (pe_callB (cr_all rfl) (by rfl) T.all (by decide +kernel) (pa_cons (pe_lc (own := [("sign", 1)]) (g := gName 1) (tt := tYes) rfl scIsLe.nd (pi_str (pv 0)) (blkOk_by (N := ["thing", "sign"]) (sc := defScope sIsLe) (by decide +kernel))
        (fun _ _ _ _ _ => pg_name (i := 1) scIsLe.nd rfl (Or.inl rfl)) (fun _ _ _ _ _ => pts_nil) (fun _ _ _ _ _ => pe_cmpR op_in_sign (pv 1) (pe_glob (v := .str "abcdefghijklmnopqrstuvwxyz") (by rfl) es ⟨_, rfl⟩) (by rfl))) pa_nil)))), ?_⟩
    have hlen : x.length ≤ sizeLine := by
      rw [sizeLine_eq]
      rcases hq with ⟨ok, _⟩ | ⟨_, l, _⟩
      · have := ok.hi; omega
      · omega
    refine ⟨_, rfl, _, _, .type "str", _, true, rfl, .ty _, .base (.str x), kit_ty (by decide +kernel), _, rfl, iteF ?_⟩
    rcases hq with ⟨ok, q⟩ | ⟨l6, l, q⟩
    case inr => exact ⟨_, rfl, x, rfl, hlen, 1, _, rfl, rfl, _, rfl, ifP (by omega) ⟨_, 6, rfl, rfl, _, rfl, ifNN (by omega) q⟩⟩
    have hlo := ok.lo
    have hhi := ok.hi
    refine ⟨_, rfl, x, rfl, hlen, 1, _, rfl, rfl, _, rfl, ifP (by omega) ⟨_, 6, rfl, rfl, _, rfl, ifNP (by omega) ?_⟩⟩
    refine ⟨_, rfl, _, rfl, fun D hD => ?_⟩
    refine lc_it (walk_str (z := x)) (fun i H' => Same H H' ∧ H' D = some (.lst ((List.replicate i true).map V.bl))) ⟨same_new hD, upd_same⟩ (fun _ _ _ _ => trivial) (fun i c H1 H2 hi hP hY => ?_) (fun H' hP => ?_)
    · obtain ⟨s1, eD⟩ := hP
      obtain ⟨rfl, c0, hc0, rfl⟩ := hY
      have hc1 : c0 ∈ x.cps.toList := by
        rw [← Array.getElem?_toList] at hc0
        exact List.mem_of_getElem? hc0
      have hsz : x.cps.size = x.length := rfl
      refine ⟨rfl, yes_if ⟨_, rfl, c0, _, rfl, rfl, _, eD, ?_, ?_, ?_⟩⟩
      · rw [List.length_map, List.length_replicate]
        exact small1000 (by omega)
      · exact fun z o hz => by
          rw [upd_ne (ne_of_none hz hD)]
          exact s1 _ _ hz
      · rw [upd_same, decide_eq_true (ok.all c0 hc1), List.replicate_succ', List.map_append]
        rfl
    · obtain ⟨s1, eD⟩ := hP
      refine ⟨D, _, rfl, SqL.of eD, ?_⟩
      rw [show (List.replicate x.cps.size true).all id = true by simp]
      exact q _ s1
/-- the letters and the dict's keys fit -/
def FitLS (L : List Str) (kvs : List (Key × V)) : Prop := (∀ x ∈ L, Small x) ∧ L.Nodup ∧ kvs.length = L.length ∧ ∀ x ∈ L, (valV kvs (Sum.inr x)).isSome = true
def spNLS (K : PySem.W.Frag) (C : Addr) : Sp := fun vs H Q E => ∃ (a d : Addr) (L : List Str) (kvs : List (Key × V)), vs = [.ref a, .ref d] ∧ H a = some (.lst (L.map V.str)) ∧ L.length ≤ 20 ∧ (∀ x ∈ L, Small x ∨ (6 < x.length ∧ x.length ≤ 1000)) ∧ H d = some (.dK kvs) ∧
  (FitLS L kvs → ∀ H', Same H H' → Q .non H') ∧ (¬ FitLS L kvs → raisesB C d H E)
theorem nodup_len {us L : List Str} (nd : us.Nodup) (hu : ∀ x, x ∈ us ↔ x ∈ L) : us.length = L.length ↔ L.Nodup := by
  have key : ∀ {l : List Str} {us : List Str}, us.Nodup → (∀ x, x ∈ us ↔ x ∈ l) → us.length ≤ l.length ∧ (us.length = l.length ↔ l.Nodup) := by
    intro l
    induction l with
    | nil =>
      intro us nd hu
      have : us = [] := List.eq_nil_iff_forall_not_mem.mpr fun x hx => by
        have := (hu x).1 hx
        cases this
      rw [this]
      exact ⟨Nat.le_refl _, by simp⟩
    | cons y l ih =>
      intro us nd hu
      by_cases h : y ∈ l
      · have hu2 : ∀ x, x ∈ us ↔ x ∈ l := fun x => by
          rw [hu x, List.mem_cons]
          constructor
          · rintro (e | e)
            · rw [e]; exact h
            · exact e
          · exact .inr
        obtain ⟨h1, h2⟩ := ih nd hu2
        refine ⟨by rw [List.length_cons]; omega, ?_⟩
        constructor
        · intro e
          rw [List.length_cons] at e
          omega
        · intro n
          exact absurd h (List.nodup_cons.mp n).1
      · have my : y ∈ us := (hu y).2 List.mem_cons_self
        have nd2 : (us.erase y).Nodup := nd.erase y
        have hu2 : ∀ x, x ∈ us.erase y ↔ x ∈ l := fun x => by
          rw [nd.mem_erase_iff, hu x, List.mem_cons]
          constructor
          · rintro ⟨n, e | e⟩
            · exact absurd e n
            · exact e
          · intro e
            exact ⟨fun z => h (by rw [← z]; exact e), .inr e⟩
        obtain ⟨h1, h2⟩ := ih nd2 hu2
        have l1 := List.length_erase_of_mem my
        have l2 := List.length_pos_of_mem my
        refine ⟨by rw [List.length_cons]; omega, ?_⟩
        rw [List.length_cons, List.nodup_cons]
        constructor
        · intro e
          exact ⟨h, h2.1 (by omega)⟩
        · rintro ⟨_, n⟩
          have := h2.2 n
          omega
  exact (key nd hu).2
end
end Nv

set_option maxRecDepth 100000
set_option maxHeartbeats 4000000
namespace Nv
open PySem PySem.Spec PyProof.Rows L2 NvSet LamX
noncomputable instance (x : Str) : Decidable (Small x) := Classical.propDecidable _
section
variable {P : Program} {w : World} {K : PySem.W.Frag} {mg : Str → Option Value} {base : Heap} {CN C fN fI : Addr}
theorem ok_nls {f : Addr} {fd fdI : FuncData} (F : Fun K "need_letters_and_steps" "need_letters_and_steps" sNLS f fd) (B : Blt mg) (many : mg "any" = none) (mset : mg "set" = none) (R : ErrB K mg CN C fN fI) (GI : FnOk P w K mg base CX0 2 fI fdI ["self"] (spBM C)) (bI : Binds K fdI ["self"] [])
    (GL : C8.Cal P w K mg base 1 "is_letter" spIsLe []) : FnOk P w K mg base (L2.CX P w) 4 f fd ["letters", "steps"] (spNLS K C) := by
  refine F.okX scNLS (fun vs H Q E h => ?_) (fun cdv A outer s H vs Q E hr h => ?_)
  · obtain ⟨a, d, L, kvs, rfl, _⟩ := h
    rfl
  · obtain ⟨a, d, L, kvs, rfl, ha, lL, hL, hd, q1, q2⟩ := h
    refine ⟨_, pss_cons (ps_if (pt_not (pt_val (pe_callB (cr_all rfl) (by rfl) B.all (by decide +kernel) (pa_cons (pe_lc (own := [("letter", 2)]) (g := gName 2) (tt := tYes) rfl scNLS.nd (pi_list (pv 0)) (blkOk_by (N := ["letters", "steps", "letter"]) (sc := defScope sNLS) (by decide +kernel))
          (fun _ _ _ _ _ => pg_name (i := 2) scNLS.nd rfl (Or.inl rfl)) (fun _ _ _ _ _ => pts_nil) (fun _ _ _ _ _ => C8.pe_c GL hr (by decide) (by rfl) (pa_cons (pv 2) pa_nil))) pa_nil)))) (pss_one (ps_raise rfl (takes_of rfl rfl rfl rfl) (pmk_bare R.oex R.iC R.tI GI hr bI pass0 (by rfl) R.gC))) pss_nil)
      (pss_cons (ps_if (PW.pt (pw_or (pt_cmpR op_ne (pe_callB call_lenTx (by rfl) B.len PySem.boot_len (pa_cons (pe_callTy (cr_setTx rfl) (by rfl) mset (by decide +kernel) (pa_cons (pv 0) pa_nil)) pa_nil)) (pe_callB call_len_seq (by rfl) B.len PySem.boot_len (pa_cons (pv 0) pa_nil)) (nomark _))
          (pw_or1 (pt_cmpR op_ne (pe_callB call_lenD (by rfl) B.len PySem.boot_len (pa_cons (pv 1) pa_nil)) (pe_callB call_len_seq (by rfl) B.len PySem.boot_len (pa_cons (pv 0) pa_nil)) (nomark _))))) (pss_one (ps_raise rfl (takes_of rfl rfl rfl rfl) (pmk_bare R.oex R.iC R.tI GI hr bI pass0 (by rfl) R.gC))) pss_nil)
      (pss_one (ps_if (pt_val (pe_callB (cr_any rfl) (by rfl) many (by decide +kernel) (pa_cons (pe_lc (own := [("letter", 2)]) (g := gName 2) (tt := tYes) rfl scNLS.nd (pi_list (pv 0)) (blkOk_by (N := ["letters", "steps", "letter"]) (sc := defScope sNLS) (by decide +kernel))
          (fun _ _ _ _ _ => pg_name (i := 2) scNLS.nd rfl (Or.inl rfl)) (fun _ _ _ _ _ => pts_nil) (fun _ _ _ _ _ => pe_cmp (pc_dnotin (hu_of hr) (pv 2) (pv 1)))) pa_nil))) (pss_one (ps_raise rfl (takes_of rfl rfl rfl rfl) (pmk_bare R.oex R.iC R.tI GI hr bI pass0 (by rfl) R.gC))) pss_nil))), ?_⟩
    refine ⟨_, rfl, a, rfl, ⟨_, SqL.of ha⟩, fun D nD => ?_⟩
    refine lc_it (walk_list (xs := L.map V.str)) (fun i H' => Same H H' ∧ H' D = some (.lst (((L.take i).map fun x => decide (Small x)).map V.bl))) ⟨same_new nD, upd_same⟩ (fun i H' _ hI => SqL.of (hI.1 _ _ ha)) (fun i v Ha Hb hi hI y => ?_) (fun H1 hI => ?_)
    · obtain ⟨rfl, ex⟩ := y
      obtain ⟨sa, eD⟩ := hI
      have ex' : (L.map V.str)[i]? = some v := ex
      rw [List.getElem?_map] at ex'
      obtain ⟨x, hx, rfl⟩ := Option.map_eq_some_iff.mp ex'
      rw [List.length_map] at hi
      refine ⟨rfl, yes_if ?_⟩
      have fin : ∀ {Hc : Hp}, Same Hb Hc → ∃ acc, Hc D = some (.lst acc) ∧ acc.length < sizeLine ∧ (Same H (upd Hc D (.lst (acc ++ [.bl (decide (Small x))]))) ∧ upd Hc D (.lst (acc ++ [.bl (decide (Small x))])) D = some (.lst (((L.take (i + 1)).map fun x => decide (Small x)).map V.bl))) := fun {Hc} sc => by
        refine ⟨_, sc _ _ eD, small1000 (by rw [List.length_map, List.length_map, List.length_take]; omega), same_upd (sa.trans sc) nD, ?_⟩
        rw [upd_same, List.take_add_one, hx, List.map_append, List.map_append]
        rfl
      rcases hL x (List.mem_of_getElem? hx) with sm | ⟨l6, l1⟩
      · refine ⟨_, rfl, x, rfl, .inl ⟨sm, fun Hc sc => ?_⟩⟩
        have := fin sc
        rw [decide_eq_true sm] at this
        exact this
      · refine ⟨_, rfl, x, rfl, .inr ⟨l6, l1, ?_⟩⟩
        have := fin (fun _ _ h => h) (Hc := Hb)
        rw [decide_eq_false (fun sm : Small x => by have := sm.hi; omega)] at this
        exact this
    obtain ⟨s1, eD⟩ := hI
    rw [List.length_map, List.take_length] at eD
    refine ⟨D, _, rfl, SqL.of eD, _, rfl, ?_⟩
    by_cases h1 : ∀ x ∈ L, Small x
    case neg =>
      have : ((L.map fun x => decide (Small x)).all id) = false := by
        rw [← Bool.not_eq_true]
        intro z
        refine h1 fun x hx => ?_
        have := List.all_eq_true.mp z (decide (Small x)) (List.mem_map.mpr ⟨x, hx, rfl⟩)
        exact of_decide_eq_true this
      rw [this]
      exact iteT (raise_B ((q2 fun z => h1 z.1).same s1))
    have : ((L.map fun x => decide (Small x)).all id) = true := by
      refine List.all_eq_true.mpr fun b hb => ?_
      obtain ⟨x, hx, rfl⟩ := List.mem_map.mp hb
      exact decide_eq_true (h1 x hx)
    rw [this]
    refine iteF ?_
    refine ⟨_, rfl, a, L, rfl, SqL.of (s1 _ _ ha), by omega, fun st us nst nd hu => ?_⟩
    have s2 := same_new (o := TxO w st us) nst
    have e2 : upd H1 st (TxO w st us) st = some (TxO w st us) := upd_same
    have s12 := s1.trans s2
    have nl := nodup_len nd hu
    refine ⟨st, us, rfl, e2, _, rfl, a, _, rfl, .inl (SqL.of (s12 _ _ ha)), rfl, _, rfl, ?_⟩
    by_cases h2 : L.Nodup
    case neg =>
      refine ifNN (fun z => h2 (nl.1 ?_)) (iteT (raise_B ((q2 fun z => h2 z.2.1).same s12)))
      have := V.int.inj z
      rw [List.length_map] at this
      omega
    refine ifNP (by rw [List.length_map, nl.2 h2]) ?_
    refine ⟨_, rfl, d, kvs, rfl, s12 _ _ hd, _, rfl, a, _, rfl, .inl (SqL.of (s12 _ _ ha)), rfl, _, rfl, ?_⟩
    by_cases h3 : kvs.length = L.length
    case neg =>
      refine ifNN (fun z => h3 ?_) (raise_B ((q2 fun z => h3 z.2.2.1).same s12))
      have := V.int.inj z
      rw [List.length_map] at this
      omega
    refine ifNP (by rw [List.length_map, h3]) ?_
    refine ⟨_, rfl, a, rfl, ⟨_, SqL.of (s12 _ _ ha)⟩, fun D2 nD2 => ?_⟩
    refine lc_it (walk_list (xs := L.map V.str)) (fun i H' => Same (upd H1 st (TxO w st us)) H' ∧ H' D2 = some (.lst (((L.take i).map fun x => !(valV kvs (Sum.inr x)).isSome).map V.bl))) ⟨same_new nD2, upd_same⟩ (fun i H' _ hI => SqL.of (hI.1 _ _ (s12 _ _ ha))) (fun i v Ha Hb hi hI y => ?_) (fun H3 hI => ?_)
    · obtain ⟨rfl, ex⟩ := y
      obtain ⟨sa, eD2⟩ := hI
      have ex' : (L.map V.str)[i]? = some v := ex
      rw [List.getElem?_map] at ex'
      obtain ⟨x, hx, rfl⟩ := Option.map_eq_some_iff.mp ex'
      rw [List.length_map] at hi
      refine ⟨rfl, yes_if ?_⟩
      refine ⟨_, rfl, _, rfl, d, _, rfl, DGet.k (k := Sum.inr x) (sa _ _ (s12 _ _ hd)), ?_⟩
      refine ⟨_, eD2, small1000 (by rw [List.length_map, List.length_map, List.length_take]; omega), same_upd sa nD2, ?_⟩
      rw [upd_same, List.take_add_one, hx, List.map_append, List.map_append]
      rfl
    obtain ⟨s3, eD2⟩ := hI
    rw [List.length_map, List.take_length] at eD2
    have s13 := s12.trans s3
    refine ⟨D2, _, rfl, SqL.of eD2, _, rfl, ?_⟩
    by_cases h4 : ∀ x ∈ L, (valV kvs (Sum.inr x)).isSome = true
    · have : ((L.map fun x => !(valV kvs (Sum.inr x)).isSome).any id) = false := by
        rw [← Bool.not_eq_true]
        intro z
        obtain ⟨b, hb, e⟩ := List.any_eq_true.mp z
        obtain ⟨x, hx, rfl⟩ := List.mem_map.mp hb
        have := h4 x hx
        rw [show id (!(valV kvs (Sum.inr x)).isSome) = !(valV kvs (Sum.inr x)).isSome from rfl, this] at e
        cases e
      rw [this]
      exact iteF (q1 ⟨h1, h2, h3, h4⟩ _ s13)
    · have : ((L.map fun x => !(valV kvs (Sum.inr x)).isSome).any id) = true := by
        refine Classical.byContradiction fun z => h4 fun x hx => ?_
        refine Classical.byContradiction fun y => z (List.any_eq_true.mpr ⟨_, List.mem_map.mpr ⟨x, hx, rfl⟩, ?_⟩)
        rw [Bool.not_eq_true] at y
        show (!(valV kvs (Sum.inr x)).isSome) = true
        rw [y]
        rfl
      rw [this]
      exact iteT (raise_B ((q2 fun z => h4 z.2.2.2).same s13))
/-- a table whose rows have so many things -/
def RowL (H : Hp) (v : V) (k : Nat) : Prop := ∃ (r : Addr) (ps : List V), v = .ref r ∧ H r = some (.lst ps) ∧ ps.length = k
def TabL (H : Hp) (v : V) (ks : List Nat) : Prop := ∃ (r : Addr) (rs : List V), v = .ref r ∧ H r = some (.lst rs) ∧ Paired (RowL H) rs ks
theorem RowL.grow {g : Addr} {H H' : Hp} {o : HO} (hg : H g = some o) (ng : ∀ xs, o ≠ .lst xs) (s : Grow g H H') {v : V} {k : Nat} (h : RowL H v k) : RowL H' v k := by
  obtain ⟨r, ps, e, h1, h2⟩ := h
  exact ⟨r, ps, e, s _ _ (fun z => by rw [z, hg] at h1; exact ng _ (Option.some.inj h1)) h1, h2⟩
theorem TabL.grow {g : Addr} {H H' : Hp} {o : HO} (hg : H g = some o) (ng : ∀ xs, o ≠ .lst xs) (s : Grow g H H') {v : V} {ks : List Nat} (h : TabL H v ks) : TabL H' v ks := by
  obtain ⟨r, rs, e, h1, h2⟩ := h
  exact ⟨r, rs, e, s _ _ (fun z => by rw [z, hg] at h1; exact ng _ (Option.some.inj h1)) h1, pimp (fun _ _ z => z.grow hg ng s) h2⟩
/-- all tables have n rows of n things -/
def FitN (n : Nat) (ws : List (List Nat)) : Prop := ∀ ks ∈ ws, ks.length = n ∧ ∀ k ∈ ks, k = n
/-- a list or a tuple that stands there -/
def SqA (H : Hp) (a : Addr) (xs : List V) : Prop := H a = some (.lst xs) ∨ H a = some (.tup xs)
theorem SqA.sq {K : PySem.W.Frag} {H : Hp} {a : Addr} {xs : List V} (h : SqA H a xs) : SqL K H a xs ∨ SqT K H a xs := h.elim (fun z => .inl (SqL.of z)) fun z => .inr (SqT.of z)
theorem SqA.same {H H' : Hp} (s : Same H H') {a : Addr} {xs : List V} (h : SqA H a xs) : SqA H' a xs := h.elim (fun z => .inl (s _ _ z)) fun z => .inr (s _ _ z)
def spNLn (K : PySem.W.Frag) (C : Addr) : Sp := fun vs H Q E => ∃ (a d c : Addr) (bv ev : List V) (kvs : List (Key × V)) (ws : List (List Nat)), vs = [.ref a, .ref d, .ref c] ∧ SqA H a bv ∧ H c = some (.lst ev) ∧ bv.length ≤ 100 ∧ H d = some (.dK kvs) ∧ kvs.length ≤ 20 ∧ (kvs.map (·.1)).Nodup ∧ (∀ p ∈ kvs, ∃ x, p.1 = Sum.inr x) ∧ Paired (fun (p : Key × V) ks => TabL H p.2 ks) kvs ws ∧ (∀ ks ∈ ws, ks.length ≤ 100) ∧
  (ev.length = bv.length ∧ FitN bv.length ws → ∀ H', Same H H' → Q .non H') ∧ (¬ (ev.length = bv.length ∧ FitN bv.length ws) → raisesB C d H E)
end
end Nv

set_option maxRecDepth 100000
set_option maxHeartbeats 4000000
namespace Nv
open PySem PySem.Spec PyProof.Rows L2 NvSet LamX
theorem val_at {κ : Type} [DecidableEq κ] : ∀ {kvs : List (κ × V)} {i : Nat} {k : κ} {v : V}, (kvs.map (·.1)).Nodup → kvs[i]? = some (k, v) → valV kvs k = some v
  | [], _, _, _, _, h => by cases h
  | p :: r, 0, k, v, nd, h => by
    cases h
    unfold valV
    rw [List.find?_cons, decide_eq_true rfl]
    rfl
  | p :: r, i + 1, k, v, nd, h => by
    obtain ⟨n1, n2⟩ := List.nodup_cons.mp nd
    have ih := val_at (kvs := r) (i := i) n2 h
    have ne : p.1 ≠ k := fun z => n1 (by show p.1 ∈ r.map (·.1); rw [z]; exact List.mem_map.mpr ⟨_, List.mem_of_getElem? h, rfl⟩)
    unfold valV at ih ⊢
    rw [List.find?_cons, decide_eq_false ne]
    exact ih
section
variable {P : Program} {w : World} {K : PySem.W.Frag} {mg : Str → Option Value} {base : Heap} {CN C fN fI : Addr}
theorem ok_nln {f : Addr} {fd fdI : FuncData} (F : Fun K "need_lengths" "need_lengths" sNLn f fd) (B : Blt mg) (many : mg "any" = none) (R : ErrB K mg CN C fN fI) (GI : FnOk P w K mg base CX0 2 fI fdI ["self"] (spBM C)) (bI : Binds K fdI ["self"] []) :
    FnOk P w K mg base (L2.CX P w) 4 f fd ["begin", "steps", "end"] (spNLn K C) := by
  refine F.okX scNLn (fun vs H Q E h => ?_) (fun cdv A outer s H vs Q E hr h => ?_)
  · obtain ⟨a, d, c, bv, ev, kvs, ws, rfl, _⟩ := h
    rfl
  · obtain ⟨a, d, c, bv, ev, kvs, ws, rfl, ha, hc, lb, hd, lk, ndk, txt, hw, lw, q1, q2⟩ := h
    refine ⟨_, pss_cons (ps_set (i := 3) scNLn.nd rfl (by first | exact .inl rfl | exact .inr rfl) (pe_callB call_len_seq (by rfl) B.len PySem.boot_len (pa_cons (pv 0) pa_nil)))
      (pss_cons (ps_if (pt_cmpR op_ne (pe_callB call_len_seq (by rfl) B.len PySem.boot_len (pa_cons (pv 2) pa_nil)) (pv 3) (nomark _)) (pss_one (ps_raise rfl (takes_of rfl rfl rfl rfl) (pmk_bare R.oex R.iC R.tI GI hr bI pass0 (by rfl) R.gC))) pss_nil)
      (pss_one (ps_lock (ps_for (passes_of rfl) rfl (pi_keys (pv 1)) (pg_name (i := 4) scNLn.nd rfl (by first | exact .inl rfl | exact .inr rfl))
        (pss_one (ps_if (PW.pt (pw_or (pt_cmpR op_ne (pe_callB call_len_seq (by rfl) B.len PySem.boot_len (pa_cons (pe_dget (hu_of hr) (pv 1) (pv 4) (fun _ _ => rfl)) pa_nil)) (pv 3) (nomark _))
            (pw_or1 (pt_val (pe_callB (cr_any rfl) (by rfl) many (by decide +kernel) (pa_cons (pe_lc (own := [("row", 5)]) (g := gName 5) (tt := tYes) rfl scNLn.nd (pi_list (pe_dget (hu_of hr) (pv 1) (pv 4) (fun _ _ => rfl))) (blkOk_by (N := ["begin", "steps", "end", "many", "letter", "row"]) (sc := defScope sNLn) (by decide +kernel))
              (fun _ _ _ _ _ => pg_name (i := 5) scNLn.nd rfl (Or.inl rfl)) (fun _ _ _ _ _ => pts_nil) (fun _ _ _ _ _ => pe_cmpR op_ne (pe_callB (r := fun xs H Q => ∃ a ys, xs = [V.ref a] ∧ (SqL K H a ys ∨ SqT K H a ys) ∧ Q (.int ys.length) H) call_len_seq (by rfl) B.len PySem.boot_len (pa_cons (pv 5) pa_nil)) (pv 3) (nomark _))) pa_nil)))))) (pss_one (ps_raise rfl (takes_of rfl rfl rfl rfl) (pmk_bare R.oex R.iC R.tI GI hr bI pass0 (by rfl) R.gC))) pss_nil)))))), ?_⟩
    refine ⟨_, rfl, a, _, rfl, ha.sq, ?_⟩
    refine ⟨_, rfl, c, _, rfl, .inl (SqL.of hc), _, rfl, rfl, _, rfl, ?_⟩
    by_cases h1 : ev.length = bv.length
    case neg =>
      refine ifNN (fun z => h1 ?_) (raise_B (q2 fun z => h1 z.1))
      have := V.int.inj z
      omega
    refine ifNP (by rw [h1]) ?_
    refine ⟨d, .dK kvs, hd, trivial, fun od => ?_⟩
    have nl : ∀ xs : List V, (HO.dK kvs) ≠ .lst xs := fun xs z => by cases z
    have g0 : Grow d H (upd H d (.frz od (.dK kvs))) := upd_grow
    have e0 : upd H d (.frz od (.dK kvs)) d = some (.frz od (.dK kvs)) := upd_same
    have f0 : ∀ z, upd H d (.frz od (.dK kvs)) z = none → H z = none := fun z hz => by
      by_cases y : z = d
      · rw [y, upd_same] at hz; cases hz
      · rw [upd_ne y] at hz; exact hz
    have back : ∀ {H' : Hp}, Same (upd H d (.frz od (.dK kvs))) H' → Same H (upd H' d (.dK kvs)) := fun {H'} s1 z o hz => by
      by_cases y : z = d
      · rw [y, upd_same]; rw [y, hd] at hz; exact hz
      · rw [upd_ne y]; exact s1 _ _ (by rw [upd_ne y]; exact hz)
    generalize hH0 : upd H d (.frz od (.dK kvs)) = H0 at *
    refine ⟨_, rfl, d, od, rfl, .inl ⟨kvs, e0, for_it walk_keys (fun i σ H' => (∃ y4 y5, σ = [some (.ref a), some (.ref d), some (.ref c), some (.int (bv.length : Int)), y4, y5]) ∧ Same H0 H' ∧ FitN bv.length (ws.take i)) ⟨⟨none, none, rfl⟩, (fun _ _ h => h), fun ks hk => by cases hk⟩ (fun i σ H' _ hI => hI.2.1 _ _ e0) (fun i x σ Ha Hb hi hI y => ?_) (fun σ H' hI => ?_)⟩⟩
    · obtain ⟨⟨y4, y5, rfl⟩, sa, fit⟩ := hI
      obtain ⟨rfl, k, v, hk, rfl⟩ := y
      have hga := sa _ _ e0
      obtain ⟨z, rfl⟩ : ∃ z, k = Sum.inr z := txt (k, v) (List.mem_of_getElem? hk)
      obtain ⟨ks, eks, tb⟩ := L2.paired_get hw hk
      have tb0 : TabL H v ks := tb
      have tba : TabL Hb v ks := tb0.grow hd nl (fun u o ne hu => sa _ _ (g0 _ _ ne hu))
      obtain ⟨r, rs, rfl, hr1, hrs⟩ := tba
      have lks := lw ks (List.mem_of_getElem? eks)
      have lrs := Paired.length hrs
      have dg : ∀ {H' : Hp}, Same Hb H' → DGet H' d (.str z) (some (.ref r)) := fun sh => .inl ⟨kvs, Sum.inr z, .inr ⟨od, sh _ _ hga⟩, rfl, (val_at ndk hk).symm⟩
      have raise : ∀ {H' : Hp}, Same Hb H' → ¬ (ks.length = bv.length ∧ ∀ k ∈ ks, k = bv.length) → raisesB C d H' E := fun {H'} sh nf => by
        refine ((q2 fun y => nf (y.2 ks (List.mem_of_getElem? eks))).grow g0 f0).same (sa.trans sh)
      have next : ∀ {H' : Hp}, Same Hb H' → (ks.length = bv.length ∧ ∀ k ∈ ks, k = bv.length) → Same H0 H' ∧ FitN bv.length (ws.take (i + 1)) := fun {H'} sh ft => by
        refine ⟨sa.trans sh, fun ks' hk' => ?_⟩
        rw [List.take_add_one, eks] at hk'
        rcases List.mem_append.mp hk' with e | e
        · exact fit ks' e
        · rw [List.mem_singleton.mp e]; exact ft
      refine ⟨_, rfl, _, rfl, d, _, rfl, dg (fun _ _ h => h), r, _, rfl, .inl (SqL.of hr1), _, rfl, rfl, _, rfl, ?_⟩
      by_cases h2 : ks.length = bv.length
      case neg =>
        refine ifNN (fun y => h2 ?_) (iteT ⟨?_, ?_⟩)
        · have := V.int.inj y
          omega
        · exact (raise_B (raise (fun _ _ h => h) fun y => h2 y.1)).1
        · exact (raise_B (raise (fun _ _ h => h) fun y => h2 y.1)).2
      refine ifNP (by rw [lrs, h2]) ?_
      refine ⟨_, rfl, _, rfl, d, _, rfl, dg (fun _ _ h => h), r, rfl, ⟨_, SqL.of hr1⟩, fun D nD => ?_⟩
      refine lc_it (walk_list (xs := rs)) (fun j H' => Same Hb H' ∧ H' D = some (.lst (((ks.take j).map fun k => !decide (k = bv.length)).map V.bl))) ⟨same_new nD, upd_same⟩ (fun j H' _ hJ => SqL.of (hJ.1 _ _ hr1)) (fun j v Hc Hd hj hJ y => ?_) (fun H1 hJ => ?_)
      · obtain ⟨rfl, ex⟩ := y
        obtain ⟨sb, eD⟩ := hJ
        obtain ⟨k2, ek2, r2, ps, rfl, hr2, lps⟩ := L2.paired_get hrs ex
        refine ⟨rfl, yes_if ?_⟩
        refine ⟨_, rfl, r2, _, rfl, .inl (SqL.of (sb _ _ hr2)), _, rfl, rfl, ?_⟩
        refine ⟨_, eD, small1000 (by rw [List.length_map, List.length_map, List.length_take]; omega), same_upd sb nD, ?_⟩
        rw [upd_same, List.take_add_one, ek2, List.map_append, List.map_append]
        have : (!decide (V.int (ps.length : Int) = V.int (bv.length : Int))) = !decide (k2 = bv.length) := by
          rw [lps]
          by_cases y : k2 = bv.length
          · rw [decide_eq_true y, y, decide_eq_true rfl]
          · rw [decide_eq_false y, decide_eq_false (fun z => y (by have := V.int.inj z; omega))]
        rw [this]
        rfl
      obtain ⟨sb, eD⟩ := hJ
      rw [lrs, List.take_length] at eD
      refine ⟨D, _, rfl, SqL.of eD, _, rfl, ?_⟩
      by_cases h3 : ∀ k ∈ ks, k = bv.length
      · have : ((ks.map fun k => !decide (k = bv.length)).any id) = false := by
          rw [← Bool.not_eq_true]
          intro y
          obtain ⟨b, hb, e⟩ := List.any_eq_true.mp y
          obtain ⟨k2, hk2, rfl⟩ := List.mem_map.mp hb
          rw [show id (!decide (k2 = bv.length)) = !decide (k2 = bv.length) from rfl, decide_eq_true (h3 k2 hk2)] at e
          cases e
        rw [this]
        obtain ⟨n1, n2⟩ := next sb ⟨h2, h3⟩
        exact iteF ⟨⟨_, _, rfl⟩, n1, n2⟩
      · have : ((ks.map fun k => !decide (k = bv.length)).any id) = true := by
          refine Classical.byContradiction fun y => h3 fun k2 hk2 => ?_
          refine Classical.byContradiction fun u => y (List.any_eq_true.mpr ⟨_, List.mem_map.mpr ⟨k2, hk2, rfl⟩, ?_⟩)
          show (!decide (k2 = bv.length)) = true
          rw [decide_eq_false u]
          rfl
        rw [this]
        exact iteT (raise_B (raise sb fun y => h3 y.2))
    · obtain ⟨⟨y4, y5, rfl⟩, sa, fit⟩ := hI
      rw [Paired.length hw, List.take_length] at fit
      exact ⟨sa _ _ e0, q1 ⟨h1, fit⟩ _ (back sa)⟩
end
end Nv

set_option maxRecDepth 100000
set_option maxHeartbeats 8000000
namespace Nv
open PySem PySem.Spec PyProof.Rows L2 NvSet LamX
theorem blk_none {N : List Str} {sc sc0 scope : Scope} {own : List (Str × Nat)} (h : BlkOk N sc0 scope own) (hx : (scope.names.all fun y => !decide (y.2 = .free)) = true) : BlkOk N sc scope own :=
  ⟨h.kind, h.uniq, h.ix, fun y hy e => by
    have z := List.all_eq_true.mp hx y hy
    rw [Bool.not_eq_true', decide_eq_false_iff_not] at z
    exact absurd e z, h.own⟩
theorem tk_dK {H : Hp} {p : Addr} {kvs : List (Key × V)} {o : HO} (h : H p = some (.dK kvs)) : TupKeep H (upd H p o) := fun a xs e => by
  rw [upd_ne (fun z => by rw [z, h] at e; cases e)]
  exact e
theorem tk_no {H : Hp} {p : Addr} {o0 o : HO} (h : H p = some o0) (n : ∀ xs, o0 ≠ .tup xs) : TupKeep H (upd H p o) := fun a xs e => by
  rw [upd_ne (fun z => by rw [z, h] at e; cases e; exact n _ rfl)]
  exact e
theorem putK_new {kvs : List (Key × V)} {k : Key} {v : V} (h : k ∉ kvs.map (·.1)) : putK kvs k v = kvs ++ [(k, v)] := by
  unfold putK
  rw [if_neg]
  intro z
  obtain ⟨q, hq, e⟩ := List.any_eq_true.mp z
  exact h (List.mem_map.mpr ⟨q, hq, of_decide_eq_true e⟩)
/-! shares, rows and tables that stand in memory; N: whose lists they are -/
def ShV (H : Hp) (v : V) (x : Int × Int) : Prop := ∃ p, v = .ref p ∧ H p = some (.tup [.int x.1, .int x.2])
theorem ShV.tk {H H' : Hp} (k : TupKeep H H') {v : V} {x : Int × Int} (h : ShV H v x) : ShV H' v x := by
  obtain ⟨p, e, hp⟩ := h
  exact ⟨p, e, k _ _ hp⟩
theorem ShV.shs {K : PySem.W.Frag} {H : Hp} {v : V} {x : Int × Int} (h : ShV H v x) : ShS K H v x := by
  obtain ⟨p, e, hp⟩ := h
  exact ⟨p, e, SqT.of hp⟩
def RowN (N : Addr → Prop) (H : Hp) (v : V) (xs : List (Int × Int)) : Prop := ∃ (r : Addr) (ps : List V), v = .ref r ∧ N r ∧ H r = some (.lst ps) ∧ Paired (ShV H) ps xs
def TabN (N : Addr → Prop) (H : Hp) (v : V) (T : List (List (Int × Int))) : Prop := ∃ (r : Addr) (rs : List V), v = .ref r ∧ N r ∧ H r = some (.lst rs) ∧ Paired (RowN N H) rs T
structure Tr (N : Addr → Prop) (H H' : Hp) : Prop where
  own : ∀ a o, N a → H a = some o → H' a = some o
  tup : TupKeep H H'
theorem Tr.of {N : Addr → Prop} {H H' : Hp} (s : Same H H') : Tr N H H' := ⟨fun a o _ h => s _ _ h, Same.tk s⟩
theorem Tr.trans {N : Addr → Prop} {H H1 H2 : Hp} (a : Tr N H H1) (b : Tr N H1 H2) : Tr N H H2 := ⟨fun x o n h => b.own x o n (a.own x o n h), a.tup.trans b.tup⟩
section
variable {N M : Addr → Prop} {H H' : Hp} {K : PySem.W.Frag}
theorem RowN.tr (t : Tr N H H') {v : V} {xs : List (Int × Int)} (h : RowN N H v xs) : RowN N H' v xs := by
  obtain ⟨r, ps, e, n, h1, h2⟩ := h
  exact ⟨r, ps, e, n, t.own _ _ n h1, pimp (fun _ _ z => z.tk t.tup) h2⟩
theorem TabN.tr (t : Tr N H H') {v : V} {T : List (List (Int × Int))} (h : TabN N H v T) : TabN N H' v T := by
  obtain ⟨r, rs, e, n, h1, h2⟩ := h
  exact ⟨r, rs, e, n, t.own _ _ n h1, pimp (fun _ _ z => z.tr t) h2⟩
theorem RowN.imp (t : ∀ a, N a → M a) {v : V} {xs : List (Int × Int)} (h : RowN N H v xs) : RowN M H v xs := by
  obtain ⟨r, ps, e, n, h1, h2⟩ := h
  exact ⟨r, ps, e, t _ n, h1, h2⟩
theorem TabN.imp (t : ∀ a, N a → M a) {v : V} {T : List (List (Int × Int))} (h : TabN N H v T) : TabN M H v T := by
  obtain ⟨r, rs, e, n, h1, h2⟩ := h
  exact ⟨r, rs, e, t _ n, h1, pimp (fun _ _ z => z.imp t) h2⟩
theorem RowN.rowS {v : V} {xs : List (Int × Int)} (h : RowN N H v xs) : RowS K H v xs := by
  obtain ⟨r, ps, e, n, h1, h2⟩ := h
  exact ⟨r, ps, e, h1, pimp (fun _ _ z => z.shs) h2⟩
theorem TabN.tabS {v : V} {T : List (List (Int × Int))} (h : TabN N H v T) : TabS' K H v T := by
  obtain ⟨r, rs, e, n, h1, h2⟩ := h
  exact ⟨r, rs, e, h1, pimp (fun _ _ z => z.rowS) h2⟩
end
abbrev sMIni : Stmt := inClass (topS 58) 0
abbrev nMIni : List Str := ["self", "letters", "begin", "steps", "end", "order", "tables", "letter", "row"]
theorem scMIni : FnScope nMIni ["self", "letters", "begin", "steps", "end"] (defScope sMIni) := ⟨rfl, rfl, rfl, by decide +kernel, rfl, by decide +kernel, by decide +kernel⟩
def fs2 (b s : V) : List (Str × V) := [("build", b), ("scales", s)]
structure ClsM (K : PySem.W.Frag) (C : Addr) : Prop where
  cl : Cls K C
  nB : NoAttr K C "build"
  nS : NoAttr K C "scales"
/-- a machine and all that is its own -/
def MachN (N : Addr → Prop) (CM CB : Addr) (H : Hp) (x : Addr) (L : List Str) (b e : List (Int × Int)) (T : Str → List (List (Int × Int))) : Prop := ∃ (dx bb sc db o f t l : Addr) (fv lv : List V) (kvs : List (Key × V)),
  N x ∧ H x = some (.ins CM dx (fs2 (.ref bb) (.ref sc))) ∧ N bb ∧ H bb = some (.ins CB db (fs4 (.ref o) (.ref f) (.ref t) (.ref l))) ∧ N o ∧ H o = some (.lst (L.map V.str)) ∧ N f ∧ H f = some (.lst fv) ∧ Paired (ShV H) fv b ∧ N l ∧ H l = some (.lst lv) ∧ Paired (ShV H) lv e ∧
  N t ∧ H t = some (.dK kvs) ∧ kvs.map (·.1) = L.map Sum.inr ∧ Paired (fun (p : Key × V) y => TabN N H p.2 (T y)) kvs L
theorem MachN.tr {N : Addr → Prop} {CM CB : Addr} {H H' : Hp} {x : Addr} {L : List Str} {b e : List (Int × Int)} {T : Str → List (List (Int × Int))} (t : Tr N H H') (h : MachN N CM CB H x L b e T) : MachN N CM CB H' x L b e T := by
  obtain ⟨dx, bb, sc, db, o, f, tt, l, fv, lv, kvs, n1, h1, n2, h2, n3, h3, n4, h4, p4, n5, h5, p5, n6, h6, h7, h8⟩ := h
  exact ⟨dx, bb, sc, db, o, f, tt, l, fv, lv, kvs, n1, t.own _ _ n1 h1, n2, t.own _ _ n2 h2, n3, t.own _ _ n3 h3, n4, t.own _ _ n4 h4, pimp (fun _ _ z => z.tk t.tup) p4, n5, t.own _ _ n5 h5, pimp (fun _ _ z => z.tk t.tup) p5, n6, t.own _ _ n6 h6, h7, pimp (fun _ _ z => z.tr t) h8⟩
/-- what Machine is handed -/
structure Handed (H : Hp) (aL aB aS aE : Addr) (L : List Str) (bv ev : List V) (kvs : List (Key × V)) (ws : List (List Nat)) : Prop where
  hL : H aL = some (.lst (L.map V.str))
  lL : L.length ≤ 20
  tL : ∀ x ∈ L, Small x ∨ (6 < x.length ∧ x.length ≤ 1000)
  hB : SqA H aB bv
  lB : bv.length ≤ 100
  hE : H aE = some (.lst ev)
  lE : ev.length ≤ 100
  hS : H aS = some (.dK kvs)
  lS : kvs.length ≤ 20
  nd : (kvs.map (·.1)).Nodup
  txt : ∀ p ∈ kvs, ∃ x, p.1 = Sum.inr x
  tab : Paired (fun (p : Key × V) ks => TabL H p.2 ks) kvs ws
  lw : ∀ ks ∈ ws, ks.length ≤ 100
def Fits (L : List Str) (bv ev : List V) (kvs : List (Key × V)) (ws : List (List Nat)) : Prop := FitLS L kvs ∧ ev.length = bv.length ∧ FitN bv.length ws
def spMIni (C CM CB : Addr) : Sp := fun vs H Q E => ∃ (x dx aL aB aS aE : Addr) (L : List Str) (bv ev : List V) (kvs : List (Key × V)) (ws : List (List Nat)) (b e : List (Int × Int)) (T : Str → List (List (Int × Int))), vs = [.ref x, .ref aL, .ref aB, .ref aS, .ref aE] ∧ H x = some (.ins CM dx []) ∧ Handed H aL aB aS aE L bv ev kvs ws ∧
  (Fits L bv ev kvs ws → Engine L bv.length b e T ∧ Paired (ShV H) bv b ∧ Paired (ShV H) ev e ∧ (∀ y ∈ L, ∃ v, valV kvs (Sum.inr y) = some v ∧ TabN (fun _ => True) H v (T y)) ∧
    ∀ (L' : List Str) (H' : Hp), L'.Perm L → sortedS L' = true → Grow x H H' → MachN (fun a => a = x ∨ H a = none) CM CB H' x L' b e T → Q .non H') ∧
  (¬ Fits L bv ev kvs ws → raisesB C aS H E)
/-- a def that may raise, called by its name -/
structure CalX (P : Program) (w : World) (K : PySem.W.Frag) (mg : Str → Option Value) (base : Heap) (k : Nat) (x : Str) (sp : Sp) (dvs : List V) : Prop where
  ex : ∃ (f : Addr) (fd : FuncData) (ps : List Str) (ds : List Value), FnOk P w K mg base (L2.CX P w) k f fd ps sp ∧ mg x = some (.ref f) ∧ PySem.W.keepIn K (.ref f) = true ∧ Binds K fd ps ds ∧ Vals dvs ds
theorem pe_cxE {X : Cx} {k j : Nat} {x : Str} {sp : Sp} {dvs : List V} {e : Expr} {es : List Expr} {p pos : Pos} {t : TA} {E : XK} (c : CalX X.prog X.w X.K X.mg X.base k x sp dvs) (hr : Room j X.A) (hk : k ≤ j) (hx : Passes (L2.CX X.prog X.w) X E) (hg : Gl X x) (ha : PA X (e :: es) t)
    (hdb : (x == ("__debug__" : Str)) = false := by decide) (he : starEach (e :: es) X.env = (false, eval e X.env) :: starEach es X.env := by rfl) (hpl : (backTo pos (starEach es X.env)).any (·.1) = false := by rfl) :
    PE X (.Call (.Name x p) (e :: es) [] pos) (tCall sp dvs E t) := by
  obtain ⟨f, fd, ps, ds, F, hm, kp, b, d⟩ := c.ex
  exact pe_call F (hr.mono hk) hg hm kp b d hx ha hdb he hpl
section
variable {P : Program} {w : World} {K : PySem.W.Frag} {mg : Str → Option Value} {base : Heap} {C : Addr}
theorem ok_mini {f CM CB fB : Addr} {fd fdB : FuncData} (F : Fun K "__init__" "Machine.__init__" sMIni f fd) (B : Blt mg) (srt : mg "sorted" = none) (TM : ClsM K CM) (TB : Cls4 K CB) (MB : Mk K CB fB) (GB : FnOk P w K mg base CX0 1 fB fdB n4 (spIni4 CB)) (bB : Binds K fdB n4 []) (gB : mg "Build" = some (.ref CB))
    (G1 : CalX P w K mg base 4 "need_letters_and_steps" (spNLS K C) []) (G2 : CalX P w K mg base 4 "need_lengths" (spNLn K C) []) (GS : C8.Cal P w K mg base 5 "scales_of" (spScl K CB) []) : FnOk P w K mg base (L2.CX P w) 6 f fd ["self", "letters", "begin", "steps", "end"] (spMIni C CM CB) := by
  refine F.okX scMIni (fun vs H Q E h => ?_) (fun cdv A outer s H vs Q E hr h => ?_)
  · obtain ⟨x, dx, aL, aB, aS, aE, L, bv, ev, kvs, ws, b, e, T, rfl, _⟩ := h
    rfl
  · obtain ⟨x, dx, aL, aB, aS, aE, L, bv, ev, kvs, ws, b, e, T, rfl, hx, hh, q1, q2⟩ := h
    refine ⟨_, pss_cons (ps_expr (pe_cxE G1 hr (by decide) (passes_call (takes_of rfl rfl rfl rfl) (fun _ _ _ _ z => z)) (by rfl) (pa_cons (pv 1) (pa_cons (pv 3) pa_nil))))
      (pss_cons (ps_expr (pe_cxE G2 hr (by decide) (passes_call (takes_of rfl rfl rfl rfl) (fun _ _ _ _ z => z)) (by rfl) (pa_cons (pv 2) (pa_cons (pv 3) (pa_cons (pv 4) pa_nil)))))
      (pss_cons (ps_set (i := 5) scMIni.nd rfl (by first | exact .inl rfl | exact .inr rfl) (pe_callB cr_sortedS (by rfl) srt (by decide +kernel) (pa_cons (pv 1) pa_nil)))
      (pss_cons (ps_setDc (i := 6) (own := [("letter", 7)]) (g := gName 7) (tt := tYes) rfl scMIni.nd rfl rfl (sw_trueD rfl rfl rfl (by decide +kernel)) (pi_list (pv 5)) (blkOk_by (N := nMIni) (sc := defScope sMIni) (by decide +kernel))
        (fun _ _ _ _ _ => pg_name (i := 7) scMIni.nd rfl (Or.inl rfl)) (fun _ _ _ _ _ => pts_nil) (fun _ _ _ _ _ => pv 7)
        (fun _ _ _ _ _ => pe_lc (own := [("row", 8)]) (g := gName 8) (tt := tYes) rfl scMIni.nd (pi_listK K (pe_dget (hu_of hr) (pv 3) (pv 7) (fun _ _ => rfl))) (blk_none (blkOk_by (N := nMIni) (sc := defScope sMIni) (by decide +kernel)) (by decide +kernel))
          (fun _ _ _ _ _ => pg_name (i := 8) scMIni.nd rfl (Or.inl rfl)) (fun _ _ _ _ _ => pts_nil) (fun _ _ _ _ _ => pe_callTy (r := fun xs H Q => ∃ p ys, xs = [.ref p] ∧ (SqL K H p ys ∨ SqT K H p ys) ∧ ∀ l, H l = none → Q (.ref l) (upd H l (.lst ys))) call_list_of (by rfl) B.lst (by decide +kernel) (pa_cons (pv 8) pa_nil))))
      (pss_cons (ps_fld (pv 0) (pe_make MB GB (hr.mono (by decide)) (by rfl) gB bB .nil pass0 (pa_cons (pv 5) (pa_cons (pe_callTy call_list_of (by rfl) B.lst (by decide +kernel) (pa_cons (pv 2) pa_nil)) (pa_cons (pv 6) (pa_cons (pe_callTy call_list_of (by rfl) B.lst (by decide +kernel) (pa_cons (pv 4) pa_nil)) pa_nil))))) rfl)
      (pss_one (ps_fld (pv 0) (C8.pe_c GS hr (by decide) (by rfl) (pa_cons (pe_fld (pv 0) rfl) pa_nil)) rfl)))))), ?_⟩
    refine ⟨_, rfl, _, rfl, aL, aS, L, kvs, rfl, hh.hL, hh.lL, hh.tL, hh.hS, fun ft1 H1 s1 => ?_, fun nf => q2 fun z => nf z.1⟩
    refine ⟨_, rfl, _, rfl, _, rfl, aB, aS, aE, bv, ev, kvs, ws, rfl, hh.hB.same s1, s1 _ _ hh.hE, hh.lB, s1 _ _ hh.hS, hh.lS, hh.nd, hh.txt, pimp (fun _ _ z => z.grow (g := x) hx (fun _ y => nomatch y) (Same.grow s1)) hh.tab, hh.lw, fun ft2 H2 s2 => ?_, fun nf => (q2 fun z => nf z.2).same s1⟩
    have s12 := s1.trans s2
    obtain ⟨En, pb, pe', hT, q1⟩ := q1 ⟨ft1, ft2⟩
    have lL := hh.lL
    refine ⟨_, rfl, aL, L, rfl, SqL.of (s12 _ _ hh.hL), by omega, fun L' o pm so no => ?_⟩
    have no0 : H o = none := s12.free no
    have s3 : Same H (upd H2 o (.lst (L'.map V.str))) := s12.trans (same_new no)
    have mem' : ∀ y, y ∈ L' ↔ y ∈ L := fun y => pm.mem_iff
    have nd' : L'.Nodup := pm.nodup_iff.mpr ft1.2.1
    have ll' : L'.length = L.length := pm.length_eq
    have few := En.few
    generalize eH3 : upd H2 o (.lst (L'.map V.str)) = H3 at *
    have ho3 : H3 o = some (.lst (L'.map V.str)) := by rw [← eH3]; exact upd_same
    refine ⟨_, rfl, o, rfl, ⟨_, SqL.of ho3⟩, fun D nD => ?_⟩
    have nD0 : H D = none := s3.free nD
    refine lc_any (walk_list (xs := L'.map V.str)) (fun i H' => Same H3 H' ∧ ∃ kk, H' D = some (.dK kk) ∧ kk.map (·.1) = (L'.take i).map Sum.inr ∧ Paired (fun (p : Key × V) y => TabN (fun a => H a = none ∧ a ≠ D) H' p.2 (T y)) kk (L'.take i)) ⟨same_new nD, [], upd_same, rfl, .nil⟩ (fun i H' _ hI => SqL.of (hI.1 _ _ ho3)) (fun i v Ha Hb hi hI y => ?_) (fun H4 hI => ?_)
    · obtain ⟨rfl, ex⟩ := y
      obtain ⟨sa, kk, eD, ek, pk⟩ := hI
      have ex' : (L'.map V.str)[i]? = some v := ex
      rw [List.getElem?_map] at ex'
      obtain ⟨z, hz, rfl⟩ := Option.map_eq_some_iff.mp ex'
      have mz := (mem' z).mp (List.mem_of_getElem? hz)
      obtain ⟨tv, etv, r, rs, rfl, _, hr1, hrs⟩ := hT z mz
      have sq := En.sq z mz
      have n12 := En.n12
      have lrs : rs.length = bv.length := by rw [Paired.length hrs, sq.len]
      have sHa := s3.trans sa
      have lk : kk.length ≤ 3 := by
        have := congrArg List.length ek
        rw [List.length_map, List.length_map, List.length_take] at this
        omega
      refine ⟨rfl, yes_if ?_⟩
      refine ⟨_, rfl, _, rfl, _, rfl, aS, .ref r, rfl, ?_, r, rfl, ⟨_, SqL.of (sHa _ _ hr1)⟩, fun Di nDi => ?_⟩
      · have := DGet.k (k := Sum.inr z) (sHa _ _ hh.hS)
        rw [etv] at this
        exact this
      have nDi0 := sHa.free nDi
      refine lc_any (walk_list (xs := rs)) (fun j H' => Same Hb H' ∧ ∃ ys, H' Di = some (.lst ys) ∧ Paired (RowN (fun a => Hb a = none ∧ a ≠ Di) H') ys ((T z).take j)) ⟨same_new nDi, [], upd_same, .nil⟩ (fun j H' _ hI => SqL.of (hI.1 _ _ (sHa _ _ hr1))) (fun j v Hc Hd hj hI y => ?_) (fun H5 hI => ?_)
      · obtain ⟨rfl, ey⟩ := y
        obtain ⟨sb, ys, eDi, py⟩ := hI
        obtain ⟨xs, exs, q, ps, rfl, _, hq1, hps⟩ := L2.paired_get hrs ey
        refine ⟨rfl, yes_if ?_⟩
        refine ⟨_, rfl, q, ps, rfl, .inl (SqL.of (sHa.trans sb _ _ hq1)), fun l nl => ?_⟩
        have ly := Paired.length py
        rw [List.length_take] at ly
        have sl := same_new (o := .lst ps) nl
        have neL : l ≠ Di := fun e => by rw [e, eDi] at nl; cases nl
        have t1 : Tr (fun a => Hb a = none ∧ a ≠ Di) Hd (upd (upd Hd l (.lst ps)) Di (.lst (ys ++ [.ref l]))) := ⟨fun a o na e => by rw [upd_ne na.2]; exact sl _ _ e, (Same.tk sl).trans (tk_no (sl _ _ eDi) (fun _ e => by cases e))⟩
        have sz : Same H (upd (upd Hd l (.lst ps)) Di (.lst (ys ++ [.ref l]))) := same_upd ((sHa.trans sb).trans sl) nDi0
        refine ⟨ys, sl _ _ eDi, small1000 (by omega), same_upd (sb.trans sl) nDi, _, upd_same, ?_⟩
        rw [List.take_add_one, exs]
        exact psnoc ⟨l, ps, rfl, ⟨sb.free nl, neL⟩, by rw [upd_ne neL]; exact upd_same, pimp (fun _ _ z => z.tk (Same.tk sz)) hps⟩ (pimp (fun _ _ z => z.tr t1) py)
      · obtain ⟨sb, ys, eDi, py⟩ := hI
        rw [Paired.length hrs, List.take_length] at py
        have eD5 := sb _ _ eD
        have neD : Di ≠ D := fun e => by rw [e, eD] at nDi; cases nDi
        have t1 : Tr (fun a => H a = none ∧ a ≠ D) H5 (upd H5 D (.dK (kk ++ [(Sum.inr z, .ref Di)]))) := ⟨fun a o na e => by rw [upd_ne na.2]; exact e, tk_dK eD5⟩
        have new : Sum.inr z ∉ kk.map (·.1) := by
          rw [ek]
          intro h
          obtain ⟨u, hu, e⟩ := List.mem_map.mp h
          cases e
          obtain ⟨j, hj, ej⟩ := List.getElem_of_mem hu
          have hj2 : j < i := by rw [List.length_take] at hj; omega
          rw [List.getElem_take] at ej
          have hzi : i < L'.length := by rw [List.length_map] at hi; exact hi
          have ei := List.getElem_eq_iff hzi |>.mpr hz
          exact List.pairwise_iff_getElem.mp nd' j i (by omega) hzi hj2 (ej.trans ei.symm)
        refine ⟨kk, Sum.inr z, rfl, eD5, small1000 (by omega), ?_⟩
        rw [putK_new new]
        refine ⟨same_upd (sa.trans sb) nD, _, upd_same, ?_, ?_⟩
        · rw [List.map_append, ek, List.take_add_one, hz, List.map_append]
          rfl
        · rw [List.take_add_one, hz]
          refine psnoc ?_ (pimp (fun _ _ z => (z.tr (Tr.of sb)).tr t1) pk)
          refine TabN.tr t1 ?_
          refine TabN.imp (N := fun a => Hb a = none ∨ a = Di) (fun a na => ?_) ⟨Di, ys, rfl, .inr rfl, eDi, pimp (fun _ _ z => z.imp fun a na => .inl na.1) py⟩
          rcases na with na | rfl
          · exact ⟨sHa.free na, fun e => by rw [e, eD] at na; cases na⟩
          · exact ⟨nDi0, neD⟩
    · obtain ⟨s4, kk, eD, ek, pk⟩ := hI
      rw [List.length_map, List.take_length] at ek pk
      have s04 := s3.trans s4
      refine ⟨_, rfl, _, rfl, aB, bv, rfl, (hh.hB.same s04).sq, fun fa nfa => ?_⟩
      have s5 := same_new (o := .lst bv) nfa
      refine ⟨_, rfl, _, rfl, aE, ev, rfl, .inl (SqL.of ((s04.trans s5) _ _ hh.hE)), fun la nla => ?_⟩
      have s6 := same_new (o := .lst ev) nla
      intro z dz nz ndz ne
      refine ⟨z, dz, _, _, _, _, rfl, upd_same, rfl, ?_⟩
      rw [upd_twice]
      have sz1 := same_new (o := .own z) ndz
      have nz2 : upd (upd (upd H4 fa (.lst bv)) la (.lst ev)) dz (.own z) z = none := by rw [upd_ne ne.symm]; exact nz
      have s7 := s6.trans (sz1.trans (same_new (o := .ins CB dz (fs4 (.ref o) (.ref fa) (.ref D) (.ref la))) nz2))
      have s47 := s5.trans s7
      have s07 := s04.trans s47
      have nz0 : H z = none := (s04.trans (s5.trans s6)).free nz
      have nfa0 : H fa = none := s04.free nfa
      have nla0 : H la = none := (s04.trans s5).free nla
      have hfa := s7 _ _ (upd_same (H := H4) (a := fa) (o := .lst bv))
      have hla := (sz1.trans (same_new (o := .ins CB dz (fs4 (.ref o) (.ref fa) (.ref D) (.ref la))) nz2)) _ _ (upd_same (H := upd H4 fa (.lst bv)) (a := la) (o := .lst ev))
      have hz7 := upd_same (H := upd (upd (upd H4 fa (.lst bv)) la (.lst ev)) dz (.own z)) (a := z) (o := .ins CB dz (fs4 (.ref o) (.ref fa) (.ref D) (.ref la)))
      generalize eH7 : upd (upd (upd (upd H4 fa (.lst bv)) la (.lst ev)) dz (.own z)) z (.ins CB dz (fs4 (.ref o) (.ref fa) (.ref D) (.ref la))) = H7 at *
      have hx7 := s07 _ _ hx
      have hD7 := s47 _ _ eD
      have ho7 := (s4.trans s47) _ _ ho3
      have pk7 : Paired (fun (p : Key × V) y => TabN (fun a => H a = none) H7 p.2 (T y)) kk L' := pimp (fun _ _ z => (z.imp fun a na => na.1).tr (Tr.of s47)) pk
      have nx : ∀ a, H a = none → a ≠ x := fun a na e => by rw [e, hx] at na; cases na
      have t8 : ∀ (fs : List (Str × V)), Tr (fun a => H a = none) H7 (upd H7 x (.ins CM dx fs)) := fun fs => ⟨fun a o na e => by rw [upd_ne (nx a na)]; exact e, tk_no hx7 (fun _ e => by cases e)⟩
      refine ⟨_, rfl, x, CM, dx, _, rfl, hx7, TM.cl, TM.nB, (by decide), ?_⟩
      have t8 := t8 (putF "build" (.ref z) [])
      have hx8 := upd_same (H := H7) (a := x) (o := .ins CM dx (putF "build" (.ref z) []))
      have g8 : Grow x H7 (upd H7 x (.ins CM dx (putF "build" (.ref z) []))) := upd_grow
      generalize eH8 : upd H7 x (.ins CM dx (putF "build" (.ref z) [])) = H8 at *
      refine ⟨_, rfl, x, CM, dx, _, _, rfl, hx8, TM.cl, TM.nB, rfl, z, L', bv.length, b, e, T, rfl, ⟨dz, o, fa, D, la, bv, ev, kk, t8.own _ _ nz0 hz7, t8.own _ _ no0 ho7, t8.own _ _ nfa0 hfa, pimp (fun _ _ z => ((z.tk (Same.tk s07)).tk t8.tup).shs) pb, t8.own _ _ nla0 hla, pimp (fun _ _ z => ((z.tk (Same.tk s07)).tk t8.tup).shs) pe', t8.own _ _ nD0 hD7, fun y hy => ?_⟩, ⟨by omega, En.n12, En.lb, En.le, En.ltb, En.lte, fun y hy => En.sq y ((mem' y).mp hy)⟩, fun zs H9 s9 => ?_⟩
      · obtain ⟨i, hi, ei⟩ := List.getElem_of_mem hy
        have ei' : L'[i]? = some y := by rw [List.getElem?_eq_getElem hi, ei]
        have hik : i < kk.length := by rw [Paired.length pk7]; exact hi
        obtain ⟨u, eu, hu⟩ := L2.paired_get pk7 (List.getElem?_eq_getElem hik)
        rw [ei'] at eu
        cases eu
        have ky : kk[i].1 = Sum.inr y := by
          have := congrArg (fun l => l[i]?) ek
          simp only [List.getElem?_map, ei', List.getElem?_eq_getElem hik] at this
          exact Option.some.inj this
        refine ⟨kk[i].2, val_at (i := i) (by rw [ek]; exact List.pairwise_map.mpr (nd'.imp fun h e => h (Sum.inr.inj e))) (by rw [List.getElem?_eq_getElem hik, ← ky]), ?_⟩
        exact (hu.tr t8).tabS
      · refine ⟨_, rfl, x, CM, dx, _, rfl, s9 _ _ hx8, TM.cl, TM.nS, (by show (1 : Nat) < 1000; decide), ?_⟩
        have t10 : Tr (fun a => H a = none) H7 (upd H9 x (.ins CM dx (putF "scales" (.ref zs) (putF "build" (.ref z) [])))) := t8.trans ⟨fun a o na e => by rw [upd_ne (nx a na)]; exact s9 _ _ e, (Same.tk s9).trans (tk_no (s9 _ _ hx8) (fun _ e => by cases e))⟩
        refine q1 L' _ pm so (fun a o na e => ?_) ⟨dx, z, zs, dz, o, fa, D, la, bv, ev, kk, .inl rfl, ?_, .inr nz0, t10.own _ _ nz0 hz7, .inr no0, t10.own _ _ no0 ho7, .inr nfa0, t10.own _ _ nfa0 hfa, pimp (fun _ _ z => (z.tk (Same.tk s07)).tk t10.tup) pb, .inr nla0, t10.own _ _ nla0 hla, pimp (fun _ _ z => (z.tk (Same.tk s07)).tk t10.tup) pe', .inr nD0, t10.own _ _ nD0 hD7, ek, pimp (fun _ _ z => (z.tr t10).imp fun a na => .inr na) pk7⟩
        · rw [upd_ne na]
          exact s9 _ _ (g8 _ _ na (s07 _ _ e))
        · rw [upd_same]
          rfl
end
end Nv

set_option maxRecDepth 100000
set_option maxHeartbeats 8000000
namespace Nv
open PySem PySem.Spec PyProof.Rows L2 NvSet LamX
theorem val_none {kvs : List (Key × V)} {k : Key} (h : k ∉ kvs.map (·.1)) : valV kvs k = none := by
  unfold valV
  rw [Option.map_eq_none_iff, List.find?_eq_none]
  intro p hp e
  exact h (List.mem_map.mpr ⟨p, hp, of_decide_eq_true e⟩)
theorem mach_val {N : Addr → Prop} {H : Hp} {kvs : List (Key × V)} {L : List Str} {T : Str → List (List (Int × Int))} (nd : L.Nodup) (ek : kvs.map (·.1) = L.map Sum.inr) (pk : Paired (fun (p : Key × V) y => TabN N H p.2 (T y)) kvs L) {y : Str} (hy : y ∈ L) : ∃ v, valV kvs (Sum.inr y) = some v ∧ TabN N H v (T y) := by
  obtain ⟨i, hi, ei⟩ := List.getElem_of_mem hy
  have ei' : L[i]? = some y := by rw [List.getElem?_eq_getElem hi, ei]
  have hik : i < kvs.length := by rw [Paired.length pk]; exact hi
  obtain ⟨u, eu, hu⟩ := L2.paired_get pk (List.getElem?_eq_getElem hik)
  rw [ei'] at eu
  cases eu
  have ky : kvs[i].1 = Sum.inr y := by
    have := congrArg (fun l => l[i]?) ek
    simp only [List.getElem?_map, ei', List.getElem?_eq_getElem hik] at this
    exact Option.some.inj this
  exact ⟨kvs[i].2, val_at (i := i) (by rw [ek]; exact List.pairwise_map.mpr (nd.imp fun h e => h (Sum.inr.inj e))) (by rw [List.getElem?_eq_getElem hik, ← ky]), hu⟩
end Nv

set_option maxRecDepth 100000
set_option maxHeartbeats 8000000
namespace Nv
open PySem PySem.Spec PyProof.Rows L2 NvSet LamX
/-! shares, rows and tables as data -/
def shD (x : Int × Int) : PyData := .tuple [.int x.1, .int x.2]
def rowD (xs : List (Int × Int)) : PyData := .list (xs.map shD)
def tabD (T : List (List (Int × Int))) : PyData := .list (T.map rowD)
theorem all_map {α : Type} (f : α → PyData) (g : List PyData → Bool) (p : PyData → Bool) (h0 : g [] = true) (h1 : ∀ d ds, g (d :: ds) = (p d && g ds)) (hp : ∀ x, p (f x) = true) : ∀ l : List α, g (l.map f) = true
  | [] => h0
  | x :: l => by rw [List.map_cons, h1, hp, all_map f g p h0 h1 hp l]; rfl
theorem shD_lay (x : Int × Int) : (shD x).canLay0 = true := by simp [shD, PyData.canLay0, PyData.canLayAll0]
theorem shD_plain (x : Int × Int) : (shD x).plain = true := by simp [shD, PyData.plain, PyData.plainAll]
theorem rowD_lay (xs : List (Int × Int)) : (rowD xs).canLay0 = true := by
  unfold rowD PyData.canLay0
  exact all_map shD _ PyData.canLay0 (by rfl) (fun d ds => by rw [PyData.canLayAll0]) shD_lay xs
theorem rowD_plain (xs : List (Int × Int)) : (rowD xs).plain = true := by
  unfold rowD PyData.plain
  exact all_map shD _ PyData.plain (by rfl) (fun d ds => by rw [PyData.plainAll]) shD_plain xs
theorem tabD_lay (T : List (List (Int × Int))) : (tabD T).canLay0 = true := by
  unfold tabD PyData.canLay0
  exact all_map rowD _ PyData.canLay0 (by rfl) (fun d ds => by rw [PyData.canLayAll0]) rowD_lay T
theorem tabD_plain (T : List (List (Int × Int))) : (tabD T).plain = true := by
  unfold tabD PyData.plain
  exact all_map rowD _ PyData.plain (by rfl) (fun d ds => by rw [PyData.plainAll]) rowD_plain T
theorem depth_map {α : Type} (f : α → PyData) {k : Nat} (h : ∀ x, (f x).depth ≤ k) : ∀ l : List α, PyData.depthAll (l.map f) ≤ k
  | [] => Nat.zero_le _
  | x :: l => by
    rw [List.map_cons, PyData.depthAll]
    exact Nat.max_le.mpr ⟨h x, depth_map f h l⟩
theorem shD_depth (x : Int × Int) : (shD x).depth ≤ 1 := by simp [shD, PyData.depth, PyData.depthAll]
theorem rowD_depth (xs : List (Int × Int)) : (rowD xs).depth ≤ 2 := by
  have := depth_map shD shD_depth xs
  unfold rowD PyData.depth
  omega
theorem tabD_depth (T : List (List (Int × Int))) : (tabD T).depth ≤ 3 := by
  have := depth_map rowD rowD_depth T
  unfold tabD PyData.depth
  omega
theorem tabD_shaped (T : List (List (Int × Int))) : SeqAt.shaped (tabD T) = true := by
  unfold SeqAt.shaped
  rw [tabD_lay, decide_eq_true (by have := tabD_depth T; omega)]
  rfl
section
variable {K : PySem.W.Frag} {H : Hp} {N : Addr → Prop}
theorem dpAll_of {β : Type} {R : V → β → Prop} {f : β → PyData} (h : ∀ v x, R v x → Dp K H v (f x)) : ∀ {vs : List V} {xs : List β}, Paired R vs xs → DpAll K H vs (xs.map f)
  | _, _, .nil => .nil
  | _, _, .cons a t => .cons (h _ _ a) (dpAll_of h t)
theorem ShV.dp {v : V} {x : Int × Int} (h : ShV H v x) : Dp K H v (shD x) := by
  obtain ⟨p, rfl, hp⟩ := h
  exact .tup (SqT.of hp) (.cons (.int _) (.cons (.int _) .nil))
theorem RowN.dp {v : V} {xs : List (Int × Int)} (h : RowN N H v xs) : Dp K H v (rowD xs) := by
  obtain ⟨r, ps, rfl, _, h1, h2⟩ := h
  exact .lst (SqL.of h1) (dpAll_of (fun _ _ z => z.dp) h2)
theorem TabN.dp {v : V} {T : List (List (Int × Int))} (h : TabN N H v T) : Dp K H v (tabD T) := by
  obtain ⟨r, ps, rfl, _, h1, h2⟩ := h
  exact .lst (SqL.of h1) (dpAll_of (fun _ _ z => z.dp) h2)
end
/-! dicts compared: tables of the same worths at the same keys -/
theorem hits_tabs {X : Cx} {pins : List (Addr × Obj)} {σ : L2.St} {H : Hp} {s : Shared} (I : Inv X pins σ H s) {A : Around} (hu : A.units + 8 < cLine) {ls : List (Key × V)} {vb : List (Key × Value)} (rb : KV ls vb) {ks : List (Key × V)} {va : List (Key × Value)} (ra : KV ks va) :
    (∀ p ∈ ks, ∃ u T, valV ls p.1 = some u ∧ Dp X.K H p.2 (tabD T) ∧ Dp X.K H u (tabD T)) → PySem.W.KeqHits A s vb va true := by
  unfold KV at ra
  induction ra with
  | nil => intro _; exact .nil
  | @cons p q ps qs h t ih =>
    intro hp
    obtain ⟨h1, h2⟩ := h
    obtain ⟨u, T, e, d1, d2⟩ := hp p List.mem_cons_self
    have rr : RelO (some u) (valueAt vb p.1) := by rw [← e]; exact rb.val p.1
    obtain ⟨y, hy, ry⟩ := rr.some_of
    obtain ⟨k, v⟩ := q
    have h1' : p.1 = k := h1
    rw [h1'] at hy
    obtain ⟨as, r1⟩ := Dp.reads I _ _ _ d1 h2
    obtain ⟨bs, r2⟩ := Dp.reads I _ _ _ d2 ry
    have eq := SeqAt.eqAt_reads _ _ A s _ _ as bs r1 r2 (tabD_lay T) (tabD_lay T) (by have := tabD_depth T; omega)
    rw [SeqAt.eqv_refl_plain _ (tabD_plain T)] at eq
    exact .hit hy eq (ih fun p' hm => hp p' (List.mem_cons_of_mem _ hm))
def rNeDD (K : PySem.W.Frag) : R2 := fun x y H Q => ∃ a b ks ls, x = .ref a ∧ y = .ref b ∧ H a = some (.dK ks) ∧ H b = some (.dK ls) ∧ ks.length = ls.length ∧ (∀ p ∈ ks, ∃ u T, valV ls p.1 = some u ∧ Dp K H p.2 (tabD T) ∧ Dp K H u (tabD T)) ∧ Q (.bl false) H
theorem op_ne_dictD {X : Cx} (hu : X.A.units + 9 < cLine) : OpR X (compareOp .NotEq) (rNeDD X.K) := by
  intro pins s σ H x y v u Q I rx ry h
  obtain ⟨a, b, ks, ls, rfl, rfl, ea, eb, hl, hp, q⟩ := h
  obtain rfl : v = Value.ref a := rx
  obtain rfl : u = Value.ref b := ry
  obtain ⟨_, ya, va, ra, da⟩ := (show ObjOk X.prog X.w H s.heap a (.dK ks) from I.hok a _ ea)
  obtain ⟨_, yb, vb, rb, db⟩ := (show ObjOk X.prog X.w H s.heap b (.dK ls) from I.hok b _ eb)
  have hl' : va.length = vb.length := by rw [← ra.length, ← rb.length]; exact hl
  exact PySem.W.keq_ne (knd := mixKind X.prog X.w) (r := true) ya yb da db (by omega) (fun _ => hits_tabs I (by show X.A.units + 1 + 8 < cLine; omega) rb ra hp) (fin_bl I q (by simp [hl']))
end Nv

set_option maxRecDepth 100000
set_option maxHeartbeats 4000000
namespace Nv
open PySem PySem.Spec PyProof.Rows L2 NvSet
abbrev sAbc : Stmt := topS 68
theorem scAbc : FnScope ["_law_bag_here", "_law_many", "_law_first", "_law_found", "_law_pad", "_law_at", "_law_k", "_law_sign"] ["_law_bag_here", "_law_many"] (defScope sAbc) := ⟨rfl, rfl, rfl, by decide +kernel, rfl, by decide +kernel, by decide +kernel⟩
/-- signs that are all small letters -/
def allS (x : Str) : Bool := x.cps.toList.all fun c => decide (c ∈ (Str.ofString "abcdefghijklmnopqrstuvwxyz").cps.toList)
def padOk (x : Str) (r : Nat) : Bool := allS (cutS x none (some (r : Int))) && allS (cutS x (some (r : Int)) none) && decide ((cutS x none (some (r : Int))).length + (cutS x (some (r : Int)) none).length ≤ 5)
def pads : List Str := ["", "", "q", "zzzzz", "ab"]
theorem pads_ok : (pads.all fun x => (List.range (x.length + 1)).all fun r => padOk x r) = true := by decide +kernel
theorem abc_len : (Str.ofString "abcdefghijklmnopqrstuvwxyz").length = 26 := by decide +kernel
theorem pads_len : (pads.all fun x => decide (x.length ≤ 5)) = true := by decide +kernel
theorem small_of {a s b : Str} {c : Nat} (ha : allS a = true) (hb : allS b = true) (hl : a.length + b.length ≤ 5) (hc : c ∈ (Str.ofString "abcdefghijklmnopqrstuvwxyz").cps.toList) : Small (a ++ ⟨#[c]⟩ ++ b) := by
  have e : (a ++ (⟨#[c]⟩ : Str) ++ b).cps.toList = a.cps.toList ++ [c] ++ b.cps.toList := by
    show ((a.cps ++ #[c]) ++ b.cps).toList = _
    rw [Array.toList_append, Array.toList_append]
  have l : (a ++ (⟨#[c]⟩ : Str) ++ b).length = a.length + 1 + b.length := by
    rw [Str.length_append, Str.length_append]
    rfl
  refine ⟨by omega, by omega, fun x hx => ?_⟩
  rw [e] at hx
  rcases List.mem_append.mp hx with h | h
  · rcases List.mem_append.mp h with h | h
    · exact of_decide_eq_true (List.all_eq_true.mp ha x h)
    · rw [List.mem_singleton.mp h]
      exact hc
  · exact of_decide_eq_true (List.all_eq_true.mp hb x h)
/-- the j-th small letter between two texts -/
def abcW (a b : Str) (j : Nat) : Str := a ++ ⟨#[((Str.ofString "abcdefghijklmnopqrstuvwxyz").cps.toList.getD j 0)]⟩ ++ b
theorem abc_apart : ∀ j k, j < 26 → k < 26 → (Str.ofString "abcdefghijklmnopqrstuvwxyz").cps.toList.getD j 0 = (Str.ofString "abcdefghijklmnopqrstuvwxyz").cps.toList.getD k 0 → j = k := by
  have h : ((List.range 26).all fun j => (List.range 26).all fun k => decide ((Str.ofString "abcdefghijklmnopqrstuvwxyz").cps.toList.getD j 0 = (Str.ofString "abcdefghijklmnopqrstuvwxyz").cps.toList.getD k 0) == decide (j = k)) = true := by decide +kernel
  intro j k hj hk e
  have h1 := List.all_eq_true.mp (List.all_eq_true.mp h j (List.mem_range.mpr hj)) k (List.mem_range.mpr hk)
  rw [decide_eq_true e] at h1
  have h2 : true = decide (j = k) := by simpa using h1
  exact of_decide_eq_true h2.symm
theorem abcW_inj {a b : Str} {j k : Nat} (hj : j < 26) (hk : k < 26) (e : abcW a b j = abcW a b k) : j = k := by
  refine abc_apart j k hj hk ?_
  have e1 := congrArg (fun z : Str => z.cps.toList) e
  have e2 : ∀ c : Nat, (a ++ (⟨#[c]⟩ : Str) ++ b).cps.toList = a.cps.toList ++ ([c] ++ b.cps.toList) := fun c => by
    show ((a.cps ++ #[c]) ++ b.cps).toList = _
    rw [Array.toList_append, Array.toList_append, List.append_assoc]
  have e3 : a.cps.toList ++ ([_] ++ b.cps.toList) = a.cps.toList ++ ([_] ++ b.cps.toList) := (e2 _).symm.trans (e1.trans (e2 _))
  have e4 := List.append_cancel_left e3
  exact (List.cons.inj e4).1
theorem abc_not : (pads.all fun x => (List.range (x.length + 1)).all fun r => (List.range 26).all fun j => !decide (abcW (cutS x none (some (r : Int))) (cutS x (some (r : Int)) none) j = Str.ofString "zzzzz") && !decide (abcW (cutS x none (some (r : Int))) (cutS x (some (r : Int)) none) j = Str.ofString "yy")) = true := by decide +kernel
/-- the letters so far are unlike -/
def NodI (m : Nat) (r : Int) (a b : Str) (L : List Str) (i : Nat) : Prop := m ≤ 26 → L.Nodup ∧ ∀ x ∈ L, ∃ k : Nat, k < i ∧ x = abcW a b ((r + 5 * (k : Int)) % 26).toNat
theorem NodI.step {m : Nat} {r : Int} {a b : Str} {L : List Str} {i j : Nat} (h : NodI m r a b L i) (hi : i < m) (r0 : 0 ≤ r) (ej : (r + 5 * (i : Int)) % 26 = (j : Int)) (hj : j < (Str.ofString "abcdefghijklmnopqrstuvwxyz").cps.toList.length) :
    NodI m r a b (L ++ [a ++ (⟨#[(Str.ofString "abcdefghijklmnopqrstuvwxyz").cps.toList[j]]⟩ : Str) ++ b]) (i + 1) := fun hm => by
  obtain ⟨h1, h2⟩ := h hm
  have ew : a ++ (⟨#[(Str.ofString "abcdefghijklmnopqrstuvwxyz").cps.toList[j]]⟩ : Str) ++ b = abcW a b j := by
    unfold abcW
    rw [List.getD_eq_getElem?_getD, List.getElem?_eq_getElem hj]
    rfl
  rw [ew]
  have j26 : j < 26 := by omega
  refine ⟨?_, fun x hx => ?_⟩
  · rw [List.nodup_append]
    refine ⟨h1, List.nodup_cons.mpr ⟨by simp, List.nodup_nil⟩, fun x hx y hy e => ?_⟩
    rw [List.mem_singleton.mp hy] at e
    obtain ⟨k, hk, ek⟩ := h2 x hx
    have := abcW_inj (by omega) j26 (ek.symm.trans e)
    omega
  · rcases List.mem_append.mp hx with e | e
    · obtain ⟨k, hk, ek⟩ := h2 x e
      exact ⟨k, by omega, ek⟩
    · refine ⟨i, by omega, ?_⟩
      rw [List.mem_singleton.mp e, ej]
      rfl
theorem grow_upd {b D : Addr} {H H1 : Hp} {o : HO} (g : Grow b H H1) (hD : H D = none) : Grow b H (upd H1 D o) := fun a x n h => by
  rw [upd_ne (ne_of_none h hD)]
  exact g a x n h
section
variable {P : Program} {w : World} {K : PySem.W.Frag} {mg : Str → Option Value} {base : Heap}
/-- so many letters, in a new list -/
def spAbc : Sp := fun vs H Q _ => ∃ (l b : Addr) (m : Nat), vs = [.ref b, .int (m : Int)] ∧ m ≤ 1000 ∧ Bag l b H ∧ ∀ (p : Addr) (L : List Str) (H' : Hp), L.length = m → (∀ x ∈ L, Small x) → (m ≤ 26 → L.Nodup ∧ ∀ x ∈ L, x ≠ "zzzzz" ∧ x ≠ "yy") → Bag l b H' → Grow b H H' → H p = none → H' p = some (.lst (L.map V.str)) → Q (.ref p) H'
theorem ok_abc {f : Addr} {fd : FuncData} (F : Fun K "_law_abc" "_law_abc" sAbc f fd) (len : mg "len" = none) (rng : mg "range" = none) (GP : C8.Cal P w K mg base 1 "_law_pull" spPull []) (GO : C8.Cal P w K mg base 2 "_law_of" spOf []) : FnOk P w K mg base CX0 3 f fd ["_law_bag_here", "_law_many"] spAbc := by
  refine F.ok scAbc (fun vs H Q E h => ?_) (fun cdv A outer s H vs Q E hr h => ?_)
  · obtain ⟨l, b, m, rfl, _⟩ := h
    rfl
  · obtain ⟨l, b, m, rfl, hm, B, q⟩ := h
    refine ⟨_, pss_cons (ps_par (i := 2) (j := 3) (by rfl) scAbc.nd rfl rfl (by decide) rfl rfl (pa_cons (C8.pe_c GP hr (by decide) (by rfl) (pa_cons (pv 0) (pa_cons pe_int pa_nil))) (pa_cons (pe_lst pa_nil) pa_nil)) (by rfl))
      (pss_cons (ps_set (i := 4) scAbc.nd rfl (.inl rfl) (C8.pe_c GO hr (by decide) (by rfl) (pa_cons (pv 0) (pa_cons (pe_lst (pa_cons pe_str (pa_cons pe_str (pa_cons pe_str (pa_cons pe_str (pa_cons pe_str pa_nil)))))) pa_nil))))
      (pss_cons (ps_set (i := 5) scAbc.nd rfl (.inl rfl) (C8.pe_c GP hr (by decide) (by rfl) (pa_cons (pv 0) (pa_cons (pe_op op_add (pe_callB call_len_str (by rfl) len PySem.boot_len (pa_cons (pv 4) pa_nil)) pe_int) pa_nil))))
      (pss_cons (ps_for PassesOwn.never rfl (pi_range1 (by rfl) rng (pa_cons (pv 1) pa_nil)) (pg_name (i := 6) scAbc.nd rfl (.inl rfl))
        (pss_cons (ps_set (i := 7) scAbc.nd rfl (.inl rfl) (pe_ix ix_str pe_str (pe_op op_mod (pe_op op_add (pv 2) (pe_op op_mul pe_int (pv 6))) pe_int) (fun _ _ => rfl)))
        (pss_one (ps_expr (pe_bm PySem.F.plainAttrs_list PySem.F.slot_list_append PySem.F.type_list_append mt_append (pv 3)
          (pa_cons (pe_op op_add_str (pe_op op_add_str (pe_slice sl_str (pv 4) po_none (po_some (pv 5))) (pv 7)) (pe_slice sl_str (pv 4) (po_some (pv 5)) po_none)) pa_nil))))))
      (pss_one (ps_ret (pv 3)))))), ?_⟩
    refine ⟨_, rfl, l, b, 26, rfl, by decide, fit8 (n := 5) (by decide) (by decide), B, fun r H1 r0 r1 B1 t1 => ?_⟩
    refine ⟨Nat.zero_le _, fun D nD => ?_⟩
    have s2 := same_new (o := .lst []) nD
    have B2 := B1.same s2
    have nDb := B1.ne nD
    have nDl := B1.neL nD
    have eD : (upd H1 D (.lst [])) D = some (.lst []) := upd_same
    refine ⟨_, _, rfl, ?_⟩
    refine ⟨_, rfl, (by show 5 ≤ sizeLine; decide), fun o no => ?_⟩
    have s3 := same_new (o := .lst [.str "", .str "", .str "q", .str "zzzzz", .str "ab"]) no
    have B3 := B2.same s3
    refine ⟨l, b, o, _, rfl, B2.ne no, upd_same, (by show 0 < 5; decide), (by show 5 ≤ 1000; decide), B3, fun v H4 hv B4 t4 => ?_⟩
    have eD4 : H4 D = some (.lst []) := t4.grow _ _ nDb (s3 _ _ eD)
    obtain ⟨pad, hpad, rfl⟩ : ∃ x ∈ pads, v = .str x := by
      have : v ∈ pads.map V.str := hv
      obtain ⟨x, hx, e⟩ := List.mem_map.mp this
      exact ⟨x, hx, e.symm⟩
    have lp : pad.length ≤ 5 := of_decide_eq_true (List.all_eq_true.mp pads_len pad hpad)
    have lps : pad.length ≤ sizeLine := by rw [sizeLine_eq]; omega
    refine ⟨_, rfl, _, rfl, pad, rfl, lps, _, 1, rfl, rfl, l, b, (pad.length : Int) + 1, rfl, by omega, fit8 (n := 5) (Nat.lt_of_le_of_lt (show ((pad.length : Int) + 1).natAbs ≤ 6 by omega) (by decide)) (by decide), B4, fun z H5 z0 z1 B5 t5 => ?_⟩
    have eD5 : H5 D = some (.lst []) := t5.grow _ _ nDb eD4
    have gH5 : Grow b H H5 := t1.grow.trans ((Same.grow s2).trans ((Same.grow s3).trans (t4.grow.trans t5.grow)))
    obtain ⟨k, rfl⟩ := Int.eq_ofNat_of_zero_le z0
    have pk := List.all_eq_true.mp (List.all_eq_true.mp pads_ok pad hpad) k (List.mem_range.mpr (by omega))
    unfold padOk at pk
    rw [Bool.and_eq_true, Bool.and_eq_true] at pk
    obtain ⟨⟨p1, p2⟩, p3⟩ := pk
    have p3 := of_decide_eq_true p3
    refine ⟨_, rfl, (m : Int), rfl, by omega, by omega, for_range (lo := 0) (n := ((m : Int)).toNat) (fun i σ' H' => ∃ (y6 y7 : Option V) (L : List Str), σ' = [some (.ref b), some (.int (m : Int)), some (.int r), some (.ref D), some (.str pad), some (.int (k : Int)), y6, y7] ∧ Bag l b H' ∧ Grow b H H' ∧ H' D = some (.lst (L.map V.str)) ∧ L.length = i ∧ (∀ x ∈ L, Small x) ∧ NodI m r (cutS pad none (some (k : Int))) (cutS pad (some (k : Int)) none) L i) ?_ ?_ ?_⟩
    · exact ⟨none, none, [], rfl, B5, gH5, eD5, rfl, (fun x hx => nomatch hx), fun _ => ⟨List.nodup_nil, fun x hx => nomatch hx⟩⟩
    · rintro i σ' H' hi ⟨y6, y7, L, rfl, B6, g6, eD6, lL, sL, ndL⟩
      have hi' : i < m := by omega
      have m0 := Int.emod_nonneg (r + 5 * (0 + (i : Int))) (show (26 : Int) ≠ 0 by decide)
      have m1 := Int.emod_lt_of_pos (r + 5 * (0 + (i : Int))) (show (0 : Int) < 26 by decide)
      refine ⟨_, rfl, _, rfl, 5, _, rfl, rfl, .inl ⟨by decide, by decide⟩, _, _, rfl, rfl, _, 26, rfl, rfl, (by show (0 : Int) < 26; decide), ?_⟩
      obtain ⟨j, ej⟩ := Int.eq_ofNat_of_zero_le m0
      have hj : j < (Str.ofString "abcdefghijklmnopqrstuvwxyz").cps.toList.length := by
        have e : (Str.ofString "abcdefghijklmnopqrstuvwxyz").cps.toList.length = (Str.ofString "abcdefghijklmnopqrstuvwxyz").length := Array.length_toList
        rw [e, abc_len]
        omega
      have hc : atI (Str.ofString "abcdefghijklmnopqrstuvwxyz").cps.toList (j : Int) = some ((Str.ofString "abcdefghijklmnopqrstuvwxyz").cps.toList[j]) := atI_nat (List.getElem?_eq_getElem hj)
      have hcm : (Str.ofString "abcdefghijklmnopqrstuvwxyz").cps.toList[j] ∈ (Str.ofString "abcdefghijklmnopqrstuvwxyz").cps.toList := List.getElem_mem hj
      have nd2 := ndL.step (i := i) hi' r0 (by rw [Int.zero_add] at ej; exact ej) hj
      generalize (Str.ofString "abcdefghijklmnopqrstuvwxyz").cps.toList[j] = c at hc hcm nd2
      rw [← ej] at hc
      refine ⟨_, _, _, rfl, rfl, (by decide +kernel), hc, ?_⟩
      have l1 : (cutS pad none (some (k : Int))).length + (⟨#[c]⟩ : Str).length ≤ sizeLine := by
        rw [sizeLine_eq, show (⟨#[c]⟩ : Str).length = 1 from rfl]
        omega
      have sm := small_of (s := pad) p1 p2 p3 hcm
      have l2 : (cutS pad none (some (k : Int)) ++ (⟨#[c]⟩ : Str)).length + (cutS pad (some (k : Int)) none).length ≤ sizeLine := by
        rw [Str.length_append, sizeLine_eq, show (⟨#[c]⟩ : Str).length = 1 from rfl]
        omega
      refine ⟨_, rfl, .inl ⟨rfl, _, SqL.of eD6⟩, _, rfl, _, rfl, (k : Int), rfl, pad, rfl, lps, _, rfl, _, _, rfl, rfl, l1, _, rfl, _, rfl, (k : Int), rfl, pad, rfl, lps, _, _, rfl, rfl, l2, ?_⟩
      refine ⟨D, _, _, rfl, rfl, eD6, ?_, ?_⟩
      · rw [List.length_map]
        exact small1000 (by omega)
      · refine ⟨_, _, L ++ [cutS pad none (some (k : Int)) ++ (⟨#[c]⟩ : Str) ++ cutS pad (some (k : Int)) none], rfl, B6.beside nDb nDl, grow_upd g6 (t1.grow.free nDb nD), ?_, by rw [List.length_append, lL]; rfl, ?_⟩
        · rw [upd_same, List.map_append]
          rfl
        · refine ⟨fun x hx => ?_, nd2⟩
          rcases List.mem_append.mp hx with e | e
          · exact sL x e
          · rw [List.mem_singleton.mp e]
            exact sm
    · rintro σ' H' ⟨y6, y7, L, rfl, B6, g6, eD6, lL, sL, ndL⟩
      have apart : ∀ x ∈ L, m ≤ 26 → x ≠ "zzzzz" ∧ x ≠ "yy" := fun x hx h => by
        obtain ⟨j, _, rfl⟩ := (ndL h).2 x hx
        have m0 := Int.emod_nonneg (r + 5 * (j : Int)) (show (26 : Int) ≠ 0 by decide)
        have m1 := Int.emod_lt_of_pos (r + 5 * (j : Int)) (show (0 : Int) < 26 by decide)
        have a1 := List.all_eq_true.mp (List.all_eq_true.mp (List.all_eq_true.mp abc_not pad hpad) k (List.mem_range.mpr (by omega))) ((r + 5 * (j : Int)) % 26).toNat (List.mem_range.mpr (by omega))
        rw [Bool.and_eq_true, Bool.not_eq_true', Bool.not_eq_true', decide_eq_false_iff_not, decide_eq_false_iff_not] at a1
        exact a1
      exact ⟨_, rfl, q D L H' (by omega) sL (fun h => ⟨(ndL h).1, fun x hx => apart x hx h⟩) B6 g6 (t1.grow.free nDb nD) eD6⟩
end
end Nv

set_option maxRecDepth 100000
set_option maxHeartbeats 8000000
namespace Nv
open PySem PySem.Spec PyProof.Rows L2 NvSet LamX
theorem bag_tk {l b : Addr} {H H' : Hp} (B : Bag l b H) (g : Grow b H H') : TupKeep H H' := fun a xs e => by
  obtain ⟨ns, _, _, ⟨i, j, s, n, hb, _⟩⟩ := B
  exact g _ _ (fun z => by rw [z, hb] at e; cases e) e
theorem bag_tr {N : Addr → Prop} {l b : Addr} {H H' : Hp} (B : Bag l b H) (g : Grow b H H') (nb : ∀ a, N a → a ≠ b) : Tr N H H' := ⟨fun a o n e => g _ _ (nb a n) e, bag_tk B g⟩
/-- a comprehension within a comprehension that reads two names of those around -/
theorem blk_nest2 {N : List Str} {sc sc0 scope : Scope} {own : List (Str × Nat)} (h : BlkOk N sc0 scope own) (x y : Str) (hx : (scope.names.all fun z => !decide (z.2 = .free) || (decide (z.1 = x) || decide (z.1 = y))) = true) (hl : sc.names.lookup x = some .cell ∨ sc.names.lookup x = some .free) (hm : sc.names.lookup y = some .cell ∨ sc.names.lookup y = some .free) : BlkOk N sc scope own :=
  ⟨h.kind, h.uniq, h.ix, fun u hu e => by
    have z := List.all_eq_true.mp hx u hu
    rw [Bool.or_eq_true, Bool.or_eq_true, Bool.not_eq_true', decide_eq_false_iff_not, decide_eq_true_eq, decide_eq_true_eq] at z
    rcases z with z | z | z
    · exact absurd e z
    · rw [z]
      exact hl
    · rw [z]
      exact hm, h.own⟩
def retE : List Stmt → Expr
  | [.Return (some e) _] => e
  | _ => .Constant .none 0 ⟨0, 0, 0, 0⟩
def lcScope : Expr → Scope
  | .ListComp _ _ sc _ => sc
  | _ => { kind := .function, names := [], isGenerator := false, isCoroutine := false }
/-! light shares -/
structure Li (x : Int × Int) : Prop where
  pos : 0 < x.2
  dvd : x.2 ∣ 30
  top : x.1.natAbs < 2 ^ 10
theorem Li.lt {x : Int × Int} (h : Li x) : Lt x := ⟨h.pos, h.dvd, Nat.lt_trans h.top (by decide)⟩
theorem li01 : Li (0, 1) := ⟨by decide, ⟨30, rfl⟩, by decide⟩
/-- n rows of n such shares -/
structure SqI (n : Nat) (T : List (List (Int × Int))) : Prop where
  len : T.length = n
  wide : ∀ r ∈ T, r.length = n
  lt : ∀ r ∈ T, ∀ x ∈ r, Li x
theorem SqI.sq {n : Nat} {T : List (List (Int × Int))} (h : SqI n T) : Sq n T := ⟨h.len, h.wide, fun r hr x hx => (h.lt r hr x hx).lt⟩
structure EngI (L : List Str) (n : Nat) (b e : List (Int × Int)) (T : Str → List (List (Int × Int))) : Prop where
  few : L.length ≤ 3
  n12 : n ≤ 12
  lb : b.length = n
  le : e.length = n
  ltb : ∀ x ∈ b, Li x
  lte : ∀ x ∈ e, Li x
  sq : ∀ y ∈ L, SqI n (T y)
theorem EngI.eng {L : List Str} {n : Nat} {b e : List (Int × Int)} {T : Str → List (List (Int × Int))} (h : EngI L n b e T) : Engine L n b e T := ⟨h.few, h.n12, h.lb, h.le, fun x hx => (h.ltb x hx).lt, fun x hx => (h.lte x hx).lt, fun y hy => (h.sq y hy).sq⟩
def spLt : Sp := fun vs H Q _ => ∃ l b : Addr, vs = [.ref b] ∧ Bag l b H ∧ ∀ (p : Addr) (x : Int × Int) (H' : Hp), Li x → Bag l b H' → Grow b H H' → H p = none → H' p = some (.tup [.int x.1, .int x.2]) → Q (.ref p) H'
theorem lt_fr {t d : Int} (ht : t.natAbs < 2 ^ 10) (d0 : 0 < d) (dd : d ∣ 30) : Li (frT t d, frB t d) := by
  have h0 : d ≠ 0 := by omega
  refine ⟨frB_pos t h0, ?_, Nat.lt_of_le_of_lt (frT_le t h0) ht⟩
  have e : frB t d * per t d = d := fdiv_mul (per_dvd_r t d)
  exact Int.dvd_trans ⟨per t d, e.symm⟩ dd
section
variable {P : Program} {w : World} {K : PySem.W.Frag} {mg : Str → Option Value} {base : Heap}
theorem ok_lightL {f : Addr} {fd : FuncData} (F : Fun K "_law_light" "_law_light" sLight f fd) (GF : C8.Cal P w K mg base 2 "_law_fr" spFr []) (GP : C8.Cal P w K mg base 1 "_law_pull" spPull []) : FnOk P w K mg base CX0 3 f fd ["_law_bag_here"] spLt := by
  refine F.ok scLight (fun vs H Q E h => ?_) (fun cdv A outer s H vs Q E hr h => ?_)
  · obtain ⟨l, b, rfl, _⟩ := h
    rfl
  · obtain ⟨l, b, rfl, B, q⟩ := h
    refine ⟨_, pss_one (ps_ret (C8.pe_c GF hr (by decide) (by rfl) (pa_cons (pe_op op_sub (C8.pe_c GP hr (by decide) (by rfl) (pa_cons (pv 0) (pa_cons pe_int pa_nil))) pe_int)
      (pa_cons (pe_ix ix_list (pe_lst (pa_cons pe_int (pa_cons pe_int (pa_cons pe_int (pa_cons pe_int (pa_cons pe_int (pa_cons pe_int pa_nil))))))) (C8.pe_c GP hr (by decide) (by rfl) (pa_cons (pv 0) (pa_cons pe_int pa_nil))) (fun _ _ => rfl)) pa_nil)))), ?_⟩
    refine ⟨_, rfl, l, b, 9, rfl, by decide, fit8 (n := 4) (by decide) (by decide), B, fun r H1 r0 r1 B1 t1 => ?_⟩
    refine ⟨r, 4, rfl, rfl, (by show 6 ≤ sizeLine; decide), fun o no => ?_⟩
    have B2 := B1.same (same_new (o := .lst [.int 1, .int 1, .int 1, .int 2, .int 3, .int 5]) no)
    refine ⟨_, rfl, l, b, 6, rfl, by decide, fit8 (n := 4) (by decide) (by decide), B2, fun r2 H2 s0 s1 B3 t2 => ?_⟩
    have nob := B1.ne no
    have ho : H2 o = some (.lst [.int 1, .int 1, .int 1, .int 2, .int 3, .int 5]) := by rw [t2 o nob, upd_same]
    have g : Grow b H H2 := t1.grow.trans ((Same.grow (same_new no)).trans t2.grow)
    have pick : ∃ d : Int, atI [V.int 1, V.int 1, V.int 1, V.int 2, V.int 3, V.int 5] r2 = some (.int d) ∧ 0 < d ∧ d ≤ 5 ∧ d ∣ 30 := by
      have : r2 = 0 ∨ r2 = 1 ∨ r2 = 2 ∨ r2 = 3 ∨ r2 = 4 ∨ r2 = 5 := by omega
      rcases this with e | e | e | e | e | e <;> subst e
      · exact ⟨1, rfl, by decide, by decide, 30, rfl⟩
      · exact ⟨1, rfl, by decide, by decide, 30, rfl⟩
      · exact ⟨1, rfl, by decide, by decide, 30, rfl⟩
      · exact ⟨2, rfl, by decide, by decide, 15, rfl⟩
      · exact ⟨3, rfl, by decide, by decide, 10, rfl⟩
      · exact ⟨5, rfl, by decide, by decide, 6, rfl⟩
    obtain ⟨d, hd, d0, d5, dd⟩ := pick
    refine ⟨o, _, r2, _, rfl, rfl, SqL.of ho, hd, r - 4, d, rfl, by omega, fit8 (n := 5) (Nat.lt_of_le_of_lt (show d.natAbs ≤ 5 by omega) (by decide)) (by decide), fun p H' sm hp ep => ?_⟩
    exact q p (frT (r - 4) d, frB (r - 4) d) H' (lt_fr (Nat.lt_of_le_of_lt (show (r - 4).natAbs ≤ 9 by omega) (by decide)) d0 dd) (B3.same sm) (g.trans (Same.grow sm)) (g.free (B3.ne hp) hp) ep
end
end Nv

set_option maxRecDepth 100000
set_option maxHeartbeats 8000000
namespace Nv
open PySem PySem.Spec PyProof.Rows L2 NvSet LamX
theorem pimp_mem {α β : Type} {R S : α → β → Prop} : ∀ {xs : List α} {ys : List β}, (∀ a b, b ∈ ys → R a b → S a b) → Paired R xs ys → Paired S xs ys
  | _, _, _, .nil => .nil
  | _, _, h, .cons a t => .cons (h _ _ List.mem_cons_self a) (pimp_mem (fun a b m => h a b (List.mem_cons_of_mem _ m)) t)
theorem not_take {L : List Str} (nd : L.Nodup) {i : Nat} {z : Str} (hz : L[i]? = some z) : z ∉ L.take i := fun hu => by
  obtain ⟨j, hj, ej⟩ := List.getElem_of_mem hu
  have hj2 : j < i ∧ j < L.length := by rw [List.length_take] at hj; omega
  rw [List.getElem_take] at ej
  have hzi := (List.getElem?_eq_some_iff.mp hz).1
  exact List.pairwise_iff_getElem.mp nd j i hj2.2 hzi hj2.1 (ej.trans (List.getElem?_eq_some_iff.mp hz).2.symm)
abbrev sEng : Stmt := topS 69
abbrev nEng : List Str := ["_law_bag_here", "_law_signs", "_law_cap", "_law_many", "_law_thin", "_law_steps_now", "_law_sign", "_law_k", "_law_row"]
theorem scEng : FnScope nEng ["_law_bag_here", "_law_signs", "_law_cap"] (defScope sEng) := ⟨rfl, rfl, rfl, by decide +kernel, rfl, by decide +kernel, by decide +kernel⟩
/-- a drawn machine: letters, begin, steps, end; N: whose lists they are -/
structure EngAt (N : Addr → Prop) (H : Hp) (tp sg fa dd la : Addr) (L : List Str) (b e : List (Int × Int)) (T : Str → List (List (Int × Int))) (fv lv : List V) (kvs : List (Key × V)) : Prop where
  tup : H tp = some (.tup [.ref sg, .ref fa, .ref dd, .ref la])
  nf : N fa
  hf : H fa = some (.lst fv)
  pf : Paired (ShV H) fv b
  nl : N la
  hl : H la = some (.lst lv)
  pl : Paired (ShV H) lv e
  nd : N dd
  hd : H dd = some (.dK kvs)
  ks : kvs.map (·.1) = L.map Sum.inr
  pk : Paired (fun (p : Key × V) y => TabN N H p.2 (T y)) kvs L
def spEng : Sp := fun vs H Q _ => ∃ (l b sg : Addr) (L : List Str) (c : Nat), vs = [.ref b, .ref sg, .int (c : Int)] ∧ c ≤ 12 ∧ sg ≠ b ∧ H sg = some (.lst (L.map V.str)) ∧ L.length ≤ 3 ∧ L.Nodup ∧ Bag l b H ∧
  ∀ (tp fa dd la : Addr) (n : Nat) (bb ee : List (Int × Int)) (T : Str → List (List (Int × Int))) (fv lv : List V) (kvs : List (Key × V)) (H' : Hp), EngI L n bb ee T → EngAt (fun a => H a = none) H' tp sg fa dd la L bb ee T fv lv kvs → Bag l b H' → Grow b H H' → Q (.ref tp) H'
section
variable {P : Program} {w : World} {K : PySem.W.Frag} {mg : Str → Option Value} {base : Heap}
theorem ok_eng {f : Addr} {fd : FuncData} (F : Fun K "_law_engine" "_law_engine" sEng f fd) (B : Blt mg) (GL : C8.Cal P w K mg base 3 "_law_light" spLt []) (GP : C8.Cal P w K mg base 1 "_law_pull" spPull []) : FnOk P w K mg base CX0 4 f fd ["_law_bag_here", "_law_signs", "_law_cap"] spEng := by
  refine F.ok scEng (fun vs H Q E h => ?_) (fun cdv A outer s H vs Q E hr h => ?_)
  · obtain ⟨l, b, sg, L, c, rfl, _⟩ := h
    rfl
  · obtain ⟨l, b, sg, L, c, rfl, hc, nsb, hsg, lL, ndL, B0, q⟩ := h
    refine ⟨_, pss_cons (ps_set (i := 3) scEng.nd rfl (by first | exact .inl rfl | exact .inr rfl) (C8.pe_c GP hr (by decide) (by rfl) (pa_cons (pv 0) (pa_cons (pe_op op_add (pv 2) pe_int) pa_nil))))
      (pss_cons (ps_set (i := 4) scEng.nd rfl (by first | exact .inl rfl | exact .inr rfl) (C8.pe_c GP hr (by decide) (by rfl) (pa_cons (pv 0) (pa_cons pe_int pa_nil))))
      (pss_cons (ps_set (i := 5) scEng.nd rfl (by first | exact .inl rfl | exact .inr rfl) pe_dnewK)
      (pss_cons (ps_for PassesOwn.never rfl (pi_list (pv 1)) (pg_name (i := 6) scEng.nd rfl (by first | exact .inl rfl | exact .inr rfl))
        (pss_one (ps_asg (pe_lc (own := [("_law_row", 8)]) (g := gName 8) (tt := tYes) rfl scEng.nd (pi_range1 (by rfl) B.rng (pa_cons (pv 3) pa_nil)) (blkOk_by (N := nEng) (sc := defScope sEng) (by decide +kernel))
          (fun _ _ _ _ _ => pg_name (i := 8) scEng.nd rfl (Or.inl rfl)) (fun _ _ _ _ _ => pts_nil)
          (fun _ _ _ _ _ => pe_lc (own := [("_law_k", 7)]) (g := gName 7) (tt := tYes) rfl scEng.nd (pi_range1 (by rfl) B.rng (pa_cons (pv 3) pa_nil)) (blk_nest2 (blkOk_by (N := nEng) (sc := defScope sEng) (by decide +kernel)) "_law_bag_here" "_law_thin" (by decide +kernel) (by first | exact .inl rfl | exact .inr rfl) (by first | exact .inl rfl | exact .inr rfl))
            (fun _ _ _ _ _ => pg_name (i := 7) scEng.nd rfl (Or.inl rfl)) (fun _ _ _ _ _ => pts_nil)
            (fun _ _ _ _ _ => pe_ifExp (pt_cmpR op_ge (C8.pe_c GP hr (by decide) (by rfl) (pa_cons (pv 0) (pa_cons pe_int pa_nil))) (pv 4) (nomark _)) (C8.pe_c GL hr (by decide) (by rfl) (pa_cons (pv 0) pa_nil)) (pe_tup (pa_cons pe_int (pa_cons pe_int pa_nil))))))
          (pg_sub (pv 5) (pv 6) (set_dict (hu_of hr))))))
      (pss_one (ps_ret (pe_tup (pa_cons (pv 1)
        (pa_cons (pe_lc (own := [("_law_k", 7)]) (g := gName 7) (tt := tYes) rfl scEng.nd (pi_range1 (by rfl) B.rng (pa_cons (pv 3) pa_nil)) (blkOk_by (N := nEng) (sc := defScope sEng) (by decide +kernel)) (fun _ _ _ _ _ => pg_name (i := 7) scEng.nd rfl (Or.inl rfl)) (fun _ _ _ _ _ => pts_nil) (fun _ _ _ _ _ => C8.pe_c GL hr (by decide) (by rfl) (pa_cons (pv 0) pa_nil)))
        (pa_cons (pv 5)
        (pa_cons (pe_lc (own := [("_law_k", 7)]) (g := gName 7) (tt := tYes) rfl scEng.nd (pi_range1 (by rfl) B.rng (pa_cons (pv 3) pa_nil)) (blkOk_by (N := nEng) (sc := defScope sEng) (by decide +kernel)) (fun _ _ _ _ _ => pg_name (i := 7) scEng.nd rfl (Or.inl rfl)) (fun _ _ _ _ _ => pts_nil) (fun _ _ _ _ _ => C8.pe_c GL hr (by decide) (by rfl) (pa_cons (pv 0) pa_nil)))
        pa_nil)))))))))), ?_⟩
    refine ⟨_, rfl, _, rfl, (c : Int), 1, rfl, rfl, l, b, (c : Int) + 1, rfl, by omega, fit8 (n := 5) (Nat.lt_of_le_of_lt (show ((c : Int) + 1).natAbs ≤ 13 by omega) (by decide)) (by decide), B0, fun r H1 r0 r1 B1 t1 => ?_⟩
    obtain ⟨n, rfl⟩ := Int.eq_ofNat_of_zero_le r0
    have hn : n ≤ 12 := by omega
    refine ⟨_, rfl, l, b, 3, rfl, by decide, fit8 (n := 4) (by decide) (by decide), B1, fun th H2 th0 th1 B2 t2 => ?_⟩
    intro dd ndd
    have g02 : Grow b H H2 := t1.grow.trans t2.grow
    have ndb := B2.ne ndd
    have ndl := B2.neL ndd
    have ndd0 : H dd = none := g02.free ndb ndd
    have s3 := same_new (o := .dK []) ndd
    have en : ((n : Int)).toNat = n := by omega
    refine ⟨_, rfl, sg, rfl, ⟨_, SqL.of (s3 _ _ (g02 _ _ nsb hsg))⟩, for_it (walk_list (xs := L.map V.str)) (fun i σ H' => (∃ y6 y7 y8, σ = [some (.ref b), some (.ref sg), some (.int (c : Int)), some (.int (n : Int)), some (.int th), some (.ref dd), y6, y7, y8]) ∧ Bag l b H' ∧ Grow b H H' ∧ ∃ (kk : List (Key × V)) (T : Str → List (List (Int × Int))), H' dd = some (.dK kk) ∧ kk.map (·.1) = (L.take i).map Sum.inr ∧ Paired (fun (p : Key × V) y => TabN (fun a => H a = none ∧ a ≠ dd) H' p.2 (T y)) kk (L.take i) ∧ ∀ y ∈ L.take i, SqI n (T y))
      ⟨⟨none, none, none, rfl⟩, B2.same s3, g02.trans (Same.grow s3), [], fun _ => [], upd_same, rfl, .nil, fun y hy => nomatch hy⟩ (fun i σ H' _ hP => SqL.of (hP.2.2.1 _ _ nsb hsg)) (fun i v σ Ha Hb hi hP y => ?_) (fun σ H' hP => ?_)⟩
    · obtain ⟨⟨y6, y7, y8, rfl⟩, Ba, ga, kk, T, ed, ek, pk, sqk⟩ := hP
      obtain ⟨rfl, ex⟩ := y
      have ex' : (L.map V.str)[i]? = some v := ex
      rw [List.getElem?_map] at ex'
      obtain ⟨z, hz, rfl⟩ := Option.map_eq_some_iff.mp ex'
      refine ⟨_, rfl, (n : Int), rfl, by omega, by omega, fun D nD => ?_⟩
      rw [en]
      have nDb := Ba.ne nD
      have nDl := Ba.neL nD
      have nD0 : H D = none := ga.free nDb nD
      have neD : D ≠ dd := fun e => by rw [e, ed] at nD; cases nD
      refine lc_range (lo := 0) (n := n) (fun i H' => Bag l b H' ∧ Grow b Hb H' ∧ ∃ (rs : List V) (Tb : List (List (Int × Int))), H' D = some (.lst rs) ∧ Tb.length = i ∧ Paired (RowN (fun a => Hb a = none ∧ a ≠ D) H') rs Tb ∧ ∀ r ∈ Tb, r.length = n ∧ ∀ x ∈ r, Li x) ⟨Ba.same (same_new nD), Same.grow (same_new nD), [], [], upd_same, rfl, .nil, fun r hr => nomatch hr⟩ (fun i2 Hs hi2 hP => ?_) (fun H5 hP => ?_)
      · obtain ⟨Bs, gs, rs, Tb, eD, lT, pT, aT⟩ := hP
        have lrs := Paired.length pT
        refine ⟨rfl, yes_if ?_⟩
        refine ⟨_, rfl, (n : Int), rfl, by omega, by omega, fun D2 nD2 => ?_⟩
        rw [en]
        have n2b := Bs.ne nD2
        have n2l := Bs.neL nD2
        have neD2 : D2 ≠ D := fun e => by rw [e, eD] at nD2; cases nD2
        refine lc_range (lo := 0) (n := n) (fun j H' => Bag l b H' ∧ Grow b Hs H' ∧ ∃ (ps : List V) (xs : List (Int × Int)), H' D2 = some (.lst ps) ∧ xs.length = j ∧ Paired (ShV H') ps xs ∧ ∀ x ∈ xs, Li x) ⟨Bs.same (same_new nD2), Same.grow (same_new nD2), [], [], upd_same, rfl, .nil, fun r hr => nomatch hr⟩ (fun j Hj hj hP => ?_) (fun H6 hP => ?_)
        · obtain ⟨Bj, gj, ps, xs, e2, lx, px, ax⟩ := hP
          have lps := Paired.length px
          refine ⟨rfl, yes_if ?_⟩
          have fin : ∀ (p : Addr) (x : Int × Int) (H3 : Hp), Li x → Bag l b H3 → Grow b Hj H3 → H3 p = some (.tup [.int x.1, .int x.2]) → ∃ acc, H3 D2 = some (.lst acc) ∧ acc.length < sizeLine ∧ (Bag l b (upd H3 D2 (.lst (acc ++ [.ref p]))) ∧ Grow b Hs (upd H3 D2 (.lst (acc ++ [.ref p]))) ∧ ∃ (ps : List V) (xs : List (Int × Int)), upd H3 D2 (.lst (acc ++ [.ref p])) D2 = some (.lst ps) ∧ xs.length = j + 1 ∧ Paired (ShV (upd H3 D2 (.lst (acc ++ [.ref p])))) ps xs ∧ ∀ x ∈ xs, Li x) := fun p x H3 lt B3 g3 ep => by
            have e3 := g3 _ _ n2b e2
            have k3 : TupKeep H3 (upd H3 D2 (.lst (ps ++ [.ref p]))) := tk_no e3 (fun _ e => by cases e)
            refine ⟨ps, e3, small1000 (by omega), B3.beside n2b n2l, grow_upd (gj.trans g3) nD2, ps ++ [.ref p], xs ++ [x], upd_same, by rw [List.length_append, lx]; rfl, psnoc ⟨p, rfl, k3 _ _ ep⟩ (pimp (fun _ _ z => (z.tk (bag_tk Bj g3)).tk k3) px), fun x' hx => ?_⟩
            rcases List.mem_append.mp hx with e | e
            · exact ax _ e
            · rw [List.mem_singleton.mp e]
              exact lt
          refine ⟨_, rfl, l, b, 3, rfl, by decide, fit8 (n := 4) (by decide) (by decide), Bj, fun r3 H3 _ _ B3 t3 => ?_⟩
          refine ⟨_, rfl, r3, th, rfl, rfl, _, rfl, ite2 (fun _ => ?_) (fun _ => ?_)⟩
          · exact ⟨_, rfl, l, b, rfl, B3, fun p x H4 lt B4 g4 _ ep => fin p x H4 lt B4 (t3.grow.trans g4) ep⟩
          · refine ⟨(by show 2 ≤ sizeLine; decide), fun p np => ?_⟩
            exact fin p (0, 1) _ li01 (B3.same (same_new np)) (t3.grow.trans (Same.grow (same_new np))) upd_same
        · obtain ⟨B6, g6, ps, xs, e2, lx, px, ax⟩ := hP
          have eD6 := g6 _ _ nDb eD
          have t1 : Tr (fun a => Hb a = none ∧ a ≠ D) Hs (upd H6 D (.lst (rs ++ [.ref D2]))) := (bag_tr Bs g6 fun a na e => by rw [e] at na; exact Ba.ne na.1 rfl).trans ⟨fun a o na e => by rw [upd_ne na.2]; exact e, tk_no eD6 (fun _ e => by cases e)⟩
          have k6 : TupKeep H6 (upd H6 D (.lst (rs ++ [.ref D2]))) := tk_no eD6 (fun _ e => by cases e)
          refine ⟨rs, eD6, small1000 (by omega), B6.beside nDb nDl, grow_upd (gs.trans g6) nD, rs ++ [.ref D2], Tb ++ [xs], upd_same, by rw [List.length_append, lT]; rfl, psnoc ⟨D2, ps, rfl, ⟨gs.free n2b nD2, neD2⟩, by rw [upd_ne neD2]; exact e2, pimp (fun _ _ z => z.tk k6) px⟩ (pimp (fun _ _ z => z.tr t1) pT), fun r hr2 => ?_⟩
          rcases List.mem_append.mp hr2 with e | e
          · exact aT _ e
          · rw [List.mem_singleton.mp e]
            exact ⟨lx, ax⟩
      · obtain ⟨B5, g5, rs, Tb, eD, lT, pT, aT⟩ := hP
        have ed5 := g5 _ _ ndb ed
        have lk : kk.length ≤ 3 := by
          have := congrArg List.length ek
          rw [List.length_map, List.length_map, List.length_take] at this
          omega
        have nz := not_take ndL hz
        have new : Sum.inr z ∉ kk.map (·.1) := by
          rw [ek]
          intro h
          obtain ⟨u, hu, e⟩ := List.mem_map.mp h
          cases e
          exact nz hu
        refine ⟨_, rfl, _, rfl, dd, _, rfl, DPut.k (k := Sum.inr z) (v := .ref D) ed5 (small1000 (by omega)), ?_⟩
        rw [putK_new new]
        have t5 : Tr (fun a => H a = none ∧ a ≠ dd) Hb (upd H5 dd (.dK (kk ++ [(Sum.inr z, .ref D)]))) := (bag_tr Ba g5 fun a na e => by rw [e] at na; exact B0.ne na.1 rfl).trans ⟨fun a o na e => by rw [upd_ne na.2]; exact e, tk_dK ed5⟩
        have t6 : Tr (fun a => H a = none ∧ a ≠ dd) H5 (upd H5 dd (.dK (kk ++ [(Sum.inr z, .ref D)]))) := ⟨fun a o na e => by rw [upd_ne na.2]; exact e, tk_dK ed5⟩
        refine ⟨⟨_, _, _, rfl⟩, B5.beside ndb ndl, grow_upd (ga.trans g5) ndd0, _, fun u => if u = z then Tb else T u, upd_same, ?_, ?_, fun u hu => ?_⟩
        · rw [List.map_append, ek, List.take_add_one, hz, List.map_append]
          rfl
        · rw [List.take_add_one, hz]
          refine psnoc ?_ (pimp_mem (fun p u hu h => ?_) pk)
          · show TabN _ _ (V.ref D) (if z = z then Tb else T z)
            rw [if_pos rfl]
            refine TabN.tr t6 ⟨D, rs, rfl, ⟨nD0, neD⟩, eD, pimp (fun _ _ h => h.imp fun a na => ⟨?_, fun e => ?_⟩) pT⟩
            · by_cases hab : a = b
              · rw [hab] at na
                exact absurd rfl (Ba.ne na.1)
              · exact ga.free hab na.1
            · rw [e, ed] at na
              cases na.1
          · show TabN _ _ p.2 (if u = z then Tb else T u)
            rw [if_neg (fun e : u = z => nz (by rw [← e]; exact hu))]
            exact h.tr t5
        · rw [List.take_add_one, hz] at hu
          show SqI n (if u = z then Tb else T u)
          by_cases e : u = z
          · rw [if_pos e]
            exact ⟨lT, fun r hr => (aT r hr).1, fun r hr => (aT r hr).2⟩
          · rw [if_neg e]
            rcases List.mem_append.mp hu with h | h
            · exact sqk u h
            · exact absurd (List.mem_singleton.mp h) e
    · obtain ⟨⟨y6, y7, y8, rfl⟩, Ba, ga, kk, T, ed, ek, pk, sqk⟩ := hP
      rw [List.length_map, List.take_length] at ek pk sqk
      refine ⟨_, rfl, _, rfl, (n : Int), rfl, by omega, by omega, fun D nD => ?_⟩
      rw [en]
      have nDb := Ba.ne nD
      have nDl := Ba.neL nD
      refine lc_range (lo := 0) (n := n) (fun j H' => Bag l b H' ∧ Grow b _ H' ∧ ∃ (ps : List V) (xs : List (Int × Int)), H' D = some (.lst ps) ∧ xs.length = j ∧ Paired (ShV H') ps xs ∧ ∀ x ∈ xs, Li x) ⟨Ba.same (same_new nD), Same.grow (same_new nD), [], [], upd_same, rfl, .nil, fun r hr => nomatch hr⟩ (fun j Hj hj hP => ?_) (fun H6 hP => ?_)
      · obtain ⟨Bj, gj, ps, xs, e2, lx, px, ax⟩ := hP
        have lps := Paired.length px
        refine ⟨rfl, yes_if ?_⟩
        refine ⟨_, rfl, l, b, rfl, Bj, fun p x H3 lt B3 g3 _ ep => ?_⟩
        have e3 := g3 _ _ nDb e2
        have k3 : TupKeep H3 (upd H3 D (.lst (ps ++ [.ref p]))) := tk_no e3 (fun _ e => by cases e)
        refine ⟨ps, e3, small1000 (by omega), B3.beside nDb nDl, grow_upd (gj.trans g3) nD, ps ++ [.ref p], xs ++ [x], upd_same, by rw [List.length_append, lx]; rfl, psnoc ⟨p, rfl, k3 _ _ ep⟩ (pimp (fun _ _ z => (z.tk (bag_tk Bj g3)).tk k3) px), fun x' hx => ?_⟩
        rcases List.mem_append.mp hx with e | e
        · exact ax _ e
        · rw [List.mem_singleton.mp e]
          exact lt
      obtain ⟨B6, g6, fv, bb, ef, lb, pb, ab⟩ := hP
      refine ⟨_, rfl, _, rfl, (n : Int), rfl, by omega, by omega, fun D2 nD2 => ?_⟩
      rw [en]
      have n2b := B6.ne nD2
      have n2l := B6.neL nD2
      refine lc_range (lo := 0) (n := n) (fun j H' => Bag l b H' ∧ Grow b H6 H' ∧ ∃ (ps : List V) (xs : List (Int × Int)), H' D2 = some (.lst ps) ∧ xs.length = j ∧ Paired (ShV H') ps xs ∧ ∀ x ∈ xs, Li x) ⟨B6.same (same_new nD2), Same.grow (same_new nD2), [], [], upd_same, rfl, .nil, fun r hr => nomatch hr⟩ (fun j Hj hj hP => ?_) (fun H7 hP => ?_)
      · obtain ⟨Bj, gj, ps, xs, e2, lx, px, ax⟩ := hP
        have lps := Paired.length px
        refine ⟨rfl, yes_if ?_⟩
        refine ⟨_, rfl, l, b, rfl, Bj, fun p x H3 lt B3 g3 _ ep => ?_⟩
        have e3 := g3 _ _ n2b e2
        have k3 : TupKeep H3 (upd H3 D2 (.lst (ps ++ [.ref p]))) := tk_no e3 (fun _ e => by cases e)
        refine ⟨ps, e3, small1000 (by omega), B3.beside n2b n2l, grow_upd (gj.trans g3) nD2, ps ++ [.ref p], xs ++ [x], upd_same, by rw [List.length_append, lx]; rfl, psnoc ⟨p, rfl, k3 _ _ ep⟩ (pimp (fun _ _ z => (z.tk (bag_tk Bj g3)).tk k3) px), fun x' hx => ?_⟩
        rcases List.mem_append.mp hx with e | e
        · exact ax _ e
        · rw [List.mem_singleton.mp e]
          exact lt
      obtain ⟨B7, g7, lv, ee, el, le, pe', ae⟩ := hP
      refine ⟨(by show 4 ≤ sizeLine; decide), fun tp ntp => ?_⟩
      have s8 := same_new (o := .tup [.ref sg, .ref D, .ref dd, .ref D2]) ntp
      have g07 := g6.trans g7
      have tr : Tr (fun a => H a = none) H' (upd H7 tp (.tup [.ref sg, .ref D, .ref dd, .ref D2])) := (bag_tr Ba g07 fun a na e => by rw [e] at na; exact B0.ne na rfl).trans (Tr.of s8)
      have k8 := Same.tk s8
      refine q tp D dd D2 n bb ee T fv lv kk _ ⟨lL, hn, lb, le, ab, ae, fun y hy => sqk y hy⟩ ⟨upd_same, ga.free nDb nD, s8 _ _ (g7 _ _ nDb ef), pimp (fun _ _ z => (z.tk (bag_tk B6 g7)).tk k8) pb, ga.free n2b (g6.free n2b nD2), s8 _ _ el, pimp (fun _ _ z => z.tk k8) pe', ndd0, s8 _ _ (g07 _ _ ndb ed), ek, pimp (fun _ _ z => (z.imp fun a na => na.1).tr tr) pk⟩ (B7.same s8) (ga.trans (g07.trans (Same.grow s8)))
end
end Nv

set_option maxRecDepth 100000
set_option maxHeartbeats 8000000
namespace Nv
open PySem PySem.Spec PyProof.Rows L2 NvSet LamX
theorem RowL.same {H H' : Hp} (s : Same H H') {v : V} {k : Nat} (h : RowL H v k) : RowL H' v k := by
  obtain ⟨r, ps, e, h1, h2⟩ := h
  exact ⟨r, ps, e, s _ _ h1, h2⟩
theorem TabL.same {H H' : Hp} (s : Same H H') {v : V} {ks : List Nat} (h : TabL H v ks) : TabL H' v ks := by
  obtain ⟨r, rs, e, h1, h2⟩ := h
  exact ⟨r, rs, e, s _ _ h1, pimp (fun _ _ z => z.same s) h2⟩
theorem Handed.same {H H' : Hp} {aL aB aS aE : Addr} {L : List Str} {bv ev : List V} {kvs : List (Key × V)} {ws : List (List Nat)} (s : Same H H') (h : Handed H aL aB aS aE L bv ev kvs ws) : Handed H' aL aB aS aE L bv ev kvs ws :=
  ⟨s _ _ h.hL, h.lL, h.tL, h.hB.same s, h.lB, s _ _ h.hE, h.lE, s _ _ h.hS, h.lS, h.nd, h.txt, pimp (fun _ _ z => z.same s) h.tab, h.lw⟩
theorem MachN.imp {N M : Addr → Prop} {CM CB : Addr} {H : Hp} {x : Addr} {L : List Str} {b e : List (Int × Int)} {T : Str → List (List (Int × Int))} (t : ∀ a, N a → M a) (h : MachN N CM CB H x L b e T) : MachN M CM CB H x L b e T := by
  obtain ⟨dx, bb, sc, db, o, f, tt, l, fv, lv, kvs, n1, h1, n2, h2, n3, h3, n4, h4, p4, n5, h5, p5, n6, h6, h7, h8⟩ := h
  exact ⟨dx, bb, sc, db, o, f, tt, l, fv, lv, kvs, t _ n1, h1, t _ n2, h2, t _ n3, h3, t _ n4, h4, p4, t _ n5, h5, p5, t _ n6, h6, h7, pimp (fun _ _ z => z.imp t) h8⟩
abbrev sBld : Stmt := topS 70
theorem scBld : FnScope ["_law_m"] ["_law_m"] (defScope sBld) := ⟨rfl, rfl, rfl, by decide +kernel, rfl, by decide +kernel, by decide +kernel⟩
def spBld (CM CB : Addr) : Sp := fun vs H Q _ => ∃ (t aL aB aS aE : Addr) (L : List Str) (bv ev : List V) (kvs : List (Key × V)) (ws : List (List Nat)) (b e : List (Int × Int)) (T : Str → List (List (Int × Int))), vs = [.ref t] ∧ H t = some (.tup [.ref aL, .ref aB, .ref aS, .ref aE]) ∧ Handed H aL aB aS aE L bv ev kvs ws ∧ Fits L bv ev kvs ws ∧
  Engine L bv.length b e T ∧ Paired (ShV H) bv b ∧ Paired (ShV H) ev e ∧ (∀ y ∈ L, ∃ v, valV kvs (Sum.inr y) = some v ∧ TabN (fun _ => True) H v (T y)) ∧ ∀ (x : Addr) (L' : List Str) (H' : Hp), L'.Perm L → sortedS L' = true → Same H H' → MachN (fun a => H a = none) CM CB H' x L' b e T → Q (.ref x) H'
section
variable {P : Program} {w : World} {K : PySem.W.Frag} {mg : Str → Option Value} {base : Heap}
theorem ok_bld {f C CM CB fM : Addr} {fd fdM : FuncData} (F : Fun K "_law_builds" "_law_builds" sBld f fd) (MM : Mk K CM fM) (GM : FnOk P w K mg base (L2.CX P w) 6 fM fdM ["self", "letters", "begin", "steps", "end"] (spMIni C CM CB)) (bM : Binds K fdM ["self", "letters", "begin", "steps", "end"] []) (gM : mg "Machine" = some (.ref CM)) :
    FnOk P w K mg base CX0 8 f fd ["_law_m"] (spBld CM CB) := by
  refine F.ok scBld (fun vs H Q E h => ?_) (fun cdv A outer s H vs Q E hr h => ?_)
  · obtain ⟨t, aL, aB, aS, aE, L, bv, ev, kvs, ws, b, e, T, rfl, _⟩ := h
    rfl
  · obtain ⟨t, aL, aB, aS, aE, L, bv, ev, kvs, ws, b, e, T, rfl, ht, hh, ft, En, pb, pe', hT, q⟩ := h
    refine ⟨_, pss_one (ps_ret (pe_make MM GM (hr.mono (by decide)) (by rfl) gM bM .nil passL (pa_cons (pe_ix ix_tup (pv 0) pe_int (fun _ _ => rfl)) (pa_cons (pe_ix ix_tup (pv 0) pe_int (fun _ _ => rfl)) (pa_cons (pe_ix ix_tup (pv 0) pe_int (fun _ _ => rfl)) (pa_cons (pe_ix ix_tup (pv 0) pe_int (fun _ _ => rfl)) pa_nil)))))), ?_⟩
    refine ⟨_, rfl, t, _, 0, .ref aL, rfl, rfl, SqT.of ht, rfl, _, rfl, t, _, 1, .ref aB, rfl, rfl, SqT.of ht, rfl, _, rfl, t, _, 2, .ref aS, rfl, rfl, SqT.of ht, rfl, _, rfl, t, _, 3, .ref aE, rfl, rfl, SqT.of ht, rfl, ?_⟩
    intro x dx nx ndx ne
    have s1 := same_new (o := .own x) ndx
    have nx2 : upd H dx (.own x) x = none := by rw [upd_ne ne.symm]; exact nx
    have s2 := s1.trans (same_new (o := .ins CM dx []) nx2)
    refine ⟨x, dx, aL, aB, aS, aE, L, bv, ev, kvs, ws, b, e, T, rfl, upd_same, hh.same s2, fun _ => ⟨En, pimp (fun _ _ z => z.tk (Same.tk s2)) pb, pimp (fun _ _ z => z.tk (Same.tk s2)) pe', fun y hy => ?_, fun L' H' pm so g mn => ⟨rfl, ?_⟩⟩, fun nf => absurd ft nf⟩
    · obtain ⟨v, ev, hv⟩ := hT y hy
      exact ⟨v, ev, hv.tr (Tr.of s2)⟩
    · refine q x L' H' pm so (fun a o h => g a o (ne_of_none h nx) (s2 _ _ h)) (mn.imp fun a na => ?_)
      rcases na with rfl | na
      · exact nx
      · exact s2.free na
end
end Nv

set_option maxRecDepth 100000
set_option maxHeartbeats 8000000
namespace Nv
open PySem PySem.Spec PyProof.Rows L2 NvSet LamX
/-! what stands in memory is told with N -/
def Live (N : Addr → Prop) (H : Hp) (a : Addr) : Prop := N a ∧ ∃ o, H a = some o ∧ ∀ ps, o ≠ .tbl ps
theorem live {N : Addr → Prop} {H : Hp} {a : Addr} {o : HO} (n : N a) (h : H a = some o) (t : ∀ ps, o ≠ .tbl ps := by intro _ z; cases z) : Live N H a := ⟨n, o, h, t⟩
section
variable {N M : Addr → Prop} {H H' : Hp} {CM CB : Addr}
theorem RowN.live {v : V} {xs : List (Int × Int)} (h : RowN N H v xs) : RowN (Live N H) H v xs := by
  obtain ⟨r, ps, e, n, h1, h2⟩ := h
  exact ⟨r, ps, e, Nv.live n h1, h1, h2⟩
theorem TabN.live {v : V} {T : List (List (Int × Int))} (h : TabN N H v T) : TabN (Live N H) H v T := by
  obtain ⟨r, rs, e, n, h1, h2⟩ := h
  exact ⟨r, rs, e, Nv.live n h1, h1, pimp (fun _ _ z => z.live) h2⟩
theorem MachN.live {x : Addr} {L : List Str} {b e : List (Int × Int)} {T : Str → List (List (Int × Int))} (h : MachN N CM CB H x L b e T) : MachN (Live N H) CM CB H x L b e T := by
  obtain ⟨dx, bb, sc, db, o, f, tt, l, fv, lv, kvs, n1, h1, n2, h2, n3, h3, n4, h4, p4, n5, h5, p5, n6, h6, h7, h8⟩ := h
  exact ⟨dx, bb, sc, db, o, f, tt, l, fv, lv, kvs, Nv.live n1 h1, h1, Nv.live n2 h2, h2, Nv.live n3 h3, h3, Nv.live n4 h4, h4, p4, Nv.live n5 h5, h5, p5, Nv.live n6 h6, h6, h7, pimp (fun _ _ z => z.live) h8⟩
variable {tp sg fa dd la : Addr} {L : List Str} {b e : List (Int × Int)} {T : Str → List (List (Int × Int))} {fv lv : List V} {kvs : List (Key × V)}
theorem EngAt.live (h : EngAt N H tp sg fa dd la L b e T fv lv kvs) : EngAt (Live N H) H tp sg fa dd la L b e T fv lv kvs :=
  ⟨h.tup, Nv.live h.nf h.hf, h.hf, h.pf, Nv.live h.nl h.hl, h.hl, h.pl, Nv.live h.nd h.hd, h.hd, h.ks, pimp (fun _ _ z => z.live) h.pk⟩
theorem EngAt.tr (t : Tr N H H') (h : EngAt N H tp sg fa dd la L b e T fv lv kvs) : EngAt N H' tp sg fa dd la L b e T fv lv kvs :=
  ⟨t.tup _ _ h.tup, h.nf, t.own _ _ h.nf h.hf, pimp (fun _ _ z => z.tk t.tup) h.pf, h.nl, t.own _ _ h.nl h.hl, pimp (fun _ _ z => z.tk t.tup) h.pl, h.nd, t.own _ _ h.nd h.hd, h.ks, pimp (fun _ _ z => z.tr t) h.pk⟩
theorem EngAt.imp (t : ∀ a, N a → M a) (h : EngAt N H tp sg fa dd la L b e T fv lv kvs) : EngAt M H tp sg fa dd la L b e T fv lv kvs :=
  ⟨h.tup, t _ h.nf, h.hf, h.pf, t _ h.nl, h.hl, h.pl, t _ h.nd, h.hd, h.ks, pimp (fun _ _ z => z.imp t) h.pk⟩
theorem RowN.len {v : V} {xs : List (Int × Int)} (h : RowN N H v xs) : RowL H v xs.length := by
  obtain ⟨r, ps, e, n, h1, h2⟩ := h
  exact ⟨r, ps, e, h1, Paired.length h2⟩
theorem paired_mapR {α β γ : Type} {R : α → γ → Prop} {f : β → γ} : ∀ {xs : List α} {ys : List β}, Paired (fun a b => R a (f b)) xs ys → Paired R xs (ys.map f)
  | _, _, .nil => .nil
  | _, _, .cons h t => .cons h (paired_mapR t)
theorem TabN.len {v : V} {T : List (List (Int × Int))} (h : TabN N H v T) : TabL H v (T.map List.length) := by
  obtain ⟨r, rs, e, n, h1, h2⟩ := h
  exact ⟨r, rs, e, h1, paired_mapR (pimp (fun _ _ z => z.len) h2)⟩
end
theorem twin_txt {K : PySem.W.Frag} {H : Hp} : ∀ L : List Str, Paired (Twin K H 1) (L.map V.str) (L.map V.str)
  | [] => .nil
  | x :: L => .cons (Twin.one (Scal.str x) 1) (twin_txt L)
/-- the addresses of tables in a dict -/
def adr : V → Addr
  | .ref r => r
  | _ => 0
def adrs (kvs : List (Key × V)) : List Addr := kvs.map fun p => adr p.2
theorem adr_mem {N : Addr → Prop} {H : Hp} {T : Str → List (List (Int × Int))} : ∀ {kvs : List (Key × V)} {L : List Str}, Paired (fun (p : Key × V) y => TabN N H p.2 (T y)) kvs L → ∀ a ∈ adrs kvs, N a ∧ ∃ (xs : List V) (y : Str), H a = some (.lst xs) ∧ y ∈ L ∧ xs.length = (T y).length
  | _, _, .nil, a, ha => nomatch ha
  | p :: kvs, y :: L, .cons h t, a, ha => by
    obtain ⟨r, rs, e, n, h1, h2⟩ := h
    rcases List.mem_cons.mp ha with e2 | e2
    · have e2 : a = adr p.2 := e2
      rw [e] at e2
      have e2 : a = r := e2
      rw [e2]
      exact ⟨n, rs, y, h1, List.mem_cons_self, Paired.length h2⟩
    · obtain ⟨n', xs, y', q1, q2, q3⟩ := adr_mem t a e2
      exact ⟨n', xs, y', q1, List.mem_cons_of_mem _ q2, q3⟩
theorem valV_mem {kvs : List (Key × V)} {k : Key} {v : V} (h : valV kvs k = some v) : ∃ p ∈ kvs, p.1 = k ∧ p.2 = v := by
  unfold valV at h
  obtain ⟨p, hp, e⟩ := Option.map_eq_some_iff.mp h
  exact ⟨p, List.mem_of_find?_eq_some hp, of_decide_eq_true (by simpa using List.find?_some hp), e⟩
theorem eng_val {N : Addr → Prop} {H : Hp} {kvs : List (Key × V)} {L : List Str} {T : Str → List (List (Int × Int))} (nd : L.Nodup) (ek : kvs.map (·.1) = L.map Sum.inr) (pk : Paired (fun (p : Key × V) y => TabN N H p.2 (T y)) kvs L) {y : Str} (hy : y ∈ L) : ∃ r, valV kvs (Sum.inr y) = some (.ref r) ∧ r ∈ adrs kvs ∧ TabN N H (.ref r) (T y) := by
  obtain ⟨v, e, t⟩ := mach_val nd ek pk hy
  obtain ⟨p, hp, e1, e2⟩ := valV_mem e
  obtain ⟨r, rs, rfl, t2⟩ := t
  refine ⟨r, e, List.mem_map.mpr ⟨p, hp, by rw [e2]; rfl⟩, r, rs, rfl, t2⟩
theorem eng_all {N : Addr → Prop} {H : Hp} {kvs : List (Key × V)} {L : List Str} {T : Str → List (List (Int × Int))} (ek : kvs.map (·.1) = L.map Sum.inr) (pk : Paired (fun (p : Key × V) y => TabN N H p.2 (T y)) kvs L) {p : Key × V} (hp : p ∈ kvs) : ∃ y ∈ L, p.1 = Sum.inr y ∧ TabN N H p.2 (T y) := by
  obtain ⟨i, hi, ei⟩ := List.getElem_of_mem hp
  obtain ⟨y, ey, t⟩ := L2.paired_get pk (List.getElem?_eq_getElem hi)
  have := congrArg (fun l => l[i]?) ek
  simp only [List.getElem?_map, ey, List.getElem?_eq_getElem hi] at this
  rw [ei] at this t
  exact ⟨y, List.mem_of_getElem? ey, Option.some.inj this, t⟩
theorem Twin.le {K : PySem.W.Frag} {H : Hp} {n m : Nat} (h : n ≤ m) {x y : V} (t : Twin K H n x y) : Twin K H m x y := by
  induction h with
  | refl => exact t
  | step _ ih => exact ih.up
theorem inr_nodup : ∀ {l : List Str}, l.Nodup → (l.map (Sum.inr : Str → Key)).Nodup := fun h => List.pairwise_map.mpr (h.imp fun h e => h (Sum.inr.inj e))
/-! the engine's own parts fit -/
section
variable {N : Addr → Prop} {H : Hp} {tp sg fa dd la : Addr} {L : List Str} {n : Nat} {b e : List (Int × Int)} {T : Str → List (List (Int × Int))} {fv lv : List V} {kvs : List (Key × V)}
def lensOf (L : List Str) (T : Str → List (List (Int × Int))) : List (List Nat) := L.map fun y => (T y).map List.length
theorem klen (ek : kvs.map (·.1) = L.map Sum.inr) : kvs.length = L.length := by
  have := congrArg List.length ek
  rwa [List.length_map, List.length_map] at this
theorem lens_paired (pk : Paired (fun (p : Key × V) y => TabN N H p.2 (T y)) kvs L) : Paired (fun (p : Key × V) ks => TabL H p.2 ks) kvs (lensOf L T) := paired_mapR (pimp (fun _ _ z => z.len) pk)
theorem handed_of {a0 a1 d a3 : Addr} (En : Engine L n b e T) (nd : L.Nodup) (sm : ∀ x ∈ L, Small x) (h0 : H a0 = some (.lst (L.map V.str))) (h1 : SqA H a1 fv) (pf : Paired (ShV H) fv b) (h3 : H a3 = some (.lst lv)) (pl : Paired (ShV H) lv e) (hd : H d = some (.dK kvs)) (ek : kvs.map (·.1) = L.map Sum.inr)
    (pk : Paired (fun (p : Key × V) y => TabN N H p.2 (T y)) kvs L) : Handed H a0 a1 d a3 L fv lv kvs (lensOf L T) := by
  have := En.few
  have := En.n12
  have := klen ek
  have := Paired.length pf
  have := Paired.length pl
  have := En.lb
  have := En.le
  refine ⟨h0, by omega, fun x hx => .inl (sm x hx), h1, by omega, h3, by omega, hd, by omega, by rw [ek]; exact inr_nodup nd, fun p hp => ?_, lens_paired pk, fun ks hk => ?_⟩
  · have : p.1 ∈ kvs.map (·.1) := List.mem_map.mpr ⟨p, hp, rfl⟩
    rw [ek] at this
    obtain ⟨y, _, e⟩ := List.mem_map.mp this
    exact ⟨y, e.symm⟩
  · obtain ⟨y, hy, rfl⟩ := List.mem_map.mp hk
    rw [List.length_map, (En.sq y hy).len]
    omega
theorem fits_of (En : Engine L n b e T) (nd : L.Nodup) (sm : ∀ x ∈ L, Small x) (pf : Paired (ShV H) fv b) (pl : Paired (ShV H) lv e) (ek : kvs.map (·.1) = L.map Sum.inr) (pk : Paired (fun (p : Key × V) y => TabN N H p.2 (T y)) kvs L) : Fits L fv lv kvs (lensOf L T) := by
  have l1 : fv.length = n := by rw [Paired.length pf, En.lb]
  have l2 : lv.length = n := by rw [Paired.length pl, En.le]
  refine ⟨⟨sm, nd, klen ek, fun x hx => ?_⟩, by rw [l1, l2], fun ks hk => ?_⟩
  · obtain ⟨r, e, _⟩ := eng_val nd ek pk hx
    rw [e]
    rfl
  · obtain ⟨y, hy, rfl⟩ := List.mem_map.mp hk
    have sq := En.sq y hy
    refine ⟨by rw [List.length_map, sq.len, l1], fun k hk => ?_⟩
    obtain ⟨r, hr, rfl⟩ := List.mem_map.mp hk
    rw [sq.wide r hr, l1]
end
theorem paired_keys {R : Key × V → Str → Prop} : ∀ {kvs : List (Key × V)} {L : List Str}, Paired R kvs L → kvs.map (·.1) = L.map Sum.inr → Paired (fun p y => R p y ∧ p.1 = Sum.inr y) kvs L
  | _, _, .nil, _ => .nil
  | _, _, .cons a t, h => .cons ⟨a, (List.cons.inj h).1⟩ (paired_keys t (List.cons.inj h).2)
theorem dp_txt {K : PySem.W.Frag} {H : Hp} : ∀ L : List Str, DpAll K H (L.map V.str) (L.map PyData.str)
  | [] => .nil
  | x :: L => .cons (.str x) (dp_txt L)
theorem small_ok {x : Str} (h : Small x) : PyData.strOk x = true := by
  have e : ((Str.ofString "abcdefghijklmnopqrstuvwxyz").cps.toList.all fun c => decide (c < 0x110000)) = true := by decide +kernel
  unfold PyData.strOk
  rw [← Array.all_toList, List.all_eq_true]
  intro c hc
  exact List.all_eq_true.mp e c (h.all c hc)
theorem lay_txt : ∀ L : List Str, (∀ x ∈ L, Small x) → PyData.canLayAll0 (L.map PyData.str) = true
  | [], _ => by simp [PyData.canLayAll0]
  | x :: L, h => by
    rw [List.map_cons, PyData.canLayAll0, lay_txt L (fun y hy => h y (List.mem_cons_of_mem _ hy))]
    simp [PyData.canLay0, small_ok (h x List.mem_cons_self)]
theorem txt_shaped {L : List Str} (h : ∀ x ∈ L, Small x) : SeqAt.shaped (.list (L.map PyData.str)) = true := by
  have h2 := depth_map PyData.str (k := 0) (fun x => by simp [PyData.depth]) L
  unfold SeqAt.shaped PyData.canLay0 PyData.depth
  rw [lay_txt L h, decide_eq_true (by omega)]
  rfl
end Nv

set_option maxRecDepth 100000
set_option maxHeartbeats 4000000
namespace NvO
open PySem PySem.W PySem.Calls PyProof.Rows Builtin
section
variable {prog : Program} {w : World} {A : Around} {E : Value → Shared → Prop} {s : Shared} {K : Frag} {x C L f : Addr} {h₀ : Heap} {m : Str → Option Value} {ox : Obj} {od : Option Obj} {b tb : Value}

/-- != by an own == -/
theorem ne_K {Q : Value → Shared → Prop} (hu : A.units + 1 < cLine) (Fh : Fr h₀ L s.heap m) (X₀ : K.In h₀) (I : InstAt s.heap x ox C od) (hb : Looks (model prog w) s.heap (typeOf b) tb) (hn : notFirst K C tb = true)
    (hne : findIn K (.ref C) "__ne__" = some (some (.builtin "object.__ne__"))) (hm : mroIn K C (.type "object") = some true) (hs : findIn K (.ref C) "__eq__" = some (some (.ref f))) (hf : isFn K (.ref f) = true)
    (h : wpAny (model prog w) A.in1 (call (.ref f) [.ref x, b]) (fun v s' => ∃ r, v = .bool r ∧ Q (.bool (!r)) s') E s) : wpAny (model prog w) A (richCompare .NotEq (.ref x) b) Q E s := by
  have X := X₀.keeps Fh.keep
  have hsub : Looks (model prog w) s.heap (isInstance (.ref x) (.type "object")) true := I.type.andThen (looks_mroIn X hm)
  have body : ∀ {Q' : Fin → Shared → Prop}, wpAny (model prog w) A.in1 (call (.ref f) [.ref x, b]) (fun v s' => ∃ r, v = .bool r ∧ Q' (.done (.ret (.bool (!r)))) s') E s →
      wpAny (model prog w) A.in1 (Builtin.«object.__ne__» ⟨[.ref x, b], []⟩) Q' E s := by
    intro Q' hc
    unfold Builtin.«object.__ne__»
    obtain ⟨hp, g, d, t, os⟩ := s
    repeat (first
      | with_reducible refine wpAny_cRoomFor hu ?_
      | (refine wpAny_bind (m := callSpecialIfBound? (.ref x) (Str.ofString "__eq__") [b])
          (ifBound_K X I hs hf (wpAny_mono hc (fun r s' hr => by
            obtain ⟨b, rfl, hq⟩ := hr
            repeat (first | exact hq | exact wpAny_pure hq | exact wpAny_truthy_bool hq | (refine wpAny_bind (m := truthy (.bool _)) (wpAny_truthy_bool ?_)) | wp_step)) fun _ _ e => e)))
      | wp_step)
  have one : wpAny (model prog w) A (tryCompare (.ref x) "__ne__" b) (fun r s' => ∃ v, r = some v ∧ Q v s') E s := by
    unfold tryCompare
    refine wpAny_bind ?_
    simp only [callSpecialIfBound?, bindSpecialIfBound?]
    refine wpAny_holding (wpAny_bind (wpAny_bind (wpAny_bind (I.type.here ((looks_findIn X hne).here ?_)))))
    refine wpAny_bind (wpAny_askSetting (wpAny_ite ?_))
    have fin : wpAny (model prog w) A (call (.builtin "object.__ne__") ([.ref x] ++ [b]) >>= fun v => pure (some v)) (fun r s' => wpAny (model prog w) A (match r with | some .notImplemented | none => pure none | some v => pure (some v)) (fun r s' => ∃ v, r = some v ∧ Q v s') E s') E s := by
      refine wpAny_bind (wpAny_mono (wpAny_call (codeAny_call_builtin PySem.F.slot_object_ne.plain PySem.F.cmpEntry_ne (check_slot PySem.F.cmpKind_ne PySem.F.cmpSplit_ne hsub (PySem.F.cmpArgs_ne _ _) (body ?_)))) (fun v s' hv => wpAny_pure hv) fun _ _ e => e)
      refine wpAny_mono h (fun v s' hv => ?_) fun _ _ e => e
      obtain ⟨r, rfl, hq⟩ := hv
      exact ⟨r, rfl, wpAny_pure ⟨_, rfl, hq⟩⟩
    split
    · rw [PySem.F.slot_object_ne.bind]
      exact wpAny_bind (wpAny_pure (wpAny_pure (by exact fin)))
    · rw [PySem.F.slot_object_ne.bind]
      exact wpAny_tryCatch (wpAny_bind (wpAny_pure (wpAny_pure (by exact fin))))
  unfold richCompare
  simp only [oneThing_ref]
  refine wpAny_holding (wpAny_bind (wpAny_cRoomFor (Nat.lt_of_succ_lt hu) ?_))
  refine wpAny_bind (I.type.here (wpAny_bind (hb.here ?_)))
  split
  · rename_i q
    have e : subIn K tb (.ref C) = some false := by
      rcases Bool.or_eq_true_iff.mp hn with e | e
      · rw [beq_iff_eq.mp e] at q; simp at q
      · exact beq_iff_eq.mp e
    refine wpAny_bind ((looks_subIn X e).here ?_)
    simp only [Bool.false_eq_true, if_false]
    refine wpAny_bind (wpAny_mono one (fun r s' z => ?_) fun _ _ e => e)
    obtain ⟨v, rfl, hq⟩ := z
    exact wpAny_pure hq
  · refine wpAny_bind (wpAny_pure ?_)
    simp only [Bool.false_eq_true, if_false]
    refine wpAny_bind (wpAny_mono one (fun r s' z => ?_) fun _ _ e => e)
    obtain ⟨v, rfl, hq⟩ := z
    exact wpAny_pure hq

/-- the body of len, by an own __len__ -/
theorem len_body {Q : Value → Shared → Prop} (X : K.In s.heap) (I : InstAt s.heap x ox C od) (hs : findIn K (.ref C) "__len__" = some (some (.ref f))) (hf : isFn K (.ref f) = true)
    (h : wpAny (model prog w) A (call (.ref f) [.ref x]) (PySem.W.LenBack Q) E s) : wpAny (model prog w) A (Builtin.«len» ⟨[.ref x], []⟩) (fun fin s' => ∃ r, fin = .done (.ret r) ∧ Q r s') E s := by
  unfold Builtin.«len»
  refine wpAny_bind (m := oneArg "len" _) (wpAny_pure ?_)
  refine wpAny_bind (m := callSpecial? (.ref x) (Str.ofString "__len__")) (special_fn X I hs (beq_iff_eq.mp hf) (wpAny_mono h (fun r s' hr => ?_) fun _ _ y => y))
  cases r <;> first | exact hr.elim | skip
  rename_i n u
  obtain ⟨⟨h0, h1⟩, hq⟩ := hr
  refine wpAny_bind (wpAny_holding (wpAny_pure ?_))
  refine wpAny_bind (wpAny_letGo ?_)
  show wpAny _ _ (if n < 0 then _ else _) _ _ _
  rw [if_neg (by omega)]
  show wpAny _ _ (if n ≥ 2 ^ 63 then _ else _) _ _ _
  rw [if_neg (by omega)]
  exact wpAny_bind (wpAny_mkInt (wpAny_pure ⟨_, rfl, hq⟩))
/-- the truth by an own length -/
theorem truthy_L {Q : Bool → Shared → Prop} (X : K.In s.heap) (I : InstAt s.heap x ox C od) (hb : findIn K (.ref C) "__bool__" = some none) (hs : findIn K (.ref C) "__len__" = some (some (.ref f))) (hf : isFn K (.ref f) = true)
    (h : wpAny (model prog w) A.in1 (call (.ref f) [.ref x]) (PySem.W.LenBack fun v s' => ∃ n t, v = .int n t ∧ Q (n != 0) s') E s) : wpAny (model prog w) A (truthy (.ref x)) Q E s := by
  have key : wpAny (model prog w) A (runValue (.builtin "len" ⟨[.ref x], []⟩)) (fun r s' => ∃ n t, r = .int n t ∧ Q (n != 0) s') E s := by
    refine wpAny_runValue (codeAny_builtin entry_len ?_)
    rw [Around.under_plainId plain_len _]
    exact wpAny_mono (len_body X I hs hf h) (fun fin s' h' => by obtain ⟨r, rfl, hq⟩ := h'; exact hq) fun _ _ e => e
  have hsp : ∀ {name : Str} {r : Option Value} {Q' : Option Value → Shared → Prop}, findIn K (.ref C) name = some r → Q' r s → wpAny (model prog w) A (specialOf (.ref x) name) Q' E s := fun e q => by
    unfold specialOf
    exact wpAny_bind (I.type.here ((looks_findIn X e).here q))
  have hno : ∀ {Q' : Option Value → Shared → Prop}, Q' none s → wpAny (model prog w) A (callSpecial? (.ref x) (Str.ofString "__bool__")) Q' E s := fun q => by
    unfold callSpecial?
    exact wpAny_bind (hsp hb (wpAny_pure q))
  unfold truthy
  first
    | refine wpAny_bind (hno ?_)
    | refine wpAny_bind (wpAny_pure (wpAny_bind (hno ?_)))
  first
    | refine wpAny_bind (hsp hs ?_)
    | refine wpAny_bind (wpAny_pure (wpAny_bind (hsp hs ?_)))
  first
    | exact wpAny_bind (wpAny_mono key (fun r s' h' => by obtain ⟨n, t, rfl, hq⟩ := h'; exact wpAny_pure hq) fun _ _ e => e)
    | exact wpAny_bind (wpAny_pure (wpAny_bind (wpAny_mono key (fun r s' h' => by obtain ⟨n, t, rfl, hq⟩ := h'; exact wpAny_pure hq) fun _ _ e => e)))
end

/-! things that are none of the class, on the left of == -/
section
open PySem.SeqAt AutoSeq1 MeetsSeq
theorem int_eq_inst (b : Int) (u : Tok) (l C dx : Addr) :
    Meets (Builtin.«int.__eq__» ⟨[.int b u, .ref l], []⟩) (fun _ R s => s.heap.get? l = some (instObj C dx) ∧ R (.ok (.ret .notImplemented)) s) :=
  .of_wp fun prog w A R s h => by obtain ⟨hp, g, d, tk, os⟩ := s; obtain ⟨hl, h⟩ := h; wp_walk using wpAny_loadPart' hl, wpAny_load hl; exact ⟨_, rfl, h⟩
theorem str_eq_inst (b : Str) (u : Tok) (l C dx : Addr) :
    Meets (Builtin.«str.__eq__» ⟨[.str b u, .ref l], []⟩) (fun _ R s => s.heap.get? l = some (instObj C dx) ∧ R (.ok (.ret .notImplemented)) s) :=
  .of_wp fun prog w A R s h => by obtain ⟨hp, g, d, tk, os⟩ := s; obtain ⟨hl, h⟩ := h; wp_walk using wpAny_loadPart' hl, wpAny_load hl; exact ⟨_, rfl, h⟩
end
end NvO

set_option maxRecDepth 100000
set_option maxHeartbeats 4000000
namespace NvO
open PySem PySem.SeqAt
open AutoSeq1 (wpAny_loadPart')
open MeetsSeq MeetsSeq2 MeetsSeq3 SeqRoads2
section
variable {prog : Program} {w : World} {A : Around} {E : Value → Shared → Prop} {s : Shared}
/-- bool(x) by x's truth -/
theorem bool_by {x : Addr} {Q : Value → Shared → Prop} (h : wpAny (model prog w) A.in1.in1 (truthy (.ref x)) (fun b s' => Q (.bool b) s') E s) : wpAny (model prog w) A (call (.type "bool") [.ref x]) Q E s := by
  refine callType_codes (Q₁ := fun obj s₁ => s₁.TypeIs obj "bool" ∧ Q obj s₁) F.called_bool (F.typeCall_bool_1 _) F.entry_object_init ?_ fun obj s₁ h₁ => ⟨h₁.1, F.args_object_init_2 obj _, object_init_meets F.called_bool.init.lookup F.called_bool.made (by decide) prog w A.in1 _ s₁ ⟨h₁.1, rfl, h₁.2⟩⟩
  refine codeAny_of_tree ?_
  show wpAny _ _ (do checkBuiltinCall "bool.__new__" ⟨[.type "bool", .ref x], []⟩; again (.builtin "bool.__new__" ⟨[.type "bool", .ref x], []⟩)) _ _ s
  refine wpAny_bind (wpAny_of_eq (F.newCall_bool_1 _) (wpAny_pure ⟨plainId_quiet F.called_bool.plain _, codeAny_builtin F.entry_bool_new ?_⟩))
  rw [Around.under_plainId F.called_bool.plain _]
  have f1 := F.conv_sub_bool
  have key : ∀ {Q' : Bool → Shared → Prop} {E' : Value → Shared → Prop}, (∀ b s', Q (.bool b) s' → Q' b s') → (∀ e s', E e s' → E' e s') → wpAny (model prog w) A.in1.in1 (truthy (.ref x)) Q' E' s := fun k ke => wpAny_mono h (fun b s' q => k b s' q) ke
  obtain ⟨hp, g, d, tk, os⟩ := s
  repeat (any_goals (first | assumption | (with_reducible refine wpAny_bind (m := truthy (.ref x)) (key (fun b s' q => ?_) fun _ _ e => e)) | wp_step))
  all_goals first | exact ⟨rfl, q⟩ | exact q | skip
/-- at each turn the list is read anew: none of its items is equal to x -/
def NotI (prog : Program) (w : World) (A : Around) (E : Value → Shared → Prop) (l : Addr) (x : Value) (N : Nat) (I : Shared → Prop) : Prop :=
  ∀ s, I s → ∃ (items : Array Value) (n : Nat), s.heap.get? l = some { cls := .type "list", data := .seq items n } ∧ items.size = N ∧ ∀ y, y ∈ items → wpAny (model prog w) A.in1 (eqBool y x) (fun r s' => r = false ∧ I s') E s
theorem not_in_loop {R : Result → Shared → Prop} (l : Addr) (x : Value) (N : Nat) (I : Shared → Prop) (hl : NotI prog w A (fun e s' => R (.error e) s') l x N I) (fin : ∀ s, I s → R (.ok (.ret (.bool false))) s) (k : Nat) :
    ∀ i : Nat, N - i = k → ∀ s, I s → wpAny (model prog w) A.in1 (Builtin.«list.__contains__.loop» ⟨[.ref l, x, rawInt i], []⟩) (GQ.FinOf prog w A R) (fun e s' => R (.error e) s') s := by
  induction k with
  | zero =>
    intro i hk s hI
    obtain ⟨items, n, hl1, hsz, _⟩ := hl _ hI
    have hR := fin _ hI
    obtain ⟨hp, g, d, tk, os⟩ := s
    wp_walk using wpAny_loadPart' hl1
    have hi : items[((i : Nat) : Int).toNat]? = none := by simp; omega
    rw [hi]
    wp_walk
    exact hR
  | succ k ih =>
    intro i hk s hI
    obtain ⟨items, n, hl1, hsz, turn⟩ := hl _ hI
    have hlt : i < items.size := by omega
    have ht := turn _ (Array.getElem_mem hlt)
    obtain ⟨hp, g, d, tk, os⟩ := s
    wp_walk using wpAny_loadPart' hl1
    have hi : items[((i : Nat) : Int).toNat]? = some items[i] := by simp [hlt]
    rw [hi]
    refine wpAny_bind (wpAny_mono ht (fun r s2 h2 => ?_) fun _ _ z => z)
    obtain ⟨rfl, h2⟩ := h2
    have hc : ((i : Int) + 1) = ((i + 1 : Nat) : Int) := by push_cast; rfl
    have hrec := ih (i + 1) (by omega) s2 h2
    obtain ⟨hp2, g2, d2, tk2, os2⟩ := s2
    wp_walk
    rw [hc]
    exact ⟨plainId_quiet plain_contains_loop _, codeAny_builtin entry_contains_loop (by
      rw [Around.under_plainId plain_contains_loop _]
      exact hrec)⟩
theorem not_in_list {l : Addr} {x : Value} {N : Nat} {Q : Value → Shared → Prop} (I : Shared → Prop) (hl : NotI prog w A E l x N I) (fin : ∀ s, I s → Q (.bool false) s) (h : I s) : wpAny (model prog w) A (compareOp .In x (.ref l)) Q E s := by
  obtain ⟨items, n, hl1, _, _⟩ := hl _ h
  have hT : s.TypeIs (.ref l) "list" := ⟨_, hl1, rfl⟩
  unfold compareOp
  refine wpAny_bind (wpAny_contains_slot hT F.slot_list_contains (GQ.call_here F.slot_list_contains hT F.entry_list_contains (F.args_list_contains_2 _ _) ?_))
  have hrec := not_in_loop (A := A) (R := wants (fun r s' => wpAny (model prog w) A (truthy r) (fun a s' => wpAny (model prog w) A (pure (.bool a)) Q E s') E s') E) l x N I hl (fun s' q => wpAny_truthy_bool (wpAny_pure (fin s' q))) _ 0 rfl s h
  obtain ⟨hp, g, d, tk, os⟩ := s
  wp_walk using wpAny_loadPart' hl1
  exact ⟨plainId_quiet plain_contains_loop _, codeAny_builtin entry_contains_loop (by
    rw [Around.under_plainId plain_contains_loop _]
    exact hrec)⟩
end
end NvO

set_option maxRecDepth 100000
set_option maxHeartbeats 4000000
namespace NvO
open PySem PySem.Spec PyProof.Rows L2
/-- the class at C has a def of its own for a special name -/
structure OwnF (K : PySem.W.Frag) (C : Addr) (name : Str) (f : Addr) : Prop where
  at_ : PySem.W.findIn K (.ref C) name = some (some (.ref f))
  fn : PySem.W.isFn K (.ref f) = true
section
variable {X : Cx} {CX : CXT} {A : Around} {k : Nat} {f C : Addr} {fd : FuncData} {ps : List Str} {sp : Sp} {E : XK}
/-- the callee runs below the running body -/
theorem run_below {pins : List (Addr × Obj)} {σ : L2.St} {H : Hp} {s : Shared} {Q : VK} {us : List Value} {vs : List V} (F : FnOk X.prog X.w X.K X.mg X.base CX k f fd ps sp) (sb : Sub X k A) (hb : Binds X.K fd ps []) (hx : Passes CX X E)
    (I : Inv X pins σ H s) (r : Vals vs us) (h : sp vs H Q E) : wpAny (model X.prog X.w) A (call (.ref f) us) (EP X pins σ Q) X.xe s := by
  have e0 : Env0 X.prog X.w X.K X.mg X.base A X.stack s H := by
    have e := I.env0
    exact ⟨by rw [sb.fr]; exact e.frames, e.mod, e.bs, e.bsz, e.funs, e.frf, e.hok, e.bare⟩
  have hl := F.len _ _ _ _ h
  refine wpAny_call (codeAny_mono (F.run A X.stack s H ⟨us, []⟩ us vs Q E sb.room e0 (by
    have := hb s us I.kIn (by rw [List.append_nil, ← r.length]; exact hl)
    simpa using this) r h) fun r s' hq => ?_)
  cases r with
  | error e => exact hx pins σ H s e s' I hq
  | ok fl =>
    cases fl with
    | ret u => exact I.after hq
    | next => exact False.elim hq
    | brk => exact False.elim hq
    | cont => exact False.elim hq
theorem sub_self (hr : Room k X.A) : Sub X k X.A := ⟨hr, rfl⟩
/-- what an own def tells of an instance, if its value is a number that fits -/
def rLenO (C : Addr) (sp : Sp) (E : XK) : List V → Hp → VK → Prop := fun xs H Q => ∃ a dx fs, xs = [.ref a] ∧ H a = some (.ins C dx fs) ∧ sp [.ref a] H (fun z H' => ∃ n : Int, z = .int n ∧ 0 ≤ n ∧ n < 2 ^ 63 ∧ Q (.int n) H') E
def rReprO (C : Addr) (sp : Sp) (E : XK) : List V → Hp → VK → Prop := fun xs H Q => ∃ a dx fs, xs = [.ref a] ∧ H a = some (.ins C dx fs) ∧ sp [.ref a] H (fun z H' => ∃ t : Str, z = .str t ∧ Q (.str t) H') E
def rBoolO (C : Addr) (sp : Sp) (E : XK) : List V → Hp → VK → Prop := fun xs H Q => ∃ a dx fs, xs = [.ref a] ∧ H a = some (.ins C dx fs) ∧ sp [.ref a] H (fun z H' => ∃ n : Int, z = .int n ∧ 0 ≤ n ∧ n < 2 ^ 63 ∧ Q (.bl (n != 0)) H') E
def rTruO (C : Addr) (sp : Sp) (E : XK) : V → Hp → (Bool → Hp → Prop) → Prop := fun x H Q => ∃ a dx fs, x = .ref a ∧ H a = some (.ins C dx fs) ∧ sp [.ref a] H (fun z H' => ∃ n : Int, z = .int n ∧ 0 ≤ n ∧ n < 2 ^ 63 ∧ Q (n != 0) H') E
theorem call_lenO (o : OwnF X.K C "__len__" f) (F : FnOk X.prog X.w X.K X.mg X.base CX k f fd ps sp) (hr : Room (k + 1) X.A) (hb : Binds X.K fd ps []) (hx : Passes CX X E) : CallR X (.builtin "len") (rLenO C sp E) := by
  intro pins s σ H xs us Q I r h
  obtain ⟨a, dx, fs, rfl, ha, q⟩ := h
  obtain rfl := Vals.ref1 r
  obtain ⟨mA, J, _⟩ := ins_get I.hok ha
  obtain ⟨od, J, _⟩ := J.look
  obtain ⟨m, hF⟩ := I.fr
  refine PySem.W.len_K hF I.ok.mod.kin J o.at_ o.fn (wpAny_mono (run_below (vs := [.ref a]) F ⟨hr.in1, rfl⟩ hb hx I (.cons rfl .nil) q) (fun v s' z => ?_) fun _ _ x => x)
  obtain ⟨z', H', I', rz, n, rfl, h0, h1, qz⟩ := z
  obtain ⟨t, rfl⟩ := rz
  exact ⟨⟨h0, h1⟩, .int n, H', I'.tok _, ⟨_, rfl⟩, qz⟩
theorem call_reprO (o : OwnF X.K C "__repr__" f) (F : FnOk X.prog X.w X.K X.mg X.base CX k f fd ps sp) (hr : Room (k + 1) X.A) (hb : Binds X.K fd ps []) (hx : Passes CX X E) : CallR X (.builtin "repr") (rReprO C sp E) := by
  intro pins s σ H xs us Q I r h
  obtain ⟨a, dx, fs, rfl, ha, q⟩ := h
  obtain rfl := Vals.ref1 r
  obtain ⟨mA, J, _⟩ := ins_get I.hok ha
  obtain ⟨od, J, _⟩ := J.look
  obtain ⟨m, hF⟩ := I.fr
  refine PySem.W.repr_K hr.in1.units0 hF I.ok.mod.kin J o.at_ o.fn (wpAny_mono (run_below (vs := [.ref a]) F ⟨hr.in1, rfl⟩ hb hx I (.cons rfl .nil) q) (fun v s' z => ?_) fun _ _ x => x)
  obtain ⟨z', H', I', rz, t, rfl, qz⟩ := z
  obtain ⟨t', rfl⟩ := rz
  exact ⟨.str t, H', I', ⟨_, rfl⟩, qz⟩
/-- the truth of an instance, at any place below the running body -/
theorem truO_at {pins : List (Addr × Obj)} {σ : L2.St} {H : Hp} {s : Shared} {Q : Bool → Hp → Prop} {a dx : Addr} {fs : List (Str × V)} (o : OwnF X.K C "__len__" f) (nb : PySem.W.findIn X.K (.ref C) "__bool__" = some none) (F : FnOk X.prog X.w X.K X.mg X.base CX k f fd ps sp) (sb : Sub X (k + 1) A) (hb : Binds X.K fd ps []) (hx : Passes CX X E)
    (I : Inv X pins σ H s) (ha : H a = some (.ins C dx fs)) (q : sp [.ref a] H (fun z H' => ∃ n : Int, z = .int n ∧ 0 ≤ n ∧ n < 2 ^ 63 ∧ Q (n != 0) H') E) : wpAny (model X.prog X.w) A (truthy (.ref a)) (TP X pins σ Q) X.xe s := by
  obtain ⟨mA, J, _⟩ := ins_get I.hok ha
  obtain ⟨od, J, _⟩ := J.look
  refine truthy_L I.kIn J nb o.at_ o.fn (wpAny_mono (run_below (vs := [.ref a]) F sb.in1 hb hx I (.cons rfl .nil) q) (fun v s' z => ?_) fun _ _ x => x)
  obtain ⟨z', H', I', rz, n, rfl, h0, h1, qz⟩ := z
  obtain ⟨t, rfl⟩ := rz
  exact ⟨⟨h0, h1⟩, n, _, rfl, H', I'.tok _, qz⟩
theorem tru_O (o : OwnF X.K C "__len__" f) (nb : PySem.W.findIn X.K (.ref C) "__bool__" = some none) (F : FnOk X.prog X.w X.K X.mg X.base CX k f fd ps sp) (hr : Room (k + 1) X.A) (hb : Binds X.K fd ps []) (hx : Passes CX X E) : TruR X (rTruO C sp E) := by
  intro pins s σ H x v Q I rx h
  obtain ⟨a, dx, fs, rfl, ha, q⟩ := h
  cases rx
  exact truO_at o nb F (sub_self hr) hb hx I ha q
theorem call_boolO (o : OwnF X.K C "__len__" f) (nb : PySem.W.findIn X.K (.ref C) "__bool__" = some none) (F : FnOk X.prog X.w X.K X.mg X.base CX k f fd ps sp) (hr : Room (k + 3) X.A) (hb : Binds X.K fd ps []) (hx : Passes CX X E) : CallR X (.type "bool") (rBoolO C sp E) := by
  intro pins s σ H xs us Q I r h
  obtain ⟨a, dx, fs, rfl, ha, q⟩ := h
  obtain rfl := Vals.ref1 r
  have sb : Sub X (k + 3) X.A := sub_self hr
  refine bool_by (wpAny_mono (truO_at (Q := fun b H' => Q (.bl b) H') o nb F sb.in1.in1 hb hx I ha q) (fun b s' z => ?_) fun _ _ x => x)
  obtain ⟨H', I', qz⟩ := z
  exact ⟨.bl b, H', I', rfl, qz⟩
/-- x == y, x != y of two instances of the class -/
def rEqO (C : Addr) (sp : Sp) (E : XK) (g : Bool → Bool) : R2 := fun x y H Q => ∃ a dx fs b dy gs, x = .ref a ∧ y = .ref b ∧ H a = some (.ins C dx fs) ∧ H b = some (.ins C dy gs) ∧ sp [x, y] H (fun z H' => ∃ r : Bool, z = .bl r ∧ Q (.bl (g r)) H') E
theorem op_eqO (o : OwnF X.K C "__eq__" f) (F : FnOk X.prog X.w X.K X.mg X.base CX k f fd ps sp) (hr : Room k X.A) (hb : Binds X.K fd ps []) (hx : Passes CX X E) : OpR X (compareOp .Eq) (rEqO C sp E id) := by
  intro pins s σ H x y v u Q I rx ry h
  obtain ⟨a, dx, fs, b, dy, gs, rfl, rfl, ha, hb', q⟩ := h
  cases rx
  cases ry
  obtain ⟨mA, J, _⟩ := ins_get I.hok ha
  obtain ⟨mB, J', _⟩ := ins_get I.hok hb'
  obtain ⟨od, J, _⟩ := J.look
  obtain ⟨od', J', _⟩ := J'.look
  obtain ⟨m, hF⟩ := I.fr
  show wpAny _ _ (richCompare .Eq (.ref a) (.ref b)) _ _ _
  refine PySem.W.cmp_K (op := .Eq) (tb := .ref C) hr.units0 hF I.ok.mod.kin J J'.type (by simp [PySem.W.notFirst]) o.at_ o.fn ?_
  refine wpAny_mono (run_below (vs := [.ref a, .ref b]) F (sub_self hr) hb hx I (.cons rfl (.cons rfl .nil)) q) (fun w s' z => ?_) fun _ _ x => x
  obtain ⟨z', H', I', rz, r, rfl, qz⟩ := z
  cases rz
  exact ⟨.bl r, H', I', rfl, qz⟩
theorem op_neO (o : OwnF X.K C "__eq__" f) (hne : PySem.W.findIn X.K (.ref C) "__ne__" = some (some (.builtin "object.__ne__"))) (hm : PySem.W.mroIn X.K C (.type "object") = some true) (F : FnOk X.prog X.w X.K X.mg X.base CX k f fd ps sp) (hr : Room (k + 1) X.A) (hb : Binds X.K fd ps []) (hx : Passes CX X E) : OpR X (compareOp .NotEq) (rEqO C sp E (!·)) := by
  intro pins s σ H x y v u Q I rx ry h
  obtain ⟨a, dx, fs, b, dy, gs, rfl, rfl, ha, hb', q⟩ := h
  cases rx
  cases ry
  obtain ⟨mA, J, _⟩ := ins_get I.hok ha
  obtain ⟨mB, J', _⟩ := ins_get I.hok hb'
  obtain ⟨od, J, _⟩ := J.look
  obtain ⟨od', J', _⟩ := J'.look
  obtain ⟨m, hF⟩ := I.fr
  show wpAny _ _ (richCompare .NotEq (.ref a) (.ref b)) _ _ _
  refine ne_K (tb := .ref C) hr.in1.units0 hF I.ok.mod.kin J J'.type (by simp [PySem.W.notFirst]) hne hm o.at_ o.fn ?_
  refine wpAny_mono (run_below (vs := [.ref a, .ref b]) F ⟨hr.in1, rfl⟩ hb hx I (.cons rfl (.cons rfl .nil)) q) (fun w s' z => ?_) fun _ _ x => x
  obtain ⟨z', H', I', rz, r, rfl, qz⟩ := z
  cases rz
  exact ⟨r, rfl, .bl (!r), H', I', rfl, qz⟩
end
end NvO

set_option maxRecDepth 100000
set_option maxHeartbeats 4000000
namespace NvO
section
open PySem PySem.W PySem.Calls PyProof.Rows Builtin
open AutoSeq1 (wpAny_loadPart')
variable {prog : Program} {w : World} {A : Around} {E : Value → Shared → Prop} {s : Shared} {K : Frag} {x C f : Addr} {ox : Obj} {od : Option Obj} {v : Value} {T id : String}
/-- v == x, v of a built-in class that does not know x: x's own == is asked -/
theorem rc_right {Q : Value → Shared → Prop} (hu : A.units < cLine) (X : K.In s.heap) (I : InstAt s.heap x ox C od) (hT : s.TypeIs v T) (hmr : mroIn K C (.type T) = some false) (slot : Slot T "__eq__" id)
    (hd : ∀ Q' : Value → Shared → Prop, Q' .notImplemented s → wpAny (model prog w) A (call (.builtin id) [v, .ref x]) Q' E s) (hs : findIn K (.ref C) "__eq__" = some (some (.ref f))) (hf : isFn K (.ref f) = true)
    (h : wpAny (model prog w) A (call (.ref f) [.ref x, v]) (PySem.W.CmpBack Q) E s) : wpAny (model prog w) A (richCompare .Eq v (.ref x)) Q E s := by
  have one : wpAny (model prog w) A (tryCompare (.ref x) "__eq__" v) (fun r s' => ∃ z, r = some z ∧ Q z s') E s := by
    unfold tryCompare
    refine wpAny_bind (ifBound_K X I hs hf (wpAny_mono h (fun z s' hv => ?_) fun _ _ e => e))
    cases z <;> first | exact hv.elim | exact wpAny_pure ⟨_, rfl, hv⟩
  unfold richCompare
  simp only [hT.oneThing_none]
  refine wpAny_holding (wpAny_bind (wpAny_cRoomFor hu ?_))
  refine wpAny_bind (wpAny_typeOf hT (wpAny_bind (I.type.here ?_)))
  rw [if_pos (by rfl)]
  refine wpAny_bind ((looks_mroIn X hmr).here ?_)
  simp only [Bool.false_eq_true, if_false, Bool.not_false, if_true]
  refine wpAny_bind (m := tryCompare v _ _) (wpAny_tryCompare_declines hT slot (hd _ ⟨rfl, ?_⟩))
  refine wpAny_bind (wpAny_mono one (fun r s' z => ?_) fun _ _ e => e)
  obtain ⟨z, rfl, hq⟩ := z
  exact wpAny_pure hq
theorem dec_none {Q' : Value → Shared → Prop} (h : Q' .notImplemented s) : wpAny (model prog w) A (call (.builtin "NoneType.__eq__") [.none, .ref x]) Q' E s :=
  GQ.call_here PySem.F.slot_NoneType_eq rfl PySem.F.entry_NoneType_eq (PySem.F.args_NoneType_eq_2 _ _) ((SeqAt.NoneType___eq___none_ref_0 x).meets prog w A (wants Q' E) s h)
theorem dec_int {b : Int} {u : Tok} {dx : Addr} {Q' : Value → Shared → Prop} (hx : s.heap.get? x = some (instObj C dx)) (h : Q' .notImplemented s) : wpAny (model prog w) A (call (.builtin "int.__eq__") [.int b u, .ref x]) Q' E s :=
  GQ.call_here PySem.F.slot_int_eq rfl PySem.F.entry_int_eq (PySem.F.args_int_eq_2 _ _) (int_eq_inst b u x C dx prog w A (wants Q' E) s ⟨hx, h⟩)
theorem dec_str {b : Str} {u : Tok} {dx : Addr} {Q' : Value → Shared → Prop} (hx : s.heap.get? x = some (instObj C dx)) (h : Q' .notImplemented s) : wpAny (model prog w) A (call (.builtin "str.__eq__") [.str b u, .ref x]) Q' E s :=
  GQ.call_here PySem.F.slot_str_eq rfl PySem.F.entry_str_eq (PySem.F.args_str_eq_2 _ _) (str_eq_inst b u x C dx prog w A (wants Q' E) s ⟨hx, h⟩)
theorem dec_tup {l : Addr} {its : Array Value} {Q' : Value → Shared → Prop} (hl : s.heap.IsTuple l its) (X : K.In s.heap) (I : InstAt s.heap x ox C od) (hmr : mroIn K C (.type "tuple") = some false) (h : Q' .notImplemented s) : wpAny (model prog w) A (call (.builtin "tuple.__eq__") [.ref l, .ref x]) Q' E s := by
  obtain ⟨⟨cls, dd, data, sl⟩, ho, hc, n, hd⟩ := id hl
  simp only at hc hd
  subst hc hd
  refine GQ.call_here PySem.F.slot_tuple_eq ⟨_, ho, rfl⟩ PySem.F.entry_tuple_eq (PySem.F.args_tuple_eq_2 _ _) ?_
  have inst : ∀ {A' : Around} {E' : Value → Shared → Prop} {Q₂ : Bool → Shared → Prop}, Q₂ false s → wpAny (model prog w) A' (isInstance (.ref x) (.type "tuple")) Q₂ E' s := fun q => by
    unfold isInstance
    exact wpAny_bind (I.type.here ((looks_mroIn X hmr).here q))
  obtain ⟨hp, g, d, tk, os⟩ := s
  repeat (any_goals (first | assumption | (with_reducible refine wpAny_bind (m := isInstance (.ref x) (.type "tuple")) (inst ?_)) | wp_step))
/-- eqBool of what declines -/
theorem eqBool_by {Q : Bool → Shared → Prop} (hne : (v == .ref x) = false) (hfl : ∀ b t, v ≠ .float b t) (h : wpAny (model prog w) A (richCompare .Eq v (.ref x)) (fun z s' => ∃ r, z = .bool r ∧ Q r s') E s) : wpAny (model prog w) A (eqBool v (.ref x)) Q E s := by
  unfold eqBool
  refine wpAny_holding ?_
  rw [if_neg (by rw [hne]; exact Bool.false_ne_true)]
  have tail : wpAny (model prog w) A (richCompare .Eq v (.ref x) >>= truthOfDropped) Q E s := wpAny_bind (wpAny_mono h (fun z s' hz => by
    obtain ⟨r, rfl, q⟩ := hz
    exact wpAny_truthy_bool q) fun _ _ e => e)
  cases v <;> first | exact absurd rfl (hfl _ _) | exact tail
end
section
open PySem PySem.Spec PyProof.Rows L2
variable {X : Cx} {CX : CXT} {k : Nat} {f C : Addr} {fd : FuncData} {ps : List Str} {sp : Sp} {E : XK}
/-- what no instance is equal to: None, numbers, texts, tuples -/
def NoIns (K : PySem.W.Frag) (H : Hp) (y : V) : Prop := y = .non ∨ (∃ i, y = .int i) ∨ (∃ t, y = .str t) ∨ ∃ l xs, y = .ref l ∧ SqT K H l xs
structure NoTy (K : PySem.W.Frag) (C : Addr) : Prop where
  n : PySem.W.mroIn K C (.type "NoneType") = some false
  i : PySem.W.mroIn K C (.type "int") = some false
  s : PySem.W.mroIn K C (.type "str") = some false
  t : PySem.W.mroIn K C (.type "tuple") = some false
/-- x in [..]: nothing of it is an instance -/
def rNotInO (K : PySem.W.Frag) (C : Addr) (sp : Sp) (E : XK) : R2 := fun x y H Q => ∃ a dx fs l ys, x = .ref a ∧ y = .ref l ∧ H a = some (.ins C dx fs) ∧ H l = some (.lst ys) ∧ (∀ z ∈ ys, NoIns K H z) ∧ (∀ z ∈ ys, sp [.ref a, z] H (fun r H' => r = .bl false ∧ H' = H) E) ∧ Q (.bl false) H
theorem op_notInO (o : OwnF X.K C "__eq__" f) (nt : NoTy X.K C) (F : FnOk X.prog X.w X.K X.mg X.base CX k f fd ps sp) (hr : Room (k + 1) X.A) (hb : Binds X.K fd ps []) (hx : Passes CX X E) : OpR X (compareOp .In) (rNotInO X.K C sp E) := by
  intro pins s σ H x y v u Q I rx ry h
  obtain ⟨a, dx, fs, l, ys, rfl, rfl, ha, hl, hn, hq, q⟩ := h
  cases rx
  cases ry
  refine not_in_list (N := ys.length) (fun s' => Inv X pins σ H s') (fun s' I' => ?_) (fun s' hI => ⟨.bl false, H, hI, rfl, q⟩) I
  obtain ⟨_, its, n, rv, el⟩ := I'.hok l _ hl
  refine ⟨its.toArray, n, el, by rw [List.size_toArray, ← rv.length], fun y hy => ?_⟩
  obtain ⟨i, hi, ei⟩ := List.getElem_of_mem (by simpa using hy : y ∈ its)
  have hi' : i < ys.length := by rw [rv.length]; exact hi
  obtain ⟨u', hu', ru⟩ := rv.get (List.getElem?_eq_getElem hi')
  rw [List.getElem?_eq_getElem hi, ei] at hu'
  cases hu'
  have mz := List.getElem_mem hi'
  generalize ys[i] = z at ru mz
  obtain ⟨mA, J, _⟩ := ins_get I'.hok ha
  have hob := J.1
  obtain ⟨od, J, _⟩ := J.look
  have run : ∀ {A' : Around}, Sub X k A' → wpAny (model X.prog X.w) A' (call (.ref f) [.ref a, y]) (PySem.W.CmpBack fun z s' => ∃ r, z = .bool r ∧ r = false ∧ Inv X pins σ H s') X.xe s' := fun sb => by
    refine wpAny_mono (run_below (vs := [.ref a, z]) F sb hb hx I' (.cons rfl (.cons ru .nil)) (hq z mz)) (fun w s2 q2 => ?_) fun _ _ e => e
    obtain ⟨z', H', I2, rz, rfl, rfl⟩ := q2
    cases rz
    exact ⟨false, rfl, rfl, I2⟩
  have sb1 : Sub X k X.A.in1 := ⟨hr.in1, rfl⟩
  have un := hr.in1.units0
  have fin : ∀ {v : Value} {T id : String}, (v == .ref a) = false → (∀ b t, v ≠ .float b t) → s'.TypeIs v T → PySem.W.mroIn X.K C (.type T) = some false → Slot T "__eq__" id → (∀ Q' : Value → Shared → Prop, Q' .notImplemented s' → wpAny (model X.prog X.w) X.A.in1 (call (.builtin id) [v, .ref a]) Q' X.xe s') → v = y →
      wpAny (model X.prog X.w) X.A.in1 (eqBool y (.ref a)) (fun r s' => r = false ∧ Inv X pins σ H s') X.xe s' := fun h1 h2 h3 h4 h5 h6 e => by
    subst e
    refine eqBool_by h1 h2 (wpAny_mono (rc_right un I'.kIn J h3 h4 h5 h6 o.at_ o.fn (run sb1)) (fun z s2 q2 => ?_) fun _ _ e => e)
    obtain ⟨r, rfl, rfl, I2⟩ := q2
    exact ⟨false, rfl, rfl, I2⟩
  rcases hn z mz with rfl | ⟨i, rfl⟩ | ⟨t, rfl⟩ | ⟨p, xs, rfl, hp⟩
  · cases ru
    exact fin (v := .none) rfl (fun _ _ z => nomatch z) rfl nt.n PySem.F.slot_NoneType_eq (fun _ q => dec_none q) rfl
  · obtain ⟨t, rfl⟩ := ru
    exact fin (v := .int i t) rfl (fun _ _ z => nomatch z) rfl nt.i PySem.F.slot_int_eq (fun _ q => dec_int hob q) rfl
  · obtain ⟨u, rfl⟩ := ru
    exact fin (v := .str t u) rfl (fun _ _ z => nomatch z) rfl nt.s PySem.F.slot_str_eq (fun _ q => dec_str hob q) rfl
  · cases ru
    obtain ⟨its', rv', pl, _⟩ := I'.tuple hp
    obtain ⟨ob, ho, hc, hd⟩ := id pl
    refine fin (v := .ref p) ?_ (fun _ _ z => nomatch z) ⟨_, ho, hc⟩ nt.t PySem.F.slot_tuple_eq (fun _ q => dec_tup pl I'.kIn J nt.t q) rfl
    have : p ≠ a := fun e => by
      rw [e, hob] at ho
      cases ho
      cases hc
    simpa using this
end
end NvO

set_option maxRecDepth 100000
set_option maxHeartbeats 8000000
namespace Nv
open PySem PySem.Spec PyProof.Rows L2 NvSet LamX NvO
/-! shares, rows, tables, letters are equal as data just where they are the same -/
theorem and_dec {p q r : Prop} [Decidable p] [Decidable q] [Decidable r] (h : r ↔ p ∧ q) : (decide p && decide q) = decide r := by
  by_cases hp : p
  · by_cases hq : q
    · rw [decide_eq_true hp, decide_eq_true hq, decide_eq_true (h.mpr ⟨hp, hq⟩)]; rfl
    · rw [decide_eq_false hq, decide_eq_false (fun z => hq (h.mp z).2), Bool.and_false]
  · rw [decide_eq_false hp, decide_eq_false (fun z => hp (h.mp z).1), Bool.false_and]
theorem eqv_map {α : Type} [DecidableEq α] (f : α → PyData) (h : ∀ x y, PyData.eqv (f x) (f y) = decide (x = y)) : ∀ xs ys : List α, PyData.eqvAll (xs.map f) (ys.map f) = decide (xs = ys)
  | [], [] => by simp [PyData.eqvAll]
  | [], y :: ys => by simp [PyData.eqvAll]
  | x :: xs, [] => by simp [PyData.eqvAll]
  | x :: xs, y :: ys => by
    rw [List.map_cons, List.map_cons, PyData.eqvAll, h, eqv_map f h xs ys]
    exact and_dec (by rw [List.cons.injEq])
theorem shD_eqv (x y : Int × Int) : PyData.eqv (shD x) (shD y) = decide (x = y) := by
  obtain ⟨a, b⟩ := x
  obtain ⟨c, d⟩ := y
  have e : PyData.eqv (shD (a, b)) (shD (c, d)) = (decide (a = c) && (decide (b = d) && true)) := by
    simp only [shD, PyData.eqv, PyData.eqvAll]
    rfl
  rw [e, Bool.and_true]
  exact and_dec (by rw [Prod.mk.injEq])
theorem rowD_eqv (x y : List (Int × Int)) : PyData.eqv (rowD x) (rowD y) = decide (x = y) := by
  unfold rowD
  rw [PyData.eqv]
  exact eqv_map shD shD_eqv x y
theorem tabD_eqv (x y : List (List (Int × Int))) : PyData.eqv (tabD x) (tabD y) = decide (x = y) := by
  unfold tabD
  rw [PyData.eqv]
  exact eqv_map rowD rowD_eqv x y
theorem strs_eqv (x y : List Str) : PyData.eqv (.list (x.map PyData.str)) (.list (y.map PyData.str)) = decide (x = y) := by
  rw [PyData.eqv]
  refine eqv_map PyData.str (fun a b => ?_) x y
  rw [PyData.eqv]
  by_cases h : a = b
  · subst h; simp
  · simp [h]
theorem rowD_shaped (xs : List (Int × Int)) : SeqAt.shaped (rowD xs) = true := by
  unfold SeqAt.shaped
  rw [rowD_lay, decide_eq_true (by have := rowD_depth xs; omega)]
  rfl
theorem dp_shs {K : PySem.W.Frag} {H : Hp} {a : Addr} {vs : List V} {xs : List (Int × Int)} (h : H a = some (.lst vs)) (p : Paired (ShV H) vs xs) : Dp K H (.ref a) (rowD xs) := .lst (SqL.of h) (dpAll_of (fun _ _ z => z.dp) p)
/-! dicts of tables compared -/
theorem hits_T {X : Cx} {pins : List (Addr × Obj)} {σ : L2.St} {H : Hp} {s : Shared} (I : Inv X pins σ H s) {A : Around} (hu : A.units + 8 < cLine) {ls : List (Key × V)} {vb : List (Key × Value)} (rb : KV ls vb) {T T' : Str → List (List (Int × Int))} {ks : List (Key × V)} {va : List (Key × Value)} (ra : KV ks va) :
    ∀ {L : List Str}, Paired (fun (p : Key × V) y => p.1 = Sum.inr y ∧ Dp X.K H p.2 (tabD (T y)) ∧ ∃ u, valV ls (Sum.inr y) = some u ∧ Dp X.K H u (tabD (T' y))) ks L → PySem.W.KeqHits A s vb va (decide (∀ z ∈ L, T z = T' z)) := by
  unfold KV at ra
  induction ra with
  | nil =>
    intro L hp
    cases hp
    rw [decide_eq_true (by intro z hz; cases hz)]
    exact .nil
  | @cons p q ps qs h t ih =>
    intro L hp
    cases hp with
    | @cons _ y _ L h0 hr =>
    obtain ⟨h1, h2⟩ := h
    obtain ⟨e1, d1, u, e, d2⟩ := h0
    have rr : RelO (some u) (valueAt vb p.1) := by rw [e1, ← e]; exact rb.val _
    obtain ⟨z, hz, rz⟩ := rr.some_of
    obtain ⟨k, v⟩ := q
    have h1' : p.1 = k := h1
    rw [h1'] at hz
    obtain ⟨as, r1⟩ := Dp.reads I _ _ _ d1 h2
    obtain ⟨bs, r2⟩ := Dp.reads I _ _ _ d2 rz
    have eq := SeqAt.eqAt_reads _ _ A s _ _ as bs r1 r2 (tabD_lay _) (tabD_lay _) (by have := tabD_depth (T y); omega)
    rw [tabD_eqv] at eq
    have := PySem.W.KeqHits.hit hz eq (ih hr)
    rw [and_dec (r := ∀ z ∈ y :: L, T z = T' z) (by rw [List.forall_mem_cons])] at this
    exact this
def rEqDT (K : PySem.W.Frag) : R2 := fun x y H Q => ∃ (a b : Addr) (L : List Str) (ks ls : List (Key × V)) (T T' : Str → List (List (Int × Int))) (N N' : Addr → Prop), x = .ref a ∧ y = .ref b ∧ H a = some (.dK ks) ∧ H b = some (.dK ls) ∧ ks.map (·.1) = L.map Sum.inr ∧ ls.map (·.1) = L.map Sum.inr ∧ L.Nodup ∧
  Paired (fun (p : Key × V) y => TabN N H p.2 (T y)) ks L ∧ Paired (fun (p : Key × V) y => TabN N' H p.2 (T' y)) ls L ∧ Q (.bl (decide (∀ z ∈ L, T z = T' z))) H
theorem op_eq_dictT {X : Cx} (hu : X.A.units + 9 < cLine) : OpR X (compareOp .Eq) (rEqDT X.K) := by
  intro pins s σ H x y v u Q I rx ry h
  obtain ⟨a, b, L, ks, ls, T, T', N, N', rfl, rfl, ea, eb, k1, k2, nd, p1, p2, q⟩ := h
  obtain rfl : v = Value.ref a := rx
  obtain rfl : u = Value.ref b := ry
  obtain ⟨_, ya, va, ra, da⟩ := (show ObjOk X.prog X.w H s.heap a (.dK ks) from I.hok a _ ea)
  obtain ⟨_, yb, vb, rb, db⟩ := (show ObjOk X.prog X.w H s.heap b (.dK ls) from I.hok b _ eb)
  have l1 := klen k1
  have l2 := klen k2
  have hl' : va.length = vb.length := by rw [← ra.length, ← rb.length, l1, l2]
  have pk := pimp_mem (S := fun (p : Key × V) y => p.1 = Sum.inr y ∧ Dp X.K H p.2 (tabD (T y)) ∧ ∃ u, valV ls (Sum.inr y) = some u ∧ Dp X.K H u (tabD (T' y))) (fun p y hy h => by
    obtain ⟨u, e, t⟩ := mach_val nd k2 p2 hy
    exact ⟨h.2, h.1.dp, u, e, t.dp⟩) (paired_keys p1 k1)
  refine PySem.W.keq_eq (knd := mixKind X.prog X.w) ya yb da db (by omega) (fun _ => hits_T I (by show X.A.units + 1 + 8 < cLine; omega) rb ra pk) ?_
  rw [hl']
  have : ((vb.length == vb.length) && decide (∀ z ∈ L, T z = T' z)) = decide (∀ z ∈ L, T z = T' z) := by simp
  rw [this]
  exact ⟨.bl _, H, I, rfl, q⟩
/-! the machine's own words -/
abbrev sMEq : Stmt := inClass (topS 58) 10
abbrev sMLen : Stmt := inClass (topS 58) 11
abbrev sMRep : Stmt := inClass (topS 58) 12
theorem scMEq : FnScope ["self", "other"] ["self", "other"] (defScope sMEq) := ⟨rfl, rfl, rfl, by decide +kernel, rfl, by decide +kernel, by decide +kernel⟩
theorem scMLen : FnScope ["self"] ["self"] (defScope sMLen) := ⟨rfl, rfl, rfl, by decide +kernel, rfl, by decide +kernel, by decide +kernel⟩
theorem scMRep : FnScope ["self"] ["self"] (defScope sMRep) := ⟨rfl, rfl, rfl, by decide +kernel, rfl, by decide +kernel, by decide +kernel⟩
/-- what isinstance asks of the class -/
structure IsiM (K : PySem.W.Frag) (C : Addr) : Prop where
  ca : PySem.W.findIn K (.ref C) "__class__" = some (some (.builtin "object.__class__"))
  cn : PySem.W.specialIn K (.builtin "object.__class__") "__get__" = some (some (.builtin "getset_descriptor.__get__"))
  ct : PySem.W.takesIn K (.builtin "object.__class__") = some true
  cm : PySem.W.mroIn K C (.type "object") = some true
/-- two machines are the same -/
structure SameM (L L' : List Str) (b b' e e' : List (Int × Int)) (T T' : Str → List (List (Int × Int))) : Prop where
  l : L = L'
  b : b = b'
  t : ∀ z ∈ L, T z = T' z
  e : e = e'
instance {L L' : List Str} {b b' e e' : List (Int × Int)} {T T' : Str → List (List (Int × Int))} : Decidable (SameM L L' b b' e e' T T') :=
  if h : L = L' ∧ b = b' ∧ (∀ z ∈ L, T z = T' z) ∧ e = e' then .isTrue ⟨h.1, h.2.1, h.2.2.1, h.2.2.2⟩ else .isFalse fun z => h ⟨z.l, z.b, z.t, z.e⟩
def spMEq (K : PySem.W.Frag) (CM CB : Addr) : Sp := fun vs H Q _ =>
  (∃ (N N' : Addr → Prop) (x y : Addr) (L L' : List Str) (b b' e e' : List (Int × Int)) (T T' : Str → List (List (Int × Int))), vs = [.ref x, .ref y] ∧ MachN N CM CB H x L b e T ∧ MachN N' CM CB H y L' b' e' T' ∧ (∀ z ∈ L, Small z) ∧ (∀ z ∈ L', Small z) ∧ L.Nodup ∧ Q (.bl (decide (SameM L L' b b' e e' T T'))) H) ∨
  ∃ (x : Addr) (y : V) (t : Value), vs = [.ref x, y] ∧ TyX K H y t ∧ PySem.W.kitOne K t (.ref CM) = some false ∧ Q (.bl false) H
def spMLen (CM CB : Addr) : Sp := fun vs H Q _ => ∃ (N : Addr → Prop) (x : Addr) (L : List Str) (b e : List (Int × Int)) (T : Str → List (List (Int × Int))), vs = [.ref x] ∧ MachN N CM CB H x L b e T ∧ Q (.int b.length) H
def repM (n k : Nat) : Str := Str.empty ++ (Str.ofString "Machine(") ++ Str.ofString (toString (n : Int)) ++ Str.ofString " rooms, " ++ Str.ofString (toString (k : Int)) ++ Str.ofString " letters)"
def spMRep (CM CB : Addr) : Sp := fun vs H Q _ => ∃ (N : Addr → Prop) (x : Addr) (L : List Str) (b e : List (Int × Int)) (T : Str → List (List (Int × Int))), vs = [.ref x] ∧ MachN N CM CB H x L b e T ∧ b.length ≤ 12 ∧ L.length ≤ 3 ∧ Q (.str (repM b.length L.length)) H
theorem rep_short : ∀ n : Nat, n ≤ 12 → ∀ k : Nat, k ≤ 3 → ((Str.empty ++ (Str.ofString "Machine(")).length ≤ 500 ∧ (Str.empty ++ (Str.ofString "Machine(") ++ Str.ofString (toString (n : Int))).length ≤ 500 ∧ (Str.empty ++ (Str.ofString "Machine(") ++ Str.ofString (toString (n : Int)) ++ Str.ofString " rooms, ").length ≤ 500 ∧
    (Str.empty ++ (Str.ofString "Machine(") ++ Str.ofString (toString (n : Int)) ++ Str.ofString " rooms, " ++ Str.ofString (toString (k : Int))).length ≤ 500 ∧ (repM n k).length ≤ 500) := by decide +kernel
section
variable {P : Program} {w : World} {K : PySem.W.Frag} {mg : Str → Option Value} {base : Heap} {CM CB : Addr}
theorem ok_mlen {f : Addr} {fd : FuncData} {k : Nat} (F : Fun K "__len__" "Machine.__len__" sMLen f fd) (B : Blt mg) (TM : ClsM K CM) (TB : Cls4 K CB) : FnOk P w K mg base CX0 (k + 1) f fd ["self"] (spMLen CM CB) := by
  refine F.ok scMLen (fun vs H Q E h => ?_) (fun cdv A outer s H vs Q E hr h => ?_)
  · obtain ⟨N, x, L, b, e, T, rfl, _⟩ := h
    rfl
  · obtain ⟨N, x, L, b, e, T, rfl, ⟨dx, bb, sc, db, o, fa, tt, l, fv, lv, kvs, n1, h1, n2, h2, n3, h3, n4, h4, p4, n5, h5, p5, n6, h6, h7, h8⟩, q⟩ := h
    refine ⟨_, pss_one (ps_ret (pe_callB call_len_seq (by rfl) B.len PySem.boot_len (pa_cons (pe_fld (pe_fld (pv 0) rfl) rfl) pa_nil))), ?_⟩
    refine ⟨_, rfl, x, CM, dx, _, _, rfl, h1, TM.cl, TM.nB, rfl, bb, CB, db, _, _, rfl, h2, TB.cl, TB.nF, rfl, fa, _, rfl, .inl (SqL.of h4), ?_⟩
    rw [Paired.length p4]
    exact q
theorem ok_mrep {f : Addr} {fd : FuncData} {k : Nat} (F : Fun K "__repr__" "Machine.__repr__" sMRep f fd) (B : Blt mg) (TM : ClsM K CM) (TB : Cls4 K CB) : FnOk P w K mg base CX0 (k + 1) f fd ["self"] (spMRep CM CB) := by
  refine F.ok scMRep (fun vs H Q E h => ?_) (fun cdv A outer s H vs Q E hr h => ?_)
  · obtain ⟨N, x, L, b, e, T, rfl, _⟩ := h
    rfl
  · obtain ⟨N, x, L, b, e, T, rfl, ⟨dx, bb, sc, db, o, fa, tt, l, fv, lv, kvs, n1, h1, n2, h2, n3, h3, n4, h4, p4, n5, h5, p5, n6, h6, h7, h8⟩, lb, lL, q⟩ := h
    refine ⟨_, pss_one (ps_ret (pe_joined (.cons pe_str (.cons (pe_fmt (pe_callB call_len_seq (by rfl) B.len PySem.boot_len (pa_cons (pe_fld (pe_fld (pv 0) rfl) rfl) pa_nil))) (.cons pe_str (.cons (pe_fmt (pe_callB call_len_seq (by rfl) B.len PySem.boot_len (pa_cons (pe_fld (pe_fld (pv 0) rfl) rfl) pa_nil))) (.cons pe_str .nil))))))), ?_⟩
    obtain ⟨z1, z2, z3, z4, z5⟩ := rep_short _ lb _ lL
    have fit : ∀ {y : Str}, y.length ≤ 500 → y.length ≤ sizeLine := fun h => Nat.le_trans h (by decide)
    have lg : ∀ {n : Nat}, n ≤ 12 → ((n : Int)).natAbs.log2 < 1920 := fun {n} h => Nat.lt_of_le_of_lt (Nat.log2_le_self _) (by omega)
    refine ⟨_, rfl, fit z1, _, rfl, x, CM, dx, _, _, rfl, h1, TM.cl, TM.nB, rfl, bb, CB, db, _, _, rfl, h2, TB.cl, TB.nF, rfl, fa, _, rfl, .inl (SqL.of h4), .inr ⟨_, rfl, lg (by rw [Paired.length p4]; exact lb), _, rfl, ?_⟩⟩
    rw [Paired.length p4]
    refine ⟨fit z2, _, rfl, fit z3, _, rfl, x, CM, dx, _, _, rfl, h1, TM.cl, TM.nB, rfl, bb, CB, db, _, _, rfl, h2, TB.cl, TB.nO, rfl, o, _, rfl, .inl (SqL.of h3), .inr ⟨_, rfl, lg (by rw [List.length_map]; omega), _, rfl, ?_⟩⟩
    rw [List.length_map]
    exact ⟨fit z4, _, rfl, fit z5, q⟩
theorem ok_meq {f : Addr} {fd : FuncData} {k : Nat} (F : Fun K "__eq__" "Machine.__eq__" sMEq f fd) (B : Blt mg) (TM : ClsM K CM) (TB : Cls4 K CB) (IM : IsiM K CM) (gM : mg "Machine" = some (.ref CM)) : FnOk P w K mg base CX0 (k + 1) f fd ["self", "other"] (spMEq K CM CB) := by
  refine F.ok scMEq (fun vs H Q E h => ?_) (fun cdv A outer s H vs Q E hr h => ?_)
  · rcases h with ⟨N, N', x, y, L, L', b, b', e, e', T, T', rfl, _⟩ | ⟨x, y, t, rfl, _⟩ <;> rfl
  · refine ⟨_, pss_one (ps_ret (pe_and (pe_callB call_isi (by rfl) B.isi (by decide +kernel) (pa_cons (pv 1) (pa_cons (pe_glob (v := .ref CM) (by rfl) gM rfl) pa_nil)))
      (pe_and (pe_cmpR (op_eqD hr.units) (pe_fld (pe_fld (pv 0) rfl) rfl) (pe_fld (pe_fld (pv 1) rfl) rfl) (nomark _))
      (pe_and (pe_cmpR (op_eqD hr.units) (pe_fld (pe_fld (pv 0) rfl) rfl) (pe_fld (pe_fld (pv 1) rfl) rfl) (nomark _))
      (pe_and (pe_cmpR (op_eq_dictT (Nat.lt_of_le_of_lt (Nat.add_le_add_left (by decide : 9 ≤ 64) _) hr.units)) (pe_fld (pe_fld (pv 0) rfl) rfl) (pe_fld (pe_fld (pv 1) rfl) rfl) (nomark _))
      (pe_one (pe_cmpR (op_eqD hr.units) (pe_fld (pe_fld (pv 0) rfl) rfl) (pe_fld (pe_fld (pv 1) rfl) rfl) (nomark _)))))))), ?_⟩
    rcases h with ⟨N, N', x, y, L, L', b, b', e, e', T, T', rfl, ⟨dx, bb, sc, db, o, fa, tt, l, fv, lv, kvs, n1, h1, n2, h2, n3, h3, n4, h4, p4, n5, h5, p5, n6, h6, h7, h8⟩, ⟨dx', bb', sc', db', o', fa', tt', l', fv', lv', kvs', n1', h1', n2', h2', n3', h3', n4', h4', p4', n5', h5', p5', n6', h6', h7', h8'⟩, sm, sm', nd, q⟩ | ⟨x, y, t, rfl, ty, kt, q⟩
    · refine ⟨_, rfl, .ref y, .ref CM, .ref CM, .ref CM, true, rfl, .own CM, .base (.ins h1' TM.cl IM.ca IM.cn IM.ct IM.cm), ?_, _, rfl, ?_⟩
      · unfold PySem.W.kitOne
        rw [if_pos (by simp)]
      rw [if_pos rfl]
      refine ⟨_, rfl, x, CM, dx, _, _, rfl, h1, TM.cl, TM.nB, rfl, bb, CB, db, _, _, rfl, h2, TB.cl, TB.nO, rfl, _, rfl, y, CM, dx', _, _, rfl, h1', TM.cl, TM.nB, rfl, bb', CB, db', _, _, rfl, h2', TB.cl, TB.nO, rfl, .list (L.map PyData.str), .list (L'.map PyData.str), .lst (SqL.of h3) (dp_txt L), .lst (SqL.of h3') (dp_txt L'), txt_shaped sm, txt_shaped sm', _, rfl, ?_⟩
      rw [strs_eqv]
      by_cases hl : L = L'
      case neg =>
        rw [decide_eq_false hl, if_neg Bool.false_ne_true]
        rw [decide_eq_false (fun z => hl z.l)] at q
        exact q
      subst hl
      rw [decide_eq_true rfl, if_pos rfl]
      refine ⟨_, rfl, x, CM, dx, _, _, rfl, h1, TM.cl, TM.nB, rfl, bb, CB, db, _, _, rfl, h2, TB.cl, TB.nF, rfl, _, rfl, y, CM, dx', _, _, rfl, h1', TM.cl, TM.nB, rfl, bb', CB, db', _, _, rfl, h2', TB.cl, TB.nF, rfl, rowD b, rowD b', dp_shs h4 p4, dp_shs h4' p4', rowD_shaped b, rowD_shaped b', _, rfl, ?_⟩
      rw [rowD_eqv]
      by_cases hb : b = b'
      case neg =>
        rw [decide_eq_false hb, if_neg Bool.false_ne_true]
        rw [decide_eq_false (fun z => hb z.b)] at q
        exact q
      subst hb
      rw [decide_eq_true rfl, if_pos rfl]
      refine ⟨_, rfl, x, CM, dx, _, _, rfl, h1, TM.cl, TM.nB, rfl, bb, CB, db, _, _, rfl, h2, TB.cl, TB.nT, rfl, _, rfl, y, CM, dx', _, _, rfl, h1', TM.cl, TM.nB, rfl, bb', CB, db', _, _, rfl, h2', TB.cl, TB.nT, rfl, tt, tt', L, kvs, kvs', T, T', N, N', rfl, rfl, h6, h6', h7, h7', nd, h8, h8', _, rfl, ?_⟩
      by_cases hT : ∀ z ∈ L, T z = T' z
      case neg =>
        rw [decide_eq_false hT, if_neg Bool.false_ne_true]
        rw [decide_eq_false (fun z => hT z.t)] at q
        exact q
      rw [decide_eq_true hT, if_pos rfl]
      refine ⟨_, rfl, x, CM, dx, _, _, rfl, h1, TM.cl, TM.nB, rfl, bb, CB, db, _, _, rfl, h2, TB.cl, TB.nL, rfl, _, rfl, y, CM, dx', _, _, rfl, h1', TM.cl, TM.nB, rfl, bb', CB, db', _, _, rfl, h2', TB.cl, TB.nL, rfl, rowD e, rowD e', dp_shs h5 p5, dp_shs h5' p5', rowD_shaped e, rowD_shaped e', ?_⟩
      rw [rowD_eqv]
      have : decide (e = e') = decide (SameM L L b b e e' T T') := decide_eq_decide.mpr ⟨fun h => ⟨rfl, rfl, hT, h⟩, fun z => z.e⟩
      rw [this]
      exact q
    · refine ⟨_, rfl, y, .ref CM, t, .ref CM, false, rfl, .own CM, ty, kt, _, rfl, ?_⟩
      rw [if_neg Bool.false_ne_true]
      exact q
end
end Nv

set_option maxRecDepth 100000
set_option maxHeartbeats 8000000
namespace Nv
open PySem PySem.Spec PyProof.Rows L2 NvSet LamX NvO
/-! a share bent by one, a third, less one -/
abbrev pA (x y : Int × Int) : Int × Int := (frT (x.1 * y.2 + y.1 * x.2) (x.2 * y.2), frB (x.1 * y.2 + y.1 * x.2) (x.2 * y.2))
def Nd (y : Int × Int) : Prop := y = (1, 1) ∨ y = (1, 3) ∨ y = (-1, 1)
theorem div30 {x : Int} (h0 : 0 < x) (h : x ∣ 30) : x = 1 ∨ x = 2 ∨ x = 3 ∨ x = 5 ∨ x = 6 ∨ x = 10 ∨ x = 15 ∨ x = 30 := by
  have le : x ≤ 30 := Int.le_of_dvd (by decide) h
  have : x = 1 ∨ x = 2 ∨ x = 3 ∨ x = 4 ∨ x = 5 ∨ x = 6 ∨ x = 7 ∨ x = 8 ∨ x = 9 ∨ x = 10 ∨ x = 11 ∨ x = 12 ∨ x = 13 ∨ x = 14 ∨ x = 15 ∨ x = 16 ∨ x = 17 ∨ x = 18 ∨ x = 19 ∨ x = 20 ∨ x = 21 ∨ x = 22 ∨ x = 23 ∨ x = 24 ∨ x = 25 ∨ x = 26 ∨ x = 27 ∨ x = 28 ∨ x = 29 ∨ x = 30 := by omega
  rcases this with e | e | e | e | e | e | e | e | e | e | e | e | e | e | e | e | e | e | e | e | e | e | e | e | e | e | e | e | e | e <;> subst e <;> first | (simp; done) | exact absurd h (by decide)
/-- a divisor of both may be taken out of the bottom -/
theorem frB_dvd {t d g m : Int} (h0 : d ≠ 0) (ht : g ∣ t) (hd : d = g * m) (hm : m ∣ 30) : frB t d ∣ 30 := by
  have e : frB t d * per t d = d := fdiv_mul (per_dvd_r t d)
  have gd : g ∣ per t d := by
    have : g ∣ ((Int.gcd t d : Nat) : Int) := Int.dvd_coe_gcd ht ⟨m, hd⟩
    unfold per
    split
    · exact (Int.dvd_neg).mpr this
    · exact this
  obtain ⟨k, hk⟩ := gd
  have g0 : g ≠ 0 := fun z => h0 (by rw [hd, z, Int.zero_mul])
  have : frB t d * k = m := by
    have : g * (frB t d * k) = g * m := by
      rw [← hd, Int.mul_left_comm, ← hk]
      exact e
    exact Int.eq_of_mul_eq_mul_left g0 this
  exact Int.dvd_trans ⟨k, this.symm⟩ hm
theorem pA_lt {x y : Int × Int} (hx : Li x) (hy : Nd y) : Lt (pA x y) := by
  obtain ⟨a, b⟩ := x
  have p := hx.pos
  have d := hx.dvd
  have t := hx.top
  simp only at p d t
  have tt : (2 : Nat) ^ 10 = 1024 := by decide
  have b30 : b ≤ 30 := Int.le_of_dvd (by decide) d
  have h0 : b * y.2 ≠ 0 := Int.mul_ne_zero (by omega) (by rcases hy with e | e | e <;> subst e <;> decide)
  refine ⟨frB_pos _ h0, ?_, Nat.lt_of_le_of_lt (frT_le _ h0) ?_⟩
  · rcases hy with e | e | e <;> subst e
    · exact frB_dvd (g := 1) (m := b) (by simpa using h0) (Int.one_dvd _) (by simp) d
    · show frB (a * 3 + 1 * b) (b * 3) ∣ 30
      rcases div30 p d with e | e | e | e | e | e | e | e <;> subst e
      · exact frB_dvd (g := 1) (m := 3) (by decide) (Int.one_dvd _) (by decide) (by decide)
      · exact frB_dvd (g := 1) (m := 6) (by decide) (Int.one_dvd _) (by decide) (by decide)
      · exact frB_dvd (g := 3) (m := 3) (by decide) ⟨a + 1, by omega⟩ (by decide) (by decide)
      · exact frB_dvd (g := 1) (m := 15) (by decide) (Int.one_dvd _) (by decide) (by decide)
      · exact frB_dvd (g := 3) (m := 6) (by decide) ⟨a + 2, by omega⟩ (by decide) (by decide)
      · exact frB_dvd (g := 1) (m := 30) (by decide) (Int.one_dvd _) (by decide) (by decide)
      · exact frB_dvd (g := 3) (m := 15) (by decide) ⟨a + 5, by omega⟩ (by decide) (by decide)
      · exact frB_dvd (g := 3) (m := 30) (by decide) ⟨a + 10, by omega⟩ (by decide) (by decide)
    · exact frB_dvd (g := 1) (m := b) (by simpa using h0) (Int.one_dvd _) (by simp) d
  · show (a * y.2 + y.1 * b).natAbs < 16384
    rcases hy with e | e | e <;> subst e <;> simp only <;> omega
theorem pA_ne {x y : Int × Int} (hx : Li x) (hy : Nd y) : pA x y ≠ x := by
  obtain ⟨a, b⟩ := x
  have p := hx.pos
  simp only at p
  have h0 : b * y.2 ≠ 0 := Int.mul_ne_zero (by omega) (by rcases hy with e | e | e <;> subst e <;> decide)
  intro e
  have e1 : frT (a * y.2 + y.1 * b) (b * y.2) = a := congrArg Prod.fst e
  have e2 : frB (a * y.2 + y.1 * b) (b * y.2) = b := congrArg Prod.snd e
  have m1 := fdiv_mul (per_dvd_l (a * y.2 + y.1 * b) (b * y.2))
  have m2 := fdiv_mul (per_dvd_r (a * y.2 + y.1 * b) (b * y.2))
  rw [show (a * y.2 + y.1 * b).fdiv (per (a * y.2 + y.1 * b) (b * y.2)) = a from e1] at m1
  rw [show (b * y.2).fdiv (per (a * y.2 + y.1 * b) (b * y.2)) = b from e2] at m2
  have q := Int.eq_of_mul_eq_mul_left (by omega) m2
  rw [q] at m1
  have z : y.1 * b = 0 := by omega
  rcases Int.mul_eq_zero.mp z with z | z
  · rcases hy with e | e | e <;> subst e <;> simp at z
  · omega
abbrev sLAdd : Stmt := topS 66
theorem scLAdd : FnScope ["_law_one", "_law_other"] ["_law_one", "_law_other"] (defScope sLAdd) := ⟨rfl, rfl, rfl, by decide +kernel, rfl, by decide +kernel, by decide +kernel⟩
def spLAdd (K : PySem.W.Frag) : Sp := fun vs H Q _ => ∃ (p q : Addr) (x y : Int × Int), vs = [.ref p, .ref q] ∧ SqT K H p [.int x.1, .int x.2] ∧ SqT K H q [.int y.1, .int y.2] ∧ Li x ∧ Nd y ∧ newSh H Q (pA x y).1 (pA x y).2
theorem li_fit {x : Int × Int} (h : Li x) : Fit x.1 ∧ Fit x.2 ∧ x.2 ≠ 0 := by
  have p := h.pos
  have b30 : x.2 ≤ 30 := Int.le_of_dvd (by decide) h.dvd
  exact ⟨Nat.lt_of_lt_of_le h.top (Nat.pow_le_pow_right (by decide) (by decide)), Nat.lt_of_le_of_lt (show x.2.natAbs ≤ 2 ^ 10 from Nat.le_trans (show x.2.natAbs ≤ 30 by omega) (by decide)) (Nat.pow_lt_pow_right (by decide) (by decide)), by omega⟩
theorem nd_fit {y : Int × Int} (h : Nd y) : Fit y.1 ∧ Fit y.2 ∧ y.2 ≠ 0 := by
  have k : ∀ n : Int, n.natAbs ≤ 3 → Fit n := fun n l => Nat.lt_of_le_of_lt l (Nat.lt_of_lt_of_le (show 3 < 2 ^ 2 by decide) (Nat.pow_le_pow_right (by decide) (by decide)))
  rcases h with e | e | e <;> subst e
  · exact ⟨k _ (by decide), k _ (by decide), by decide⟩
  · exact ⟨k _ (by decide), k _ (by decide), by decide⟩
  · exact ⟨k _ (by decide), k _ (by decide), by decide⟩
section
variable {P : Program} {w : World} {K : PySem.W.Frag} {mg : Str → Option Value} {base : Heap} {CM CB C : Addr}
theorem ok_ladd {f : Addr} {fd : FuncData} (F : Fun K "_law_add" "_law_add" sLAdd f fd) (GF : C8.Cal P w K mg base 2 "_law_fr" spFr []) : FnOk P w K mg base CX0 3 f fd ["_law_one", "_law_other"] (spLAdd K) := by
  refine F.ok scLAdd (fun vs H Q E h => ?_) (fun cdv A outer s H vs Q E hr h => ?_)
  · obtain ⟨p, q, x, y, rfl, _⟩ := h
    rfl
  · obtain ⟨p, q, x, y, rfl, hp, hq, lx, ly, k1⟩ := h
    obtain ⟨Fa, Fb, nb⟩ := li_fit lx
    obtain ⟨Fc, Fd, nd⟩ := nd_fit ly
    obtain ⟨a, b⟩ := x
    obtain ⟨c, d⟩ := y
    refine ⟨_, pss_one (ps_ret (C8.pe_c GF hr (by decide) (by rfl) (pa_cons (pe_op op_add (pe_op op_mulW (pe_ix ix_tup (pv 0) pe_int (fun _ _ => rfl)) (pe_ix ix_tup (pv 1) pe_int (fun _ _ => rfl))) (pe_op op_mulW (pe_ix ix_tup (pv 1) pe_int (fun _ _ => rfl)) (pe_ix ix_tup (pv 0) pe_int (fun _ _ => rfl)))) (pa_cons (pe_op op_mulW (pe_ix ix_tup (pv 0) pe_int (fun _ _ => rfl)) (pe_ix ix_tup (pv 1) pe_int (fun _ _ => rfl))) pa_nil)))), ?_⟩
    exact ⟨_, rfl, p, _, 0, .int a, rfl, rfl, hp, at0, _, rfl, q, _, 1, .int d, rfl, rfl, hq, at1, a, d, rfl, rfl, Fa.mulOk Fd, _, rfl, q, _, 0, .int c, rfl, rfl, hq, at0, _, rfl, p, _, 1, .int b, rfl, rfl, hp, at1, c, b, rfl, rfl, Fc.mulOk Fb, a * d, c * b, rfl, rfl, _, rfl, p, _, 1, .int b, rfl, rfl, hp, at1, _, rfl, q, _, 1, .int d, rfl, rfl, hq, at1, b, d, rfl, rfl, Fb.mulOk Fd, _, _, rfl, Int.mul_ne_zero nb nd, Fb.mul Fd, k1⟩
/-! what Machine is handed, whole -/
structure Desc (H : Hp) (aL aB aS aE : Addr) (L : List Str) (n : Nat) (b e : List (Int × Int)) (T : Str → List (List (Int × Int))) : Prop where
  hL : H aL = some (.lst (L.map V.str))
  ex : ∃ (fv lv : List V) (kvs : List (Key × V)), SqA H aB fv ∧ Paired (ShV H) fv b ∧ H aE = some (.lst lv) ∧ Paired (ShV H) lv e ∧ H aS = some (.dK kvs) ∧ kvs.map (·.1) = L.map Sum.inr ∧ Paired (fun (p : Key × V) y => TabN (fun _ => True) H p.2 (T y)) kvs L
  en : Engine L n b e T
  nd : L.Nodup
  sm : ∀ x ∈ L, Small x
/-- a machine that is made of it -/
theorem mk_desc {H1 : Hp} {x dx aL aB aS aE : Addr} {L : List Str} {n : Nat} {b e : List (Int × Int)} {T : Str → List (List (Int × Int))} {Qx : Hp → Prop} {E : XK} (nx : H1 x = none) (ndx : H1 dx = none) (ne : dx ≠ x) (D : Desc H1 aL aB aS aE L n b e T)
    (q : ∀ L' H', Rising L' L → Same H1 H' → MachN (fun a => H1 a = none) CM CB H' x L' b e T → Qx H') :
    spMIni C CM CB (.ref x :: ([.ref aL, .ref aB, .ref aS, .ref aE] ++ [])) (upd (upd H1 dx (.own x)) x (.ins CM dx [])) (fun v H2 => v = .non ∧ Qx H2) E := by
  obtain ⟨fv, lv, kvs, hB, pb, hE, pe', hS, ek, pk⟩ := D.ex
  have s1 := same_new (o := .own x) ndx
  have nx2 : upd H1 dx (.own x) x = none := by rw [upd_ne ne.symm]; exact nx
  have s2 := s1.trans (same_new (o := .ins CM dx []) nx2)
  have pk2 : Paired (fun (p : Key × V) y => TabN (fun _ => True) (upd (upd H1 dx (.own x)) x (.ins CM dx [])) p.2 (T y)) kvs L := pimp (fun _ _ z => z.tr (Tr.of s2)) pk
  have lb : fv.length = n := by rw [Paired.length pb, D.en.lb]
  refine ⟨x, dx, aL, aB, aS, aE, L, fv, lv, kvs, lensOf L T, b, e, T, rfl, upd_same, (handed_of D.en D.nd D.sm D.hL hB pb hE pe' hS ek pk).same s2, fun _ => ⟨by rw [lb]; exact D.en, pimp (fun _ _ z => z.tk (Same.tk s2)) pb, pimp (fun _ _ z => z.tk (Same.tk s2)) pe', fun y hy => mach_val D.nd ek pk2 hy, fun L' H' pm so g mn => ⟨rfl, ?_⟩⟩, fun nf => absurd (fits_of D.en D.nd D.sm pb pe' ek pk) nf⟩
  refine q L' H' ⟨so, pm.nodup_iff.mpr D.nd, fun y => pm.mem_iff⟩ (fun a o h => g a o (ne_of_none h nx) (s2 _ _ h)) (mn.imp fun a na => ?_)
  rcases na with rfl | na
  · exact nx
  · exact s2.free na
end
end Nv

set_option maxRecDepth 100000
set_option maxHeartbeats 8000000
namespace Nv
open PySem PySem.Spec PyProof.Rows L2 NvSet LamX NvO
theorem pimp_two {α β : Type} {R S : α → β → Prop} : ∀ {xs : List α} {ys : List β}, (∀ a b, a ∈ xs → b ∈ ys → R a b → S a b) → Paired R xs ys → Paired S xs ys
  | _, _, _, .nil => .nil
  | _, _, h, .cons a t => .cons (h _ _ List.mem_cons_self List.mem_cons_self a) (pimp_two (fun a b m m' => h a b (List.mem_cons_of_mem _ m) (List.mem_cons_of_mem _ m')) t)
theorem val_of_mem {kvs : List (Key × V)} (nd : (kvs.map (·.1)).Nodup) {p : Key × V} (h : p ∈ kvs) : valV kvs p.1 = some p.2 := by
  obtain ⟨i, hi, ei⟩ := List.getElem_of_mem h
  exact val_at (i := i) nd (by rw [List.getElem?_eq_getElem hi, ei])
theorem pset {α β : Type} {R : α → β → Prop} {a : α} {b : β} (h : R a b) : ∀ {xs : List α} {ys : List β} (i : Nat), Paired R xs ys → Paired R (xs.set i a) (ys.set i b)
  | _, _, _, .nil => .nil
  | _, _, 0, .cons _ t => .cons h t
  | _, _, i + 1, .cons q t => .cons q (pset h i t)
/-! one share of one row is put anew: all rows and tables that stand there, whichever share that row -/
section
variable {N : Addr → Prop} {H : Hp} {rt : Addr} {ps0 : List V} {k : Nat} {p0 : Addr} {z : Int × Int}
theorem poke_tk (h : H rt = some (.lst ps0)) {ys : List V} : TupKeep H (upd H rt (.lst ys)) := tk_no h (fun _ e => by cases e)
theorem row_poke (h : H rt = some (.lst ps0)) (hz : ShV H (.ref p0) z) {v : V} {xs : List (Int × Int)} (r : RowN N H v xs) :
    ∃ xs', RowN N (upd H rt (.lst (ps0.set k (.ref p0)))) v xs' ∧ (xs' = xs ∨ xs' = xs.set k z) ∧ (v = .ref rt → xs' = xs.set k z) := by
  obtain ⟨r, ps, rfl, nr, hr, hps⟩ := r
  by_cases e : r = rt
  · rw [e, h] at hr
    cases hr
    refine ⟨xs.set k z, ⟨rt, _, by rw [e], by rw [← e]; exact nr, upd_same, pset (hz.tk (poke_tk h)) k (pimp (fun _ _ y => y.tk (poke_tk h)) hps)⟩, .inr rfl, fun _ => rfl⟩
  · exact ⟨xs, ⟨r, ps, rfl, nr, by rw [upd_ne e]; exact hr, pimp (fun _ _ y => y.tk (poke_tk h)) hps⟩, .inl rfl, fun y => absurd (V.ref.inj y) e⟩
theorem rows_poke (h : H rt = some (.lst ps0)) (hz : ShV H (.ref p0) z) : ∀ {rs : List V} {Tb : List (List (Int × Int))}, Paired (RowN N H) rs Tb →
    ∃ Tb', Paired (RowN N (upd H rt (.lst (ps0.set k (.ref p0))))) rs Tb' ∧ Paired (fun xs' xs => xs' = xs ∨ xs' = xs.set k z) Tb' Tb ∧ ∀ j : Nat, rs[j]? = some (.ref rt) → ∃ xs, Tb[j]? = some xs ∧ Tb'[j]? = some (xs.set k z)
  | _, _, .nil => ⟨[], .nil, .nil, fun j hj => by simp at hj⟩
  | _, _, .cons (b := xs) r t => by
    obtain ⟨xs', r', w, e⟩ := row_poke h hz r (k := k)
    obtain ⟨Tb', t', w', e'⟩ := rows_poke h hz t
    refine ⟨xs' :: Tb', .cons r' t', .cons w w', fun j hj => ?_⟩
    cases j with
    | zero =>
      have := e (by simpa using hj)
      exact ⟨xs, rfl, by rw [this]; rfl⟩
    | succ j => exact e' j (by simpa using hj)
/-- what becomes of a table -/
structure Poked (H : Hp) (rt : Addr) (k : Nat) (z : Int × Int) (v : V) (Tb Tb' : List (List (Int × Int))) : Prop where
  rows : Paired (fun xs' xs => xs' = xs ∨ xs' = xs.set k z) Tb' Tb
  hit : ∀ (r : Addr) (rs : List V) (j : Nat), v = .ref r → H r = some (.lst rs) → rs[j]? = some (.ref rt) → ∃ xs, Tb[j]? = some xs ∧ Tb'[j]? = some (xs.set k z)
theorem tab_poke (h : H rt = some (.lst ps0)) (hp : ∃ p xs, ps0[0]? = some (.ref p) ∧ H p = some (.tup xs)) (hz : ShV H (.ref p0) z) {v : V} {Tb : List (List (Int × Int))} (n0 : Tb ≠ []) (t : TabN N H v Tb) :
    ∃ Tb', TabN N (upd H rt (.lst (ps0.set k (.ref p0)))) v Tb' ∧ Poked H rt k z v Tb Tb' := by
  obtain ⟨r, rs, rfl, nr, hr, hrs⟩ := t
  have ne : r ≠ rt := fun e => by
    rw [e, h] at hr
    cases hr
    cases hrs with
    | nil => exact n0 rfl
    | cons a _ =>
      obtain ⟨p, xs, e1, e2⟩ := hp
      obtain ⟨r1, ps1, e3, _, e4, _⟩ := a
      rw [e3] at e1
      simp only [List.getElem?_cons_zero, Option.some.injEq, V.ref.injEq] at e1
      rw [e1, e2] at e4
      cases e4
  obtain ⟨Tb', t', w, e⟩ := rows_poke h hz hrs (k := k)
  exact ⟨Tb', ⟨r, rs, rfl, nr, by rw [upd_ne ne]; exact hr, t'⟩, w, fun r' rs' j er hr' hj => by
    cases er
    rw [hr] at hr'
    cases hr'
    exact e j hj⟩
theorem poked_sq {n : Nat} {v : V} {Tb Tb' : List (List (Int × Int))} (lz : Lt z) (s : SqI n Tb) (p : Poked H rt k z v Tb Tb') : Sq n Tb' := by
  have l := Paired.length p.rows
  have row : ∀ xs' ∈ Tb', ∃ xs ∈ Tb, xs' = xs ∨ xs' = xs.set k z := fun xs' hx => by
    obtain ⟨i, hi, ei⟩ := List.getElem_of_mem hx
    obtain ⟨xs, ex, w⟩ := L2.paired_get p.rows (List.getElem?_eq_getElem hi)
    exact ⟨xs, List.mem_of_getElem? ex, by rw [← ei]; exact w⟩
  refine ⟨by rw [l, s.len], fun r hr => ?_, fun r hr x hx => ?_⟩
  · obtain ⟨xs, hxs, e | e⟩ := row r hr
    · rw [e]; exact s.wide _ hxs
    · rw [e, List.length_set]; exact s.wide _ hxs
  · obtain ⟨xs, hxs, e | e⟩ := row r hr
    · rw [e] at hx; exact (s.lt _ hxs x hx).lt
    · rw [e] at hx
      rcases List.mem_or_eq_of_mem_set hx with h | h
      · exact (s.lt _ hxs x h).lt
      · rw [h]; exact lz
/-- what becomes of a dict of tables -/
theorem dict_poke {kvs : List (Key × V)} {L : List Str} {n : Nat} {T : Str → List (List (Int × Int))} (h : H rt = some (.lst ps0)) (hp : ∃ p xs, ps0[0]? = some (.ref p) ∧ H p = some (.tup xs)) (hz : ShV H (.ref p0) z) (lz : Lt z) (n0 : 0 < n) (nd : L.Nodup) (ek : kvs.map (·.1) = L.map Sum.inr)
    (pk : Paired (fun (p : Key × V) y => TabN N H p.2 (T y)) kvs L) (sq : ∀ y ∈ L, SqI n (T y)) :
    ∃ T' : Str → List (List (Int × Int)), Paired (fun (p : Key × V) y => TabN N (upd H rt (.lst (ps0.set k (.ref p0)))) p.2 (T' y)) kvs L ∧ (∀ y ∈ L, Sq n (T' y)) ∧ ∀ y ∈ L, ∀ v, valV kvs (Sum.inr y) = some v → Poked H rt k z v (T y) (T' y) := by
  have nk : (kvs.map (·.1)).Nodup := by rw [ek]; exact inr_nodup nd
  have each : ∀ y, y ∈ L → ∃ Tb', ∀ v, valV kvs (Sum.inr y) = some v → TabN N (upd H rt (.lst (ps0.set k (.ref p0)))) v Tb' ∧ Poked H rt k z v (T y) Tb' := fun y hy => by
    obtain ⟨v, ev, tb⟩ := mach_val nd ek pk hy
    obtain ⟨Tb', t', p⟩ := tab_poke h hp hz (fun e => by have := (sq y hy).len; rw [e] at this; simp at this; omega) tb (k := k)
    exact ⟨Tb', fun v' e => by rw [ev] at e; cases e; exact ⟨t', p⟩⟩
  refine ⟨fun y => if hy : y ∈ L then Classical.choose (each y hy) else [], ?_, fun y hy => ?_, fun y hy v ev => ?_⟩
  · refine pimp_two (fun p y hp hy r => ?_) (paired_keys pk ek)
    have := Classical.choose_spec (each y hy) p.2 (by rw [← r.2]; exact val_of_mem nk hp)
    simp only [dif_pos hy]
    exact this.1
  · obtain ⟨v, ev, _⟩ := mach_val nd ek pk hy
    simp only [dif_pos hy]
    exact poked_sq lz (sq y hy) (Classical.choose_spec (each y hy) v ev).2
  · simp only [dif_pos hy]
    exact (Classical.choose_spec (each y hy) v ev).2
end
theorem set_ne {xs : List (Int × Int)} {k : Nat} {x z : Int × Int} (h : xs[k]? = some x) (n : z ≠ x) : xs.set k z ≠ xs := fun e => by
  have hk : k < xs.length := by
    rcases Nat.lt_or_ge k xs.length with l | l
    · exact l
    · rw [List.getElem?_eq_none l] at h; cases h
  have : (xs.set k z)[k]? = some z := by rw [List.getElem?_set_self hk]
  rw [e, h] at this
  exact n (Option.some.inj this).symm
theorem mergeK_new : ∀ (more acc : List (Key × V)), ((acc ++ more).map (·.1)).Nodup → mergeK acc more = acc ++ more
  | [], acc, _ => by rw [List.append_nil]; rfl
  | q :: more, acc, nd => by
    have n1 : q.1 ∉ acc.map (·.1) := fun z => by
      rw [List.map_append, List.nodup_append] at nd
      exact nd.2.2 _ z _ (List.mem_cons_self) rfl
    show mergeK (putK acc q.1 q.2) more = _
    rw [putK_new n1, mergeK_new more (acc ++ [(q.1, q.2)]) (by rw [List.append_assoc]; exact nd), List.append_assoc]
    rfl
theorem mergeN {kvs : List (Key × V)} (h : (kvs.map (·.1)).Nodup) : mergeK [] kvs = kvs := by
  rw [mergeK_new _ _ (by rw [List.nil_append]; exact h)]
  rfl
theorem nodup_rev {L : List Str} (h : L.Nodup) : L.reverse.Nodup := List.pairwise_reverse.mpr (h.imp fun z => z.symm)
theorem if_f {b : Bool} {A B : Prop} (h : b = false) (q : B) : if b = true then A else B := by
  rw [h]
  exact q
theorem if_t {b : Bool} {A B : Prop} (h : b = true) (q : A) : if b = true then A else B := by
  rw [h]
  exact q
theorem rep_texts : ∀ n : Nat, n ≤ 12 → ∀ k : Nat, k ≤ 3 → (Str.ofString "Machine(" ++ Str.ofString (toString (n : Int)) ++ Str.ofString " rooms, " ++ Str.ofString (toString (k : Int)) ++ Str.ofString " letters)") = repM n k ∧
    (Str.ofString "Machine(").length + (Str.ofString (toString (n : Int))).length ≤ 500 ∧ (Str.ofString "Machine(" ++ Str.ofString (toString (n : Int))).length + (Str.ofString " rooms, ").length ≤ 500 ∧ (Str.ofString "Machine(" ++ Str.ofString (toString (n : Int)) ++ Str.ofString " rooms, ").length + (Str.ofString (toString (k : Int))).length ≤ 500 ∧
    (Str.ofString "Machine(" ++ Str.ofString (toString (n : Int)) ++ Str.ofString " rooms, " ++ Str.ofString (toString (k : Int))).length + (Str.ofString " letters)").length ≤ 500 := by decide +kernel
theorem rowD_nil (b : List (Int × Int)) : PyData.eqv (rowD b) (.list []) = decide (b = []) := rowD_eqv b []
theorem cut_one (xs : List V) : cutV xs (some 1) none = xs.drop 1 := by
  unfold cutV
  rw [HT.sIx_none, show (some (1 : Int)) = some ((1 : Nat) : Int) from rfl, HT.sIx_nat]
  cases xs with
  | nil => rfl
  | cons x xs =>
    rw [show min 1 (x :: xs).length = 1 by simp]
    exact List.take_of_length_le (by rw [List.length_drop]; exact Nat.le_refl _)
theorem ixN_natq {n j : Nat} (h : j < n) : ixN n (j : Int) = some j := by
  unfold ixN
  rw [if_pos (by omega), if_pos (by omega)]
  rfl
/-! the law -/
abbrev sLaw : Stmt := topS 71
abbrev nLaw : List Str := ["_law_script", "_law_bag_here", "_law_signs", "_law_m", "_law_sign", "_law_one", "_law_other", "_law_at", "_law_steps_now", "_law_begun", "_law_ends", "_law_bent", "_law_fewer", "_law_name", "_law_row"]
theorem scLaw : FnScope nLaw ["_law_script"] (defScope sLaw) := ⟨rfl, rfl, rfl, by decide +kernel, rfl, by decide +kernel, by decide +kernel⟩
def spLaw (K : PySem.W.Frag) : Sp := fun vs H Q _ => ∃ (a : Addr) (ns : List Int), vs = [.ref a] ∧ SqL K H a (ns.map V.int) ∧ ∀ H', Q (.bl true) H'
structure Calls (P : Program) (w : World) (K : PySem.W.Frag) (mg : Str → Option Value) (base : Heap) (CM CB : Addr) : Prop where
  bag : C8.Cal P w K mg base 1 "_law_bag" (spBag K) []
  pull : C8.Cal P w K mg base 1 "_law_pull" spPull []
  of : C8.Cal P w K mg base 2 "_law_of" spOf []
  abc : C8.Cal P w K mg base 3 "_law_abc" spAbc []
  eng : C8.Cal P w K mg base 4 "_law_engine" spEng []
  bld : C8.Cal P w K mg base 8 "_law_builds" (spBld CM CB) []
  add : C8.Cal P w K mg base 3 "_law_add" (spLAdd K) []
  same : C8.Cal P w K mg base 43 "_law_same" (spSame K 42) []
section
variable {P : Program} {w : World} {K : PySem.W.Frag} {mg : Str → Option Value} {base : Heap} {CM CB C : Addr}
/-- two machines compared -/
theorem mach_cmp {N N' : Addr → Prop} {H : Hp} {x y : Addr} {L L' : List Str} {b b' e e' : List (Int × Int)} {T T' : Str → List (List (Int × Int))} {g : Bool → Bool} {Q : VK} {E : XK} (m1 : MachN N CM CB H x L b e T) (m2 : MachN N' CM CB H y L' b' e' T') (sm : ∀ z ∈ L, Small z) (sm' : ∀ z ∈ L', Small z) (nd : L.Nodup)
    (q : Q (.bl (g (decide (SameM L L' b b' e e' T T')))) H) : rEqO CM (spMEq K CM CB) E g (.ref x) (.ref y) H Q := by
  have i1 := m1
  have i2 := m2
  obtain ⟨dx, bb, sc, db, o, f, tt, l, fv, lv, kvs, n1, h1, _⟩ := i1
  obtain ⟨dx', bb', sc', db', o', f', tt', l', fv', lv', kvs', n1', h1', _⟩ := i2
  exact ⟨x, dx, _, y, dx', _, rfl, rfl, h1, h1', .inl ⟨N, N', x, y, L, L', b, b', e, e', T, T', rfl, m1, m2, sm, sm', nd, _, rfl, q⟩⟩
end
end Nv

set_option maxRecDepth 100000
set_option maxHeartbeats 4000000
/-! own exception classes over LookupError -/
namespace Nv
open PySem PySem.W PySem.Calls PyProof.Rows PySem.HandSPX Builtin Builtin.ObjectAttr
/-- the mro of LookupError -/
abbrev lkTail : List Value := [.type "LookupError", .type "Exception", .type "BaseException", .type "object"]
def isRf : Value → Bool
  | .ref _ => true
  | _ => false
/-- own classes, then LookupError's -/
def lkMro (l : List Value) : Bool := l.dropWhile isRf == lkTail
theorem lk_ind {l : List Value} (h : lkMro l = true) {Pr : List Value → Prop} (h0 : Pr lkTail) (h1 : ∀ c r, Pr r → Pr (.ref c :: r)) : Pr l := by
  induction l with
  | nil => exact absurd h (by decide)
  | cons a r ih =>
    cases a with
    | ref c => exact h1 c r (ih h)
    | _ =>
      have e := beq_iff_eq.mp h
      rw [show List.dropWhile isRf (_ :: r) = _ :: r from rfl] at e
      rw [e]
      exact h0
theorem lk_pass {l : List Value} (h : lkMro l = true) (me : Value) : refuseLoop me "__setattr__" l = pure () :=
  lk_ind (Pr := fun l => refuseLoop me "__setattr__" l = pure ()) h (F.store_LookupError.passes me) fun c r q => by rw [refuseLoop_ref]; exact q
theorem lk_has {l : List Value} (h : lkMro l = true) (Z : String) : l.contains (.type Z) = lkTail.contains (.type Z) :=
  lk_ind (Pr := fun l => l.contains (.type Z) = lkTail.contains (.type Z)) h rfl fun c r q => by rw [List.contains_cons, q]; rfl
theorem lk_some {l : List Value} (h : lkMro l = true) : l.isEmpty = false := lk_ind (Pr := fun l => l.isEmpty = false) h rfl fun _ _ _ => rfl
section
variable {pr : Program} {w : World} {A : Around} {E : Value → Shared → Prop} {R : Result → Shared → Prop} {hh : Heap} {gs : Array GenState} {dr : PySem.Drawn} {tt : Nat} {oo : OsState}
/-- the way of object.__setattr__ up to the store in the own dict -/
theorem lk_osa {K : W.Frag} {n : Str} {tk : Tok} {v : Value} {x C : Addr} {ox : Obj} {od : Option Obj} {cl : ClassData} (inK : K.In hh) (I : W.InstAt hh x ox C od) (hcl : W.clsIn K C = some cl) (hm : lkMro cl.mro = true) (ha : W.findIn K (.ref C) n = some none)
    (hq : wpAny (model pr w) A.in1 (storeInOwnDict (.ref x) (.ref C) (.str n tk) n v false) (fun f s => match f with
      | .done r => R (.ok r) s
      | .again c => c.quiet = true ∧ codeAny (model pr w) A c R s) (fun e s => R (.error e) s) ⟨hh, gs, dr, tt, oo⟩) :
    codeAny (model pr w) A (.call (.builtin "object.__setattr__") ⟨[.ref x, .str n tk, v], []⟩) R ⟨hh, gs, dr, tt, oo⟩ := by
  have S := F.store_object
  have ob : cl.mro.contains (.type "object") = true := (lk_has hm "object").trans (by decide +kernel)
  have isO : W.Looks (model pr w) hh (isInstance (.ref x) (.type "object")) true := I.type.andThen (W.looks_mroIn inK (by unfold W.mroIn; rw [hcl, Option.bind_some, if_neg (by rw [lk_some hm]; decide), ob]))
  refine codeAny_call_builtin S.slot.plain S.entry (@W.check_slot (model pr w) _ _ ⟨hh, gs, dr, tt, oo⟩ "object.__setattr__" "object" "__setattr__" (.ref x) [.str n tk, v] [] _ S.kind S.split isO (S.args (.ref x) (.str n tk) v) ?_)
  have mr : W.Looks (model pr w) hh (mroOf (.ref C)) cl.mro := (W.looks_clsIn inK hcl).andThen .now
  have no : W.Looks (model pr w) hh (storeTaker? none) none := .now
  rw [W.osa_eq, refuse_eq]
  refine wpAny_bind (wpAny_bind (I.type.at (wpAny_bind (mr.at ?_))))
  rw [lk_pass hm]
  refine wpAny_pure (wpAny_bind (I.type.at (wpAny_bind ((W.looks_findIn inK ha).at (wpAny_bind (no.at ?_))))))
  exact hq
/-- the first field: a dict is laid for it -/
theorem lk_first {K : W.Frag} {n : Str} {tk : Tok} {v : Value} {x C : Addr} {fv : Array Value} {cl : ClassData} (inK : K.In hh) (hx : hh.get? x = some { cls := .ref C, data := .fields fv }) (hcl : W.clsIn K C = some cl) (hm : lkMro cl.mro = true) (hd : cl.hasDict = true) (ha : W.findIn K (.ref C) n = some none)
    (hq : ∀ h2 tk2 dx, (∀ b o, b ≠ x → hh.get? b = some o → h2.get? b = some o) → hh.objs.size ≤ dx → dx ≠ x → h2.get? x = some { cls := .ref C, dict := some dx, data := .fields fv } → h2.Ns1 dx (fun y => if y = n then some v else none) → R (.ok (.ret .none)) ⟨h2, gs, dr, tk2, oo⟩) :
    codeAny (model pr w) A (.call (.builtin "object.__setattr__") ⟨[.ref x, .str n tk, v], []⟩) R ⟨hh, gs, dr, tt, oo⟩ := by
  refine lk_osa inK (ox := { cls := .ref C, data := .fields fv }) (od := none) ⟨hx, rfl, rfl, trivial⟩ hcl hm ha ?_
  have nx : x ≠ hh.objs.size := Nat.ne_of_lt (Heap.lt_size hx)
  have lc : W.Looks (model pr w) hh (classData C) cl := W.looks_clsIn inK hcl
  cases cl with
  | mk c1 c2 c3 c4 c5 c6 c7 c8 c9 c10 c11 =>
  cases (show c6 = true from hd)
  unfold storeInOwnDict ownDictForStores
  repeat (first | with_reducible refine store_in_new ?_ ?_ | with_reducible refine wpAny_loadPart_at hx ?_ | with_reducible refine lc.at ?_ | wp_step)
  · exact ⟨_, #[], _, (Heap.get?_update_ne _ _ _ _ nx.symm).trans (Heap.get?_push_at rfl rfl), rfl, fun _ z => absurd z (by simp), fun _ => rfl⟩
  · intro h2 tk2 hn sb
    have hx2 : (hh.push { cls := .type "dict", data := .dict #[] }).get? x = _ := Heap.get?_push_of_some _ hx
    refine hq h2 tk2 _ (fun b o nb ho => ?_) (Nat.le_refl _) nx.symm ((sb.2 x nx).trans (Heap.get?_update_self _ hx2 rfl)) hn
    rw [sb.2 b (Nat.ne_of_lt (Heap.lt_size ho)), Heap.get?_update_ne _ _ _ _ nb]
    exact Heap.get?_push_of_some _ ho
/-- a further field -/
theorem lk_more {K : W.Frag} {n : Str} {tk : Tok} {v : Value} {x C dx : Addr} {fv : Array Value} {cl : ClassData} {m0 : Str → Option Value} {nl : List Str} (inK : K.In hh) (hx : hh.get? x = some { cls := .ref C, dict := some dx, data := .fields fv }) (hn : hh.Ns1 dx m0) (hw : Within m0 nl) (hz : nl.length ≤ 1000)
    (hcl : W.clsIn K C = some cl) (hm : lkMro cl.mro = true) (hd : cl.hasDict = true) (ha : W.findIn K (.ref C) n = some none)
    (hq : ∀ h2 tk2, (∀ b o, b ≠ dx → hh.get? b = some o → h2.get? b = some o) → h2.Ns1 dx (fun y => if y = n then some v else m0 y) → R (.ok (.ret .none)) ⟨h2, gs, dr, tk2, oo⟩) :
    codeAny (model pr w) A (.call (.builtin "object.__setattr__") ⟨[.ref x, .str n tk, v], []⟩) R ⟨hh, gs, dr, tt, oo⟩ := by
  obtain ⟨oD, _, _, hoD, _, _⟩ := hn.count hw
  refine lk_osa inK (ox := { cls := .ref C, dict := some dx, data := .fields fv }) (od := some oD) ⟨hx, rfl, rfl, hoD⟩ hcl hm ha ?_
  have lc : W.Looks (model pr w) hh (classData C) cl := W.looks_clsIn inK hcl
  cases cl with
  | mk c1 c2 c3 c4 c5 c6 c7 c8 c9 c10 c11 =>
  cases (show c6 = true from hd)
  unfold storeInOwnDict ownDictForStores
  repeat (first | with_reducible refine OEX.store_in_old hn hw hz ?_ | with_reducible refine wpAny_loadPart_at hx ?_ | with_reducible refine lc.at ?_ | wp_step)
  intro h2 tk2 hn2 sb
  exact hq h2 tk2 (fun b o nb ho => (sb.2 b nb).trans ho) hn2
end
theorem lk_typ : typeOf (.type "LookupError") = pure (.type "type") := by kernel_rfl
end Nv

set_option maxRecDepth 100000
set_option maxHeartbeats 4000000
namespace Nv
open PySem PySem.Spec PyProof.Rows L2
/-- what the written part says of an own class over LookupError -/
structure LexC (K : PySem.W.Frag) (C : Addr) : Prop where
  cls : ∃ c1 c2 c3 c4 bm c6 c7 c8 c9 c10 a0 a1 a2 a3 a5, K.lookup C = some (excClassObj c1 c2 C c3 c4 bm true c6 c7 c8 c9 c10 a0 a1 a2 a3 a5 "LookupError.__new__") ∧ lkMro bm = true
  set : PySem.W.findIn K (.ref C) "__setattr__" = some (some (.builtin "object.__setattr__"))
  exc : PySem.W.subIn K (.ref C) (.type "BaseException") = some true
  typ : PySem.W.typeIn K (.ref C) = some (.type "type")
  kp : PySem.W.keepIn K (.ref C) = true
section
variable {X : Cx} {pins : List (Addr × Obj)} {σ : L2.St} {H : Hp} {s : Shared} {a C dx : Addr} {f : Str} {y : V} {u : Value} {fs : List (Str × V)} {Q : Unit → Shared → Prop} {E : Value → Shared → Prop} {A : Around}
theorem LexC.data {K : PySem.W.Frag} (T : LexC K C) : ∃ cd : ClassData, PySem.W.clsIn K C = some cd ∧ lkMro cd.mro = true ∧ cd.hasDict = true := by
  obtain ⟨c1, c2, c3, c4, bm, c6, c7, c8, c9, c10, a0, a1, a2, a3, a5, hC, hb⟩ := T.cls
  refine ⟨{ name := c1, bases := c4, mro := .ref C :: bm, ns := c3, qualname := c2, hasDict := true, slotNames := c6, subclasses := c7, abstract := c8, collection := c9, hasDel := false }, ?_, hb, rfl⟩
  unfold PySem.W.clsIn
  rw [hC]
theorem lset_new (T : LexC X.K C) (I : Inv X pins σ H s) (e : H a = some (exo a C none)) (no : PySem.W.findIn X.K (.ref C) f = some none) (ry : RelV y u)
    (q : ∀ dx s2, H dx = none → dx ≠ a → Inv X pins σ (upd (upd H dx (exd dx [(f, y)])) a (exo a C (some dx))) s2 → Q () s2) : wpAny (model X.prog X.w) A (setAttr (.ref a) f u) Q E s := by
  obtain ⟨cd, hcd, hmr, hhd⟩ := T.data
  obtain ⟨t1, ho⟩ := exo_at I.hok e
  obtain ⟨hh, gs, dr, tt, oo⟩ := s
  refine PySem.W.set_plain I.kIn (ox := { cls := .ref C, dict := none, data := .fields #[.ref t1, .none, .none, .none, .bool false, .none] }) (od := none) ⟨ho, rfl, rfl, trivial⟩ T.set ?_
  refine lk_first I.kIn ho hcd hmr hhd no (fun h2 tk2 dx k big nea hx hn => ?_)
  have free : H dx = none := I.hok.fresh big
  have old : ∀ {b : Addr} {o : Obj}, hh.get? b = some o → b ≠ dx := fun {b o} z => Nat.ne_of_lt (Nat.lt_of_lt_of_le (Heap.lt_size z) big)
  have na : ∀ {b : Addr}, H b = none → b ≠ a := fun {b} n z => by rw [z, e] at n; cases n
  have far : ∀ {b : Addr} {o : HO}, H b = some o → exo a C none ≠ o → upd (upd H dx (exd dx [(f, y)])) a (exo a C (some dx)) b = some o := fun {b o} z ne => by
    rw [upd_ne (at_ne e z ne), upd_ne (ne_of_none z free)]
    exact z
  refine q dx _ free nea (I.un (t' := tk2) ⟨fun b o z n _ _ => k b o (na n) z, fun b o z n _ _ => ⟨o.slots, k b o (na n) z⟩, fun b o z n _ => (upd_ne (na n)).trans ((upd_ne (old z)).trans n), fun b o z _ => ?_, fun b xs z => far z exo_tup, fun b o v z => far z exo_frz, fun b ps z => ⟨#[], by rw [far z exo_tbl]; simp⟩⟩ fun b o z => ?_)
  · by_cases hb : b = a
    · exact ⟨_, hb ▸ hx⟩
    · exact ⟨o, k b o hb z⟩
  · by_cases hb : b = a
    · subst hb
      rw [upd_same] at z
      cases z
      exact exo_ok hx
    · rw [upd_ne hb] at z
      by_cases hd : b = dx
      · subst hd
        rw [upd_same] at z
        cases z
        exact exd_ok hn (relO_put (fs := []) ry fun _ => True.intro)
      · rw [upd_ne hd] at z
        refine (I.hok b o z).stay (fun c v hc y => k c v ?_ y) (fun c hc => far hc exo_own) (fun c xs hc => far hc exo_tup)
        rcases hc with hc | hc
        · exact hc ▸ hb
        · exact at_ne e hc exo_own
theorem lset_old (T : LexC X.K C) (I : Inv X pins σ H s) (e : H a = some (exo a C (some dx))) (ed : H dx = some (exd dx fs)) (hl : fs.length ≤ 900) (no : PySem.W.findIn X.K (.ref C) f = some none) (ry : RelV y u)
    (q : ∀ s2, Inv X pins σ (upd H dx (exd dx ((f, y) :: fs))) s2 → Q () s2) : wpAny (model X.prog X.w) A (setAttr (.ref a) f u) Q E s := by
  obtain ⟨cd, hcd, hmr, hhd⟩ := T.data
  obtain ⟨t1, ho⟩ := exo_at I.hok e
  obtain ⟨mA, hns, rel⟩ := exd_at I.hok ed
  obtain ⟨hh, gs, dr, tt, oo⟩ := s
  obtain ⟨oD, _, _, hoD, _, _⟩ := hns.count (within_of rel)
  refine PySem.W.set_plain I.kIn (ox := { cls := .ref C, dict := some dx, data := .fields #[.ref t1, .none, .none, .none, .bool false, .none] }) (od := some oD) ⟨ho, rfl, rfl, hoD⟩ T.set ?_
  refine lk_more I.kIn ho hns (within_of rel) (by rw [List.length_map]; omega) hcd hmr hhd no (fun h2 tk2 k hn => ?_)
  have there : ∃ o, h2.get? dx = some o := by
    obtain ⟨o, _, _, z, _⟩ := hn
    exact ⟨o, z⟩
  exact q _ (I.write (t' := tk2) (x := dx) (e := dx) (o := exd dx ((f, y) :: fs)) (by rw [ed]; exact True.intro) (.inl rfl) k there (exd_ok hn (relO_put ry rel)))
theorem linit_ok {us : List Value} {Q : Value → Shared → Prop} (T : LexC X.K C) (I : Inv X pins σ H s) (e : H a = some (exo a C none)) (hl : us.length ≤ sizeLine) (q : ∀ s2, Inv X pins σ H s2 → Q .none s2) :
    wpAny (model X.prog X.w) A (call (.builtin "LookupError.__init__") (.ref a :: us)) Q E s := by
  obtain ⟨c1, c2, c3, c4, bm, c6, c7, c8, c9, c10, a0, a1, a2, a3, a5, hC, hb⟩ := T.cls
  obtain ⟨t1, ho⟩ := exo_at I.hok e
  obtain ⟨hh, gs, dr, tt, oo⟩ := s
  refine wpAny_call (PySem.HandSPX.init_base F.excBase_LookupError (lk_has hb) (I.kIn _ _ hC) ho hl fun h2 t2 k hx => ?_)
  have J := I.write (t' := tt) (x := a) (e := a) (o := exo a C none) (by rw [e]; exact True.intro) (.inl rfl) k ⟨_, hx⟩ (exo_ok hx)
  rw [show upd H a (exo a C none) = H from funext fun b => by
    by_cases z : b = a
    · rw [z, upd_same, e]
    · rw [upd_ne z]] at J
  exact q _ J
end
/-- LookupError.__init__(self, ..) -/
def tLkI (K : PySem.W.Frag) (ta : TA) : TE := fun σ H Q => ta σ H fun vs H1 => ∃ (a C : Addr) (ws : List V), vs = .ref a :: ws ∧ ws.length ≤ 1000 ∧ LexC K C ∧ H1 a = some (exo a C none) ∧ Q .non H1
/-- self.f = e -/
def tLst (K : PySem.W.Frag) (f : Str) (to te : TE) : TS := fun D σ H => te σ H fun y H1 => to σ H1 fun x H2 => ∃ a C : Addr, x = .ref a ∧ LexC K C ∧ PySem.W.findIn K (.ref C) f = some none ∧
  ((∃ (dx : Addr) (fs : List (Str × V)), H2 a = some (exo a C (some dx)) ∧ H2 dx = some (exd dx fs) ∧ fs.length ≤ 900 ∧ D.nx σ (upd H2 dx (exd dx ((f, y) :: fs)))) ∨
    (H2 a = some (exo a C none) ∧ ∀ dx, H2 dx = none → dx ≠ a → D.nx σ (upd (upd H2 dx (exd dx [(f, y)])) a (exo a C (some dx)))))
section
variable {X : Cx} {o e : Expr} {es : List Expr} {to te : TE} {ta : TA} {f : Str} {p p' p1 p2 pos : Pos}
theorem pe_leinit {pl : Sem Bool} (hg : Gl X "LookupError") (hm : X.mg "LookupError" = none) (vV : PySem.W.findCls X.K (.type "LookupError") (.type "type") "__init__" = some (.val (.builtin "LookupError.__init__"))) (ha : PA X (e :: es) ta)
    (hc : eval (.Call (.Attribute (.Name "LookupError" p1) "__init__" p2) (e :: es) [] pos) X.env = (do
      let ov ← eval (.Name "LookupError" p1) X.env
      standAt p2.atName
      let (f, first) ← holding [ov] (getMethod ov "__init__" pl)
      callWith pos f first (backTo pos (starEach (e :: es) X.env)) (backToKw pos (keywordEach [] X.env))) := by rfl)
    (he : starEach (e :: es) X.env = (false, eval e X.env) :: starEach es X.env := by rfl) (hpl : (backTo pos (starEach es X.env)).any (·.1) = false := by rfl) :
    PE X (.Call (.Attribute (.Name "LookupError" p1) "__init__" p2) (e :: es) [] pos) (tLkI X.K ta) := by
  refine ⟨fun pins s σ H Q I h => ?_⟩
  refine PySem.W.methodCall_KW (ld_blt I hg hm PyProof.Rows.Boot.«LookupError» ?_ (by decide) (by decide)) hc
  obtain ⟨m, fr⟩ := I.fr
  refine PySem.W.method_type fr I.ok.mod.kin lk_typ (by decide +kernel) vV (by decide +kernel) ?_
  show wpAny _ _ (callWith pos (Value.builtin "LookupError.__init__") [] (backTo pos (starEach (e :: es) X.env)) []) _ _ _
  refine PyProof.Rows.callWith_method1 (thn (ha.run pos pins _ σ H _ (I.tok _) h) fun us s1 z => ?_) he hpl
  obtain ⟨vs, H1, I1, r1, a, C, ws, rfl, hl, T, ea, q⟩ := z
  cases r1 with
  | @cons _ u0 _ ur ra rw' =>
    cases (show u0 = Value.ref a from ra)
    exact linit_ok T I1 ea (by rw [← Paired.length rw', sizeLine_eq]; omega) fun s2 J => ⟨.non, H1, J, rfl, q⟩
theorem ps_lst (ho : PE X o to) (he : PE X e te) (hs : swapsWith e (some (.Attribute o f p')) pos.line X.env = pure false := by rfl) : PS X (.Assign [.Attribute o f p'] e pos) (tLst X.K f to te) := by
  refine ⟨fun pins s σ H D I h => ?_⟩
  refine plainObj_wpAny_Assign_Attribute (thn (he.run pins s σ H _ I h) fun v s1 z1 => ?_) hs
  obtain ⟨y, H1, I1, r1, q1⟩ := z1
  refine thn (ho.run pins s1 σ H1 _ I1 q1) fun u s2 z2 => ?_
  obtain ⟨x, H2, I2, r2, a, C, rfl, T, no, q⟩ := z2
  cases (show u = Value.ref a from r2)
  rcases q with ⟨dx, fs, ea, ed, hl, q⟩ | ⟨ea, q⟩
  · exact lset_old T I2 ea ed hl no r1 fun s3 J => ⟨σ, _, J, q⟩
  · exact lset_new T I2 ea no r1 fun dx s3 n ne J => ⟨σ, _, J, q dx n ne⟩
theorem pmk_lex {CX : CXT} {x : Str} {C fI : Addr} {k : Nat} {fd : FuncData} {ps : List Str} {sp : Sp} {ds : List Value} {dvs : List V} (T : LexC X.K C) (iC : PySem.W.findIn X.K (.ref C) "__init__" = some (some (.ref fI))) (tI : PySem.W.typeIn X.K (.ref fI) = some (.type "function"))
    (G : FnOk X.prog X.w X.K X.mg X.base CX k fI fd ps sp) (hr : Room (k + 1) X.A) (hb : Binds X.K fd ps ds) (hd : Vals dvs ds) (hx : Passes CX X (fun _ _ _ => False)) (hg : Gl X x) (hm : X.mg x = some (.ref C)) (ha : PA X (e :: es) ta)
    (hdb : (x == ("__debug__" : Str)) = false := by decide) (he : starEach (e :: es) X.env = (false, eval e X.env) :: starEach es X.env := by rfl) (hpl : (backTo pos (starEach es X.env)).any (·.1) = false := by rfl) :
    PMk X (.Call (.Name x p) (e :: es) [] pos) (tMkO C sp dvs ta) := by
  intro pins s σ H Q I h
  obtain ⟨c1, c2, c3, c4, bm, c6, c7, c8, c9, c10, a0, a1, a2, a3, a5, hC, hbm⟩ := T.cls
  refine wpAny_Call_Name_kw (ld_glob I hg hm ?_ hdb)
  refine PySem.W.callWith_K (h₀ := X.base) I.ok.mod.kin T.kp (thn (ha.run pos pins s σ H _ I h) fun us s1 z => ?_) he hpl
  obtain ⟨vs, H1, I1, r1, hz, q1⟩ := z
  refine ⟨I1.kIn, ?_⟩
  show wpAny _ _ (call (.ref C) us) _ _ _
  obtain ⟨hh, gs, dr, tt, oo⟩ := s1
  have big : hh.objs.size ≤ hh.objs.size + 1 := Nat.le_succ _
  have hq := q1 (hh.objs.size + 1) (I1.hok.fresh big)
  have keep : ∀ b o, hh.get? b = some o → ((hh.push (PySem.W.kdv_tup us)).push (PySem.HandSPX.excO C hh.objs.size)).get? b = some o := fun b o z => Heap.get?_push_of_some _ (Heap.get?_push_of_some _ z)
  have itself : ((hh.push (PySem.W.kdv_tup us)).push (PySem.HandSPX.excO C hh.objs.size)).get? (hh.objs.size + 1) = some (PySem.HandSPX.excO C hh.objs.size) := by heap_get
  have I2 := I1.laid (t' := tt) (a := hh.objs.size + 1) (o := exo (hh.objs.size + 1) C none) (h' := (hh.push (PySem.W.kdv_tup us)).push (PySem.HandSPX.excO C hh.objs.size)) keep big (exo_ok itself)
  have r2 : Vals (V.ref (hh.objs.size + 1) :: (vs ++ dvs)) (Value.ref (hh.objs.size + 1) :: (us ++ ds)) := .cons rfl (r1.append hd)
  have ln : (Value.ref (hh.objs.size + 1) :: us ++ ds).length = ps.length := r2.length.symm.trans (G.len _ _ _ _ hq)
  have lu : us.length ≤ sizeLine := by rw [← Paired.length r1, sizeLine_eq]; omega
  refine wpAny_call (PySem.HandSPX.call_own F.excBase_LookupError (lk_has hbm) (I1.kIn _ _ hC) (PySem.W.looks_findIn I1.kIn iC) (fun me => PySem.W.bind_fn I1.kIn me tI) lu (codeAny_mono (G.run _ X.stack _ _ ⟨Value.ref (hh.objs.size + 1) :: us, []⟩ (Value.ref (hh.objs.size + 1) :: (us ++ ds)) _ _ (fun _ _ _ => False) (hr.make C us []) (I2.env0.make C us []) (hb _ (Value.ref (hh.objs.size + 1) :: us) I2.kIn ln) r2 hq) fun r s2 z => ?_))
  match r, z with
  | .error er, z => exact hx pins σ _ _ er s2 I2 z
  | .ok (.ret u), z =>
    obtain ⟨v, H2, os2, bare, un, hok, rv, ev, d, fs, ea, ed, hd1, q2⟩ := z
    subst ev
    obtain ⟨h2, g2, d2, t2, os'⟩ := s2
    exact ⟨rv, mk_end (raises_own T.exc T.typ) I1 big keep un hok os2 bare ea ed hd1 q2⟩
  | .ok .next, z => exact False.elim z
  | .ok .brk, z => exact False.elim z
  | .ok .cont, z => exact False.elim z
end
end Nv

set_option maxRecDepth 100000
set_option maxHeartbeats 4000000
namespace Nv
open PySem PySem.Spec PyProof.Rows L2 LamX
/-! the head by a run: which objects are looked at, the Hook, what it tells -/
/-- what is looked at behind an object -/
def kids (g : Addr → Option Obj) (a : Addr) : List Addr := match g a with
  | some ⟨_, _, .func fd, _⟩ => He.refV fd.code ++ He.refV fd.defaults
  | some ⟨_, _, .cls cd, _⟩ => [cd.ns]
  | some ⟨_, _, .dict es _, _⟩ => es.toList.flatMap fun e => He.refV e.val
  | _ => []
def kidsL (g : Addr → Option Obj) (l : List Addr) : List Addr := l.flatMap (kids g)
/-- the module's names, their codes and defaults, the classes' names, their codes and defaults -/
def seen1 (g : Addr → Option Obj) : List Addr := kidsL g [mainGlobals]
def seen2 (g : Addr → Option Obj) : List Addr := kidsL g (seen1 g)
def seen3 (g : Addr → Option Obj) : List Addr := kidsL g (seen2 g)
def seen4 (g : Addr → Option Obj) : List Addr := kidsL g (seen3 g)
def seenAll (g : Addr → Option Obj) : List Addr := mainGlobals :: cStatics :: (seen1 g ++ (seen2 g ++ (seen3 g ++ seen4 g)))
def frY (g : Addr → Option Obj) : PySem.W.Frag := He.frT g (seenAll g)
def obsY (fa : List He.Fa) (fn : List He.DefD) (tf : List He.Defn) (ex : PySem.W.Frag → Bool) (g : Addr → Option Obj) : He.AlX := (He.obsT fa fn [] (frY g), ex (frY g) && He.tabsB g tf (frY g))
theorem saysY_of {fa : List He.Fa} {fn : List He.DefD} {tf : List He.Defn} {ex : PySem.W.Frag → Bool} {w : World} {h : Heap} (e : obsY fa fn tf ex h.get? = He.valX fn [] w) : He.SaysX fa fn [] tf ex w h (frY h.get?) := by
  have e1 : He.obsT fa fn [] (frY h.get?) = He.valT fn [] w := congrArg Prod.fst e
  have e2 : (ex (frY h.get?) && He.tabsB h.get? tf (frY h.get?)) = true := congrArg Prod.snd e
  obtain ⟨h1, h2⟩ := He.ba e2
  have key : ∀ p ∈ tf, PySem.W.codeHdIn (frY h.get?) (He.cT (frY h.get?) p).1 (He.cT (frY h.get?) p).2 = true ∧ ∃ o, h.get? (He.cT (frY h.get?) p).2 = some o ∧ He.emptyTab o = true := by
    intro p hp
    obtain ⟨h3, h4⟩ := He.ba (List.all_eq_true.mp h2 p hp)
    refine ⟨h3, ?_⟩
    cases q : h.get? (He.cT (frY h.get?) p).2 with
    | some o => rw [q] at h4; exact ⟨o, rfl, h4⟩
    | none => rw [q] at h4; cases h4
  refine ⟨e1, h1, fun p hp => (key p hp).1, fun p hp => ?_, fun p hp => ?_⟩
  · obtain ⟨_, o, q, z⟩ := key p hp
    exact He.frT_none q z
  · obtain ⟨_, o, q, z⟩ := key p hp
    rw [q, He.emptyTab_eq z]
def hookY (fa : List He.Fa) (fn : List He.DefD) (tf : List He.Defn) (ex : PySem.W.Frag → Bool) : PySem.W.Hook where
  α := He.AlX
  obs := fun s => obsY fa fn tf ex s.heap.get?
  val := fun w => He.valX fn [] w
  says := fun w h => ∃ K : PySem.W.Frag, K.In h ∧ He.SaysX fa fn [] tf ex w h K
  of := fun w s e => ⟨frY s.heap.get?, He.frT_in, saysY_of e⟩
  keeps := fun w h h2 ⟨K, hK, c⟩ k => ⟨K, PySem.W.Frag.In.keeps hK k, ⟨c.t, c.more, c.hd, c.out, fun p hp => k _ _ (c.empty p hp)⟩⟩
theorem obsY_eq {fa : List He.Fa} {fn : List He.DefD} {tf : List He.Defn} {ex : PySem.W.Frag → Bool} (s : PySem.W.SharedT) : obsY fa fn tf ex (HandSHeadRun.getT s) = (hookY fa fn tf ex).obs s.abs := by
  have e : HandSHeadRun.getT s = s.abs.heap.get? := funext (HandSHeadRun.getT_eq s)
  rw [e]
  rfl
/-! further facts: a list of looks -/
def allB (l : List (PySem.W.Frag → Bool)) (K : PySem.W.Frag) : Bool := l.all fun f => f K
theorem allB_at {l : List (PySem.W.Frag → Bool)} {K : PySem.W.Frag} (h : allB l K = true) (i : Nat) {f : PySem.W.Frag → Bool} (e : l[i]? = some f := by rfl) : f K = true := List.all_eq_true.mp h f (List.mem_of_getElem? e)
/-- an own exception class: mr: what its bases must be, nw: whose __new__ -/
def exB (mr : List Value → Bool) (nw : String) (K : PySem.W.Frag) (C : Addr) : Bool := match K.lookup C with
  | some ⟨.type t, _, .cls cd, sl⟩ => decide (t = "type") && (match cd.mro with
    | .ref D :: bm => (match sl.toList with
      | [_, _, _, _, some (.builtin n), _] => decide (D = C) && (decide (n = nw) && (!cd.hasDel && (cd.hasDict && mr bm)))
      | _ => false)
    | _ => false)
  | _ => false
theorem exB_ok {mr : List Value → Bool} {nw : String} {K : PySem.W.Frag} {C : Addr} (h : exB mr nw K C = true) : ∃ c1 c2 c3 c4 bm c6 c7 c8 c9 c10 a0 a1 a2 a3 a5, K.lookup C = some (excClassObj c1 c2 C c3 c4 bm true c6 c7 c8 c9 c10 a0 a1 a2 a3 a5 nw) ∧ mr bm = true := by
  unfold exB at h
  split at h
  · rename_i t dd cd sl hl
    obtain ⟨h1, h2⟩ := He.ba h
    split at h2
    · rename_i D bm hm
      split at h2
      · rename_i a0 a1 a2 a3 n a5 hs
        obtain ⟨h3, h4⟩ := He.ba h2
        obtain ⟨h5, h6⟩ := He.ba h4
        obtain ⟨h7, h8⟩ := He.ba h6
        obtain ⟨h9, h10⟩ := He.ba h8
        have et := of_decide_eq_true h1
        have eD := of_decide_eq_true h3
        have en := of_decide_eq_true h5
        have hdel : cd.hasDel = false := by
          cases q : cd.hasDel with
          | false => rfl
          | true => rw [q] at h7; cases h7
        subst et eD en
        obtain ⟨b1, b2, b3, b4, b5, b6, b7, b8, b9, b10, b11⟩ := cd
        have e1 : b3 = .ref D :: bm := hm
        have e2 : b6 = true := h9
        have e3 : b11 = false := hdel
        have e4 : sl = #[a0, a1, a2, a3, some (.builtin n), a5] := by
          rw [← Array.toArray_toList (xs := sl), hs]
        subst e1 e2 e3 e4
        exact ⟨b1, b5, b4, b2, bm, b7, b8, b9, b10, dd, a0, a1, a2, a3, a5, hl, h10⟩
      · cases h2
    · cases h2
  · cases h
def excB (mr : List Value → Bool) (nw : String) (x : Str) (K : PySem.W.Frag) : Bool := exB mr nw K (He.ga K x) && (He.eqO (PySem.W.findIn K (.ref (He.ga K x)) "__setattr__") (some (some (.builtin "object.__setattr__"))) && (decide (PySem.W.subIn K (.ref (He.ga K x)) (.type "BaseException") = some true) &&
  (decide (PySem.W.typeIn K (.ref (He.ga K x)) = some (.type "type")) && PySem.W.keepIn K (.ref (He.ga K x)))))
/-- an own class over ValueError -/
def oexB (x : Str) (K : PySem.W.Frag) : Bool := excB PySem.HandSPX.refsVE "ValueError.__new__" x K
/-- an own class over LookupError -/
def lexB (x : Str) (K : PySem.W.Frag) : Bool := excB lkMro "LookupError.__new__" x K
theorem oexB_ok {x : Str} {K : PySem.W.Frag} (h : oexB x K = true) : OexC K (He.ga K x) := by
  obtain ⟨h1, h⟩ := He.ba h
  obtain ⟨h2, h⟩ := He.ba h
  obtain ⟨h3, h⟩ := He.ba h
  obtain ⟨h4, h5⟩ := He.ba h
  exact ⟨exB_ok h1, He.eqO_ok h2, of_decide_eq_true h3, of_decide_eq_true h4, h5⟩
theorem lexB_ok {x : Str} {K : PySem.W.Frag} (h : lexB x K = true) : LexC K (He.ga K x) := by
  obtain ⟨h1, h⟩ := He.ba h
  obtain ⟨h2, h⟩ := He.ba h
  obtain ⟨h3, h⟩ := He.ba h
  obtain ⟨h4, h5⟩ := He.ba h
  exact ⟨exB_ok h1, He.eqO_ok h2, of_decide_eq_true h3, of_decide_eq_true h4, h5⟩
/-- what reading C.__init__ of an own class finds -/
def initB (x : Str) (K : PySem.W.Frag) : Bool := match PySem.W.findCls K (.ref (He.ga K x)) (.type "type") "__init__" with
  | some (.val (.ref a)) => decide (a = He.ma K (He.ga K x) "__init__")
  | _ => false
theorem initB_ok {x : Str} {K : PySem.W.Frag} (h : initB x K = true) : PySem.W.findCls K (.ref (He.ga K x)) (.type "type") "__init__" = some (.val (.ref (He.ma K (He.ga K x) "__init__"))) := by
  unfold initB at h
  split at h
  · rename_i a e
    rw [e, of_decide_eq_true h]
  · cases h
/-- .. of a built-in one -/
def initT (t : String) (b : String) (K : PySem.W.Frag) : Bool := match PySem.W.findCls K (.type t) (.type "type") "__init__" with
  | some (.val (.builtin a)) => decide (a = b)
  | _ => false
theorem initT_ok {t b : String} {K : PySem.W.Frag} (h : initT t b K = true) : PySem.W.findCls K (.type t) (.type "type") "__init__" = some (.val (.builtin b)) := by
  unfold initT at h
  split at h
  · rename_i a e
    rw [e, of_decide_eq_true h]
  · cases h
/-- C.name may be read -/
def readB (x : Str) (K : PySem.W.Frag) : Bool := PySem.W.readsIn K (He.ga K x) (.type "type") && He.eqO (PySem.W.specialIn K (.ref (He.ga K x)) "__getattribute__") (some (some (.builtin "type.__getattribute__")))
theorem readB_ok {x : Str} {K : PySem.W.Frag} (h : readB x K = true) : PySem.W.readsIn K (He.ga K x) (.type "type") = true ∧ PySem.W.specialIn K (.ref (He.ga K x)) "__getattribute__" = some (some (.builtin "type.__getattribute__")) := ⟨(He.ba h).1, He.eqO_ok (He.ba h).2⟩
/-- the method is a function -/
def fnT (x m : Str) (K : PySem.W.Frag) : Bool := decide (PySem.W.typeIn K (.ref (He.ma K (He.ga K x) m)) = some (.type "function"))
theorem fnT_ok {x m : Str} {K : PySem.W.Frag} (h : fnT x m K = true) : PySem.W.typeIn K (.ref (He.ma K (He.ga K x) m)) = some (.type "function") := of_decide_eq_true h
def xfK (x : Str) (K : PySem.W.Frag) : Bool := xfB K (He.ga K x)
theorem xfK_ok {x : Str} {K : PySem.W.Frag} (h : xfK x K = true) : XfC K (He.ga K x) := xfB_ok h
/-- a def without defaults -/
theorem fun_of {K : PySem.W.Frag} {x q : Str} {st : Stmt} {f : Addr} {fd : FuncData} (F : FunD K x q (defArgs st) (defBody st) (defScope st) [] [] f fd) : Fun K x q st f fd := by
  obtain ⟨oc, od, dV, kV, doc, pm, an, cdv, ct, osl, e, lk, hc, hd, _⟩ := F.ex
  rcases hd with ⟨z, _⟩ | ⟨z, _⟩
  · have ez : dV = .none := by first | exact z | assumption
    subst ez
    exact ⟨⟨oc, od, kV, doc, pm, an, cdv, ct, osl, e, lk, hc⟩, F.kp⟩
  · exact absurd rfl z
/-- the law's own def and its table -/
theorem law_at {K : PySem.W.Frag} {h : Heap} {w : World} {fa : List He.Fa} {fn : List He.DefD} {tf : List He.Defn} {ex : PySem.W.Frag → Bool} {x q : Str} {st : Stmt} {fd : FuncData} (c : He.SaysX fa fn [] tf ex w h K) (F : FunD K x q (defArgs st) (defBody st) (defScope st) [] [] (He.fAd K (x, none)) fd) (ht : ((x, none) : He.Defn) ∈ tf) :
    ∃ (oc : Value) (od : Option Addr) (kV doc pm : Value) (an : Option Addr) (cc Pt : Addr) (ct : Value) (osl : Array (Option Value)), K.lookup (He.ga K x) = some ⟨oc, od, .func (PySem.W.fnOf x q (defArgs st) (defBody st) (defScope st) .none kV doc pm an (.ref cc) ct), osl⟩ ∧ PySem.W.codeIn K (.ref cc) q = true ∧ PySem.W.codeHdIn K cc Pt = true ∧
      h.get? Pt = some { cls := .none, data := .fields #[] } ∧ K.lookup Pt = none := by
  obtain ⟨oc, od, dV, kV, doc, pm, an, cdv, ct, osl, e, lk, hc, hd, _⟩ := F.ex
  obtain ⟨cc, ecc⟩ := He.codeIn_ref hc
  subst ecc
  subst e
  have ec : He.codeOf K (x, none) = cc := He.codeOf_eq lk rfl
  have e1 := c.hd _ ht
  have e2 := c.out _ ht
  have e3 := c.empty _ ht
  unfold He.cT at e1 e2 e3
  rw [ec] at e1 e2 e3
  rcases hd with ⟨z, _⟩ | ⟨z, _⟩
  · have ez : dV = .none := by first | exact z | assumption
    subst ez
    exact ⟨oc, od, kV, doc, pm, an, cc, He.tabOf K cc, ct, osl, lk, hc, e1, e3, e2⟩
  · exact absurd rfl z
end Nv

set_option maxRecDepth 100000
namespace Nv
open PySem PySem.Spec PyProof.Rows L2 LamX NvO
/-! what the head looks at besides: how the class compares, and what isinstance asks of it -/
def ownB (x : Str) (K : PySem.W.Frag) : Bool :=
  decide (PySem.W.findIn K (.ref (He.ga K x)) "__ne__" = some (some (.builtin "object.__ne__"))) && (decide (PySem.W.mroIn K (He.ga K x) (.type "object") = some true) && (decide (PySem.W.findIn K (.ref (He.ga K x)) "__bool__" = some none) &&
  (decide (PySem.W.mroIn K (He.ga K x) (.type "NoneType") = some false) && (decide (PySem.W.mroIn K (He.ga K x) (.type "int") = some false) && (decide (PySem.W.mroIn K (He.ga K x) (.type "str") = some false) && decide (PySem.W.mroIn K (He.ga K x) (.type "tuple") = some false))))))
def isiB (x : Str) (K : PySem.W.Frag) : Bool :=
  decide (PySem.W.findIn K (.ref (He.ga K x)) "__class__" = some (some (.builtin "object.__class__"))) && (decide (PySem.W.specialIn K (.builtin "object.__class__") "__get__" = some (some (.builtin "getset_descriptor.__get__"))) && (decide (PySem.W.takesIn K (.builtin "object.__class__") = some true) &&
  (decide (PySem.W.kitOne K (.type "NoneType") (.ref (He.ga K x)) = some false) && (decide (PySem.W.kitOne K (.type "int") (.ref (He.ga K x)) = some false) && (decide (PySem.W.kitOne K (.type "str") (.ref (He.ga K x)) = some false) && decide (PySem.W.kitOne K (.type "tuple") (.ref (He.ga K x)) = some false))))))
structure OwnL (K : PySem.W.Frag) (C : Addr) : Prop where
  ne : PySem.W.findIn K (.ref C) "__ne__" = some (some (.builtin "object.__ne__"))
  mo : PySem.W.mroIn K C (.type "object") = some true
  nb : PySem.W.findIn K (.ref C) "__bool__" = some none
  nt : NoTy K C
structure IsiL (K : PySem.W.Frag) (C : Addr) : Prop where
  ca : PySem.W.findIn K (.ref C) "__class__" = some (some (.builtin "object.__class__"))
  cn : PySem.W.specialIn K (.builtin "object.__class__") "__get__" = some (some (.builtin "getset_descriptor.__get__"))
  ct : PySem.W.takesIn K (.builtin "object.__class__") = some true
  n : PySem.W.kitOne K (.type "NoneType") (.ref C) = some false
  i : PySem.W.kitOne K (.type "int") (.ref C) = some false
  s : PySem.W.kitOne K (.type "str") (.ref C) = some false
  t : PySem.W.kitOne K (.type "tuple") (.ref C) = some false
theorem ownB_ok {x : Str} {K : PySem.W.Frag} (h : ownB x K = true) : OwnL K (He.ga K x) := by
  obtain ⟨h1, h⟩ := He.ba h
  obtain ⟨h2, h⟩ := He.ba h
  obtain ⟨h3, h⟩ := He.ba h
  obtain ⟨h4, h⟩ := He.ba h
  obtain ⟨h5, h⟩ := He.ba h
  obtain ⟨h6, h7⟩ := He.ba h
  exact ⟨of_decide_eq_true h1, of_decide_eq_true h2, of_decide_eq_true h3, ⟨of_decide_eq_true h4, of_decide_eq_true h5, of_decide_eq_true h6, of_decide_eq_true h7⟩⟩
theorem isiB_ok {x : Str} {K : PySem.W.Frag} (h : isiB x K = true) : IsiL K (He.ga K x) := by
  obtain ⟨h1, h⟩ := He.ba h
  obtain ⟨h2, h⟩ := He.ba h
  obtain ⟨h3, h⟩ := He.ba h
  obtain ⟨h4, h⟩ := He.ba h
  obtain ⟨h5, h⟩ := He.ba h
  obtain ⟨h6, h7⟩ := He.ba h
  exact ⟨of_decide_eq_true h1, of_decide_eq_true h2, of_decide_eq_true h3, of_decide_eq_true h4, of_decide_eq_true h5, of_decide_eq_true h6, of_decide_eq_true h7⟩
end Nv

set_option maxRecDepth 100000
set_option maxHeartbeats 4000000
namespace Nv
open PySem PySem.Spec PyProof.Rows L2 LamX
/-! .. with dicts of the top -/
def obsZ (fa : List He.Fa) (fn : List He.DefD) (ts : List He.Tab) (tf : List He.Defn) (ex : PySem.W.Frag → Bool) (g : Addr → Option Obj) : He.AlX := (He.obsT fa fn ts (frY g), ex (frY g) && He.tabsB g tf (frY g))
theorem saysZ_of {fa : List He.Fa} {fn : List He.DefD} {ts : List He.Tab} {tf : List He.Defn} {ex : PySem.W.Frag → Bool} {w : World} {h : Heap} (e : obsZ fa fn ts tf ex h.get? = He.valX fn ts w) : He.SaysX fa fn ts tf ex w h (frY h.get?) := by
  have e1 : He.obsT fa fn ts (frY h.get?) = He.valT fn ts w := congrArg Prod.fst e
  have e2 : (ex (frY h.get?) && He.tabsB h.get? tf (frY h.get?)) = true := congrArg Prod.snd e
  obtain ⟨h1, h2⟩ := He.ba e2
  have key : ∀ p ∈ tf, PySem.W.codeHdIn (frY h.get?) (He.cT (frY h.get?) p).1 (He.cT (frY h.get?) p).2 = true ∧ ∃ o, h.get? (He.cT (frY h.get?) p).2 = some o ∧ He.emptyTab o = true := by
    intro p hp
    obtain ⟨h3, h4⟩ := He.ba (List.all_eq_true.mp h2 p hp)
    refine ⟨h3, ?_⟩
    cases q : h.get? (He.cT (frY h.get?) p).2 with
    | some o => rw [q] at h4; exact ⟨o, rfl, h4⟩
    | none => rw [q] at h4; cases h4
  refine ⟨e1, h1, fun p hp => (key p hp).1, fun p hp => ?_, fun p hp => ?_⟩
  · obtain ⟨_, o, q, z⟩ := key p hp
    exact He.frT_none q z
  · obtain ⟨_, o, q, z⟩ := key p hp
    rw [q, He.emptyTab_eq z]
def hookZ (fa : List He.Fa) (fn : List He.DefD) (ts : List He.Tab) (tf : List He.Defn) (ex : PySem.W.Frag → Bool) : PySem.W.Hook where
  α := He.AlX
  obs := fun s => obsZ fa fn ts tf ex s.heap.get?
  val := fun w => He.valX fn ts w
  says := fun w h => ∃ K : PySem.W.Frag, K.In h ∧ He.SaysX fa fn ts tf ex w h K
  of := fun w s e => ⟨frY s.heap.get?, He.frT_in, saysZ_of e⟩
  keeps := fun w h h2 ⟨K, hK, c⟩ k => ⟨K, PySem.W.Frag.In.keeps hK k, ⟨c.t, c.more, c.hd, c.out, fun p hp => k _ _ (c.empty p hp)⟩⟩
theorem obsZ_eq {fa : List He.Fa} {fn : List He.DefD} {ts : List He.Tab} {tf : List He.Defn} {ex : PySem.W.Frag → Bool} (s : PySem.W.SharedT) : obsZ fa fn ts tf ex (HandSHeadRun.getT s) = (hookZ fa fn ts tf ex).obs s.abs := by
  have e : HandSHeadRun.getT s = s.abs.heap.get? := funext (HandSHeadRun.getT_eq s)
  rw [e]
  rfl
/-- a dict of the top, by name -/
def tabN (x : Str) (ks : List Str) : He.Tab := (fun K => He.ga K x, ks)
/-- .. and its values -/
def dctB (x : Str) (kvs : List (Str × He.Dv)) (K : PySem.W.Frag) : Bool := He.valsB K (He.ga K x) kvs
theorem kdct {K : PySem.W.Frag} {w : World} {x : Str} {kvs : List (Str × He.Dv)} {es : Array DictEntry} {n : Nat} (D : KDict K w (He.ga K x) es n) (h : dctB x kvs K = true) {k : Str} {v : He.Dv} (hq : (k, v) ∈ kvs) : KDct K w (He.ga K x) k (v.v K) := by
  obtain ⟨u, e, r⟩ := He.valsB_ok h hq
  exact ⟨es, n, u, D.at_, D.lit, e, r⟩
/-- a tuple of the top -/
def tupN (x : Str) (vs : List He.Dv) (K : PySem.W.Frag) : Bool := He.tupB K x vs
end Nv

set_option maxRecDepth 100000
namespace Nv
open PySem PySem.Spec PyProof.Rows L2 LamX NvO
def d0 : He.DefD := ⟨("law", none), "law", "law", defArgs sLaw, defBody sLaw, defScope sLaw, [], []⟩
def d1 : He.DefD := ⟨("common_divisor", none), "common_divisor", "common_divisor", defArgs sGcd, defBody sGcd, defScope sGcd, [], []⟩
def d2 : He.DefD := ⟨("whole_row", none), "whole_row", "whole_row", defArgs sWhr, defBody sWhr, defScope sWhr, [], []⟩
def d3 : He.DefD := ⟨("whole_line", none), "whole_line", "whole_line", defArgs sWhl, defBody sWhl, defScope sWhl, [], []⟩
def d4 : He.DefD := ⟨("whole_of", none), "whole_of", "whole_of", defArgs sWho, defBody sWho, defScope sWho, [], []⟩
def d5 : He.DefD := ⟨("scales_of", none), "scales_of", "scales_of", defArgs sScl, defBody sScl, defScope sScl, [], []⟩
def d6 : He.DefD := ⟨("is_letter", none), "is_letter", "is_letter", defArgs sIsLe, defBody sIsLe, defScope sIsLe, [], []⟩
def d7 : He.DefD := ⟨("need_letters_and_steps", none), "need_letters_and_steps", "need_letters_and_steps", defArgs sNLS, defBody sNLS, defScope sNLS, [], []⟩
def d8 : He.DefD := ⟨("need_lengths", none), "need_lengths", "need_lengths", defArgs sNLn, defBody sNLn, defScope sNLn, [], []⟩
def d9 : He.DefD := ⟨("_law_bag", none), "_law_bag", "_law_bag", defArgs sBag, defBody sBag, defScope sBag, [], []⟩
def d10 : He.DefD := ⟨("_law_pull", none), "_law_pull", "_law_pull", defArgs sPull, defBody sPull, defScope sPull, [], []⟩
def d11 : He.DefD := ⟨("_law_of", none), "_law_of", "_law_of", defArgs sOf, defBody sOf, defScope sOf, [], []⟩
def d12 : He.DefD := ⟨("_law_same", none), "_law_same", "_law_same", defArgs sSame, defBody sSame, defScope sSame, [], []⟩
def d13 : He.DefD := ⟨("_law_gcd", none), "_law_gcd", "_law_gcd", defArgs sLGcd, defBody sLGcd, defScope sLGcd, [], []⟩
def d14 : He.DefD := ⟨("_law_fr", none), "_law_fr", "_law_fr", defArgs sLFr, defBody sLFr, defScope sLFr, [], []⟩
def d15 : He.DefD := ⟨("_law_add", none), "_law_add", "_law_add", defArgs sLAdd, defBody sLAdd, defScope sLAdd, [], []⟩
def d16 : He.DefD := ⟨("_law_light", none), "_law_light", "_law_light", defArgs sLight, defBody sLight, defScope sLight, [], []⟩
def d17 : He.DefD := ⟨("_law_abc", none), "_law_abc", "_law_abc", defArgs sAbc, defBody sAbc, defScope sAbc, [], []⟩
def d18 : He.DefD := ⟨("_law_engine", none), "_law_engine", "_law_engine", defArgs sEng, defBody sEng, defScope sEng, [], []⟩
def d19 : He.DefD := ⟨("_law_builds", none), "_law_builds", "_law_builds", defArgs sBld, defBody sBld, defScope sBld, [], []⟩
def d20 : He.DefD := ⟨("Build", some "__init__"), "__init__", "Build.__init__", defArgs sBIni, defBody sBIni, defScope sBIni, [], []⟩
def d21 : He.DefD := ⟨("Scales", some "__init__"), "__init__", "Scales.__init__", defArgs sCIni, defBody sCIni, defScope sCIni, [], []⟩
def d22 : He.DefD := ⟨("Machine", some "__init__"), "__init__", "Machine.__init__", defArgs sMIni, defBody sMIni, defScope sMIni, [], []⟩
def d23 : He.DefD := ⟨("Machine", some "__eq__"), "__eq__", "Machine.__eq__", defArgs sMEq, defBody sMEq, defScope sMEq, [], []⟩
def d24 : He.DefD := ⟨("Machine", some "__len__"), "__len__", "Machine.__len__", defArgs sMLen, defBody sMLen, defScope sMLen, [], []⟩
def d25 : He.DefD := ⟨("Machine", some "__repr__"), "__repr__", "Machine.__repr__", defArgs sMRep, defBody sMRep, defScope sMRep, [], []⟩
def d26 : He.DefD := ⟨("BadMachine", some "__init__"), "__init__", "BadMachine.__init__", defArgs sBM, defBody sBM, defScope sBM, [], []⟩
def d27 : He.DefD := ⟨("NeverError", some "__init__"), "__init__", "NeverError.__init__", defArgs sNE, defBody sNE, defScope sNE, [.str "NeverError", .str "refused"], []⟩
def hFn0 : List He.DefD := [d0, d1, d2, d3, d4, d5, d6, d7, d8, d9, d10, d11, d12, d13, d14, d15, d16, d17, d18, d19, d20, d21, d22, d23, d24, d25, d26, d27]
def hFn : List He.DefD := hFn0
def hFa0 : List He.Fa := [.glo "law", .glo "common_divisor", .glo "whole_row", .glo "whole_line", .glo "whole_of", .glo "scales_of", .glo "is_letter", .glo "need_letters_and_steps", .glo "need_lengths", .glo "_law_bag", .glo "_law_pull", .glo "_law_of", .glo "_law_same", .glo "_law_gcd", .glo "_law_fr", .glo "_law_add", .glo "_law_light", .glo "_law_abc", .glo "_law_engine", .glo "_law_builds", .meth "Build" "__init__", .meth "Scales" "__init__", .meth "Machine" "__init__", .meth "Machine" "__eq__", .meth "Machine" "__len__", .meth "Machine" "__repr__", .meth "BadMachine" "__init__", .glo "NeverError", .glo "BadMachine", .glo "Build"]
def hFa1 : List He.Fa := [.glo "Scales", .glo "Machine", .free "isinstance", .free "list", .free "tuple", .free "len", .free "all", .free "range", .free "bool", .free "int", .free "str", .free "abs", .noat "BadMachine" "word", .exm "BadMachine" "NeverError" true, .int "MOST_SIGNS" 6, .str "SMALL_LETTERS" "abcdefghijklmnopqrstuvwxyz", .cls "Build", .noat "Build" "order", .noat "Build" "first", .noat "Build" "tables", .noat "Build" "last", .cls "Scales", .noat "Scales" "order", .noat "Scales" "first", .noat "Scales" "tables", .noat "Scales" "last", .cls "Machine", .noat "Machine" "build", .noat "Machine" "scales", .int "LONG" 6000]
def hFa2 : List He.Fa := [.free "ValueError", .mkr "Build", .mkr "Scales", .mkr "Machine", .free "any", .free "set", .free "sorted", .free "dict", .free "repr"]
def hFa : List He.Fa := hFa0 ++ hFa1 ++ hFa2
def hEx0 : List (PySem.W.Frag → Bool) := [ownB "Machine", isiB "Machine", oexB "BadMachine", xfK "BadMachine", fnT "BadMachine" "__init__", readB "NeverError", initB "NeverError", initT "ValueError" "ValueError.__init__"]
def hEx : List (PySem.W.Frag → Bool) := hEx0
def hNm0 : List Str := ["_wall", "NeverError", "ByNought", "BadMachine", "Missing", "NoLetter", "LONG", "SHORT", "nearer", "common_divisor", "share", "plus", "times", "whole_row", "lead_row", "swept_row", "swept", "NOUGHT", "ONE", "sum_of_products", "Build", "letters_of_both", "scaled_row", "product_table", "product_build", "shortened", "Span", "lowered", "whole_line", "whole_of"]
def hNm1 : List Str := ["met", "led", "lowered_line", "Scales", "scales_of", "word_line", "ends_seen", "narrowed", "one_at", "words_reached", "made_up", "least_build", "MOST_SIGNS", "SMALL_LETTERS", "is_letter", "need_letters_and_steps", "need_lengths", "machine_from", "Machine", "_law_bag", "_law_pull", "_law_of", "_law_same", "_law_gcd", "_law_fr", "_law_add", "_law_light", "_law_abc", "_law_engine", "_law_builds"]
def hNm : List Str := hNm0 ++ hNm1
def hTf : List He.Defn := []
def hTb : List He.Tab := []
end Nv

set_option maxRecDepth 100000
namespace Nv
open PySem PySem.Spec PyProof.Rows L2 LamX
abbrev hR : PySem.W.OpenRow := PySem.W.OpenLaw.row PySem.Challenge.rw_nevernought_k50_machines_equal_long_and
abbrev hk : PySem.W.Hook := hookZ hFa hFn hTb hTf (allB hEx)
def hOb (s : PySem.W.SharedT) : He.AlX := obsZ hFa hFn hTb hTf (allB hEx) (HandSHeadRun.getT s)
theorem hOb_eq (s : PySem.W.SharedT) : hOb s = hk.obs s.abs := obsZ_eq s
set_option maxHeartbeats 0 in
theorem hRun (w : World) : HandSHeadRun.RunEq hR (PySem.W.view hR.prog [71]) hk hOb 9500 hNm w := by
  intro os
  kernel_rfl
end Nv

set_option maxRecDepth 100000
set_option maxHeartbeats 16000000
namespace Nv
open PySem PySem.Spec PyProof.Rows L2 NvSet LamX NvO
/-- not e, e a thing whose truth has a rule -/
theorem pe_notR {X : Cx} {a : Expr} {pos : Pos} {ta : TE} {r : V → Hp → (Bool → Hp → Prop) → Prop} (ha : PE X a ta) (hr : TruR X r) : PE X (.UnaryOp .Not a pos) (fun σ H Q => ta σ H fun x H1 => r x H1 fun b H2 => Q (.bl (!b)) H2) := by
  refine ⟨fun pins s σ H Q I h => ?_⟩
  refine UnaryOp_ (thn (ha.run pins s σ H _ I h) fun v s1 ⟨x, H1, I1, r1, q1⟩ => ?_)
  exact not_of (thn (hr pins s1 σ H1 x v (fun c H2 => Q (.bl (!c)) H2) I1 r1 q1) fun c s2 ⟨H2, I2, q2⟩ => ⟨.bl (!c), H2, I2, rfl, q2⟩)
section
variable {P : Program} {w : World} {K : PySem.W.Frag} {mg : Str → Option Value} {base : Heap} {CM CB C : Addr}
theorem ok_law {f fMI fE fL fR : Addr} {fd fdMI fdE fdL fdR : FuncData} (F : Fun K "law" "law" sLaw f fd) (G : Calls P w K mg base CM CB) (B : Blt mg) (md : mg "dict" = none) (mrep : mg "repr" = none)
    (MM : Mk K CM fMI) (GM : FnOk P w K mg base (L2.CX P w) 6 fMI fdMI ["self", "letters", "begin", "steps", "end"] (spMIni C CM CB)) (bM : Binds K fdMI ["self", "letters", "begin", "steps", "end"] []) (gM : mg "Machine" = some (.ref CM))
    (OE : OwnF K CM "__eq__" fE) (FE : FnOk P w K mg base CX0 1 fE fdE ["self", "other"] (spMEq K CM CB)) (bE : Binds K fdE ["self", "other"] []) (hne : PySem.W.findIn K (.ref CM) "__ne__" = some (some (.builtin "object.__ne__"))) (hmo : PySem.W.mroIn K CM (.type "object") = some true) (NT : NoTy K CM)
    (kn : PySem.W.kitOne K (.type "NoneType") (.ref CM) = some false) (ki : PySem.W.kitOne K (.type "int") (.ref CM) = some false) (ks : PySem.W.kitOne K (.type "str") (.ref CM) = some false) (kt : PySem.W.kitOne K (.type "tuple") (.ref CM) = some false)
    (OL : OwnF K CM "__len__" fL) (FL : FnOk P w K mg base CX0 1 fL fdL ["self"] (spMLen CM CB)) (bL : Binds K fdL ["self"] []) (nb : PySem.W.findIn K (.ref CM) "__bool__" = some none)
    (OR : OwnF K CM "__repr__" fR) (FR : FnOk P w K mg base CX0 1 fR fdR ["self"] (spMRep CM CB)) (bR : Binds K fdR ["self"] []) : FnOk P w K mg base CX0 60 f fd ["_law_script"] (spLaw K) := by
  refine F.ok scLaw (fun vs H Q E h => ?_) (fun cdv A outer s H vs Q E hr h => ?_)
  · obtain ⟨a, ns, rfl, _⟩ := h
    rfl
  · obtain ⟨a, ns, rfl, hS, q⟩ := h
    refine ⟨_, pss_cons (ps_set (i := 1) scLaw.nd rfl (by first | exact .inl rfl | exact .inr rfl) (C8.pe_c G.bag hr (by decide) (by rfl) (pa_cons (pv 0) pa_nil)))
      (pss_cons (ps_set (i := 2) scLaw.nd rfl (by first | exact .inl rfl | exact .inr rfl) (C8.pe_c G.abc hr (by decide) (by rfl) (pa_cons (pv 1) (pa_cons (pe_op op_add pe_int (C8.pe_c G.pull hr (by decide) (by rfl) (pa_cons (pv 1) (pa_cons (pe_int) pa_nil)))) pa_nil))))
      (pss_cons (ps_set (i := 3) scLaw.nd rfl (by first | exact .inl rfl | exact .inr rfl) (C8.pe_c G.eng hr (by decide) (by rfl) (pa_cons (pv 1) (pa_cons (pv 2) (pa_cons (pe_int) pa_nil)))))
      (pss_cons (ps_asg (pe_tup (pa_cons (C8.pe_c G.bld hr (by decide) (by rfl) (pa_cons (pv 3) pa_nil)) (pa_cons (pe_make MM GM (hr.mono (by decide)) (by rfl) gM bM .nil passL (pa_cons (pe_revL (pv 2)) (pa_cons (pe_callTy call_tuple_of (by rfl) B.tup (by decide +kernel) (pa_cons (pe_ix (r := rIxT K) ix_tup (pv 3) pe_int (fun _ _ => rfl)) pa_nil)) (pa_cons (pe_callTy (call_dictP rfl) (by rfl) md (by decide +kernel) (pa_cons (pe_lc (own := [("_law_sign", 4)]) (g := gName 4) (tt := tYes) rfl scLaw.nd (pi_list (pe_revL (pv 2))) (blkOk_by (N := nLaw) (sc := defScope sLaw) (by decide +kernel)) (fun _ _ _ _ _ => pg_name (i := 4) scLaw.nd rfl (Or.inl rfl)) (fun _ _ _ _ _ => pts_nil) (fun _ _ _ _ _ => pe_tup (pa_cons (pv 4) (pa_cons (pe_dget (hu_of hr) (pe_ix (r := rIxT K) ix_tup (pv 3) pe_int (fun _ _ => rfl)) (pv 4) (fun _ _ => rfl)) pa_nil)))) pa_nil)) (pa_cons (pe_ix (r := rIxT K) ix_tup (pv 3) pe_int (fun _ _ => rfl)) pa_nil))))) pa_nil))) (pg_tup rfl (pgs_cons (pg_name (i := 5) scLaw.nd rfl (by first | exact .inl rfl | exact .inr rfl)) (pgs_cons (pg_name (i := 6) scLaw.nd rfl (by first | exact .inl rfl | exact .inr rfl)) pgs_nil))))
      (pss_cons (ps_if (PW.pt (pw_or (pt_not (pt_cmpR (op_eqO OE FE (hr.mono (by decide)) bE pass0) (pv 5) (pv 6) (nomark _))) (pw_or (pt_cmpR (op_neO OE hne hmo FE (hr.mono (by decide)) bE pass0) (pv 5) (pv 6) (nomark _)) (pw_or1 (pt_cmpR (op_notInO OE NT FE (hr.mono (by decide)) bE pass0) (pv 5) (pe_lst (pa_cons (pe_non) (pa_cons (pe_int) (pa_cons (pe_callB (call_reprO OR FR (hr.mono (by decide)) bR pass0) (by rfl) mrep (by decide +kernel) (pa_cons (pv 5) pa_nil)) (pa_cons (pv 3) pa_nil))))) (by rfl)))))) (pss_one (ps_ret pe_bl)) (pss_nil))
      (pss_cons (ps_if (pt_not (pt_val (C8.pe_c G.same hr (by decide) (by rfl) (pa_cons (pe_lst (pa_cons (pe_callB (call_lenO OL FL (hr.mono (by decide)) bL pass0) (by rfl) B.len PySem.boot_len (pa_cons (pv 5) pa_nil)) (pa_cons (pe_callB (call_reprO OR FR (hr.mono (by decide)) bR pass0) (by rfl) mrep (by decide +kernel) (pa_cons (pv 5) pa_nil)) (pa_cons (pe_callTy (call_boolO OL nb FL (hr.mono (by decide)) bL pass0) (by rfl) B.bol (by decide +kernel) (pa_cons (pv 5) pa_nil)) pa_nil)))) (pa_cons (pe_lst (pa_cons (pe_callB call_len_seq (by rfl) B.len PySem.boot_len (pa_cons (pe_ix (r := rIxT K) ix_tup (pv 3) pe_int (fun _ _ => rfl)) pa_nil)) (pa_cons (pe_op op_add_str (pe_op op_add_str (pe_op op_add_str (pe_op op_add_str (pe_str) (pe_callTy call_str_int (by rfl) B.str (by decide +kernel) (pa_cons (pe_callB call_len_seq (by rfl) B.len PySem.boot_len (pa_cons (pe_ix (r := rIxT K) ix_tup (pv 3) pe_int (fun _ _ => rfl)) pa_nil)) pa_nil))) (pe_str)) (pe_callTy call_str_int (by rfl) B.str (by decide +kernel) (pa_cons (pe_callB call_len_seq (by rfl) B.len PySem.boot_len (pa_cons (pv 2) pa_nil)) pa_nil))) (pe_str)) (pa_cons (pe_cmpR (op_neD hr.units) (pe_ix (r := rIxT K) ix_tup (pv 3) pe_int (fun _ _ => rfl)) (pe_lst pa_nil) (nomark _)) pa_nil)))) pa_nil))))) (pss_one (ps_ret pe_bl)) (pss_nil))
      (pss_cons (ps_if (pt_cmpR (op_neD hr.units) (pe_ix (r := rIxT K) ix_tup (pv 3) pe_int (fun _ _ => rfl)) (pe_lst pa_nil) (nomark _)) (pss_cons (ps_par (i := 7) (j := 4) (by rfl) scLaw.nd rfl rfl (by decide) rfl rfl (pa_cons (C8.pe_c G.pull hr (by decide) (by rfl) (pa_cons (pv 1) (pa_cons (pe_callB call_len_seq (by rfl) B.len PySem.boot_len (pa_cons (pe_ix (r := rIxT K) ix_tup (pv 3) pe_int (fun _ _ => rfl)) pa_nil)) pa_nil))) (pa_cons (C8.pe_c G.of hr (by decide) (by rfl) (pa_cons (pv 1) (pa_cons (pv 2) pa_nil))) pa_nil)) (by rfl))
      (pss_cons (ps_set (i := 8) scLaw.nd rfl (by first | exact .inl rfl | exact .inr rfl) (pe_callTy (call_dictP rfl) (by rfl) md (by decide +kernel) (pa_cons (pe_lc (own := [("_law_name", 13)]) (g := gName 13) (tt := tYes) rfl scLaw.nd (pi_list (pv 2)) (blkOk_by (N := nLaw) (sc := defScope sLaw) (by decide +kernel)) (fun _ _ _ _ _ => pg_name (i := 13) scLaw.nd rfl (Or.inl rfl)) (fun _ _ _ _ _ => pts_nil) (fun _ _ _ _ _ => pe_tup (pa_cons (pv 13) (pa_cons (pe_lc (own := [("_law_row", 14)]) (g := gName 14) (tt := tYes) rfl scLaw.nd (pi_listK K (pe_dget (hu_of hr) (pe_ix (r := rIxT K) ix_tup (pv 3) pe_int (fun _ _ => rfl)) (pv 13) (fun _ _ => rfl))) (blk_none (blkOk_by (N := nLaw) (sc := defScope sLaw) (by decide +kernel)) (by decide +kernel)) (fun _ _ _ _ _ => pg_name (i := 14) scLaw.nd rfl (Or.inl rfl)) (fun _ _ _ _ _ => pts_nil) (fun _ _ _ _ _ => pe_callTy (r := fun xs H Q => ∃ p ys, xs = [.ref p] ∧ (SqL K H p ys ∨ SqT K H p ys) ∧ ∀ l, H l = none → Q (.ref l) (upd H l (.lst ys))) call_list_of (by rfl) B.lst (by decide +kernel) (pa_cons (pv 14) pa_nil))) pa_nil)))) pa_nil)))
      (pss_cons (ps_asg (C8.pe_c G.add hr (by decide) (by rfl) (pa_cons (pe_ix (r := rIxL K) ix_list (pe_ix (r := rIxL K) ix_list (pe_dget (hu_of hr) (pv 8) (pv 4) (fun _ _ => rfl)) (pv 7) (fun _ _ => rfl)) (pv 7) (fun _ _ => rfl)) (pa_cons (pe_tup (pa_cons (pe_int) (pa_cons (pe_int) pa_nil))) pa_nil))) (pg_sub (pe_ix (r := rIxL K) ix_list (pe_dget (hu_of hr) (pv 8) (pv 4) (fun _ _ => rfl)) (pv 7) (fun _ _ => rfl)) (pv 7) set_list))
      (pss_cons (ps_par (i := 9) (j := 10) (by rfl) scLaw.nd rfl rfl (by decide) rfl rfl (pa_cons (pe_callTy (r := fun xs H Q => ∃ p ys, xs = [.ref p] ∧ (SqL K H p ys ∨ SqT K H p ys) ∧ ∀ l, H l = none → Q (.ref l) (upd H l (.lst ys))) call_list_of (by rfl) B.lst (by decide +kernel) (pa_cons (pe_ix (r := rIxT K) ix_tup (pv 3) pe_int (fun _ _ => rfl)) pa_nil)) (pa_cons (pe_callTy (r := fun xs H Q => ∃ p ys, xs = [.ref p] ∧ (SqL K H p ys ∨ SqT K H p ys) ∧ ∀ l, H l = none → Q (.ref l) (upd H l (.lst ys))) call_list_of (by rfl) B.lst (by decide +kernel) (pa_cons (pe_ix (r := rIxT K) ix_tup (pv 3) pe_int (fun _ _ => rfl)) pa_nil)) pa_nil)) (by rfl))
      (pss_cons (ps_asg (pe_tup (pa_cons (C8.pe_c G.add hr (by decide) (by rfl) (pa_cons (pe_ix (r := rIxL K) ix_list (pv 9) (pv 7) (fun _ _ => rfl)) (pa_cons (pe_tup (pa_cons (pe_int) (pa_cons (pe_int) pa_nil))) pa_nil))) (pa_cons (C8.pe_c G.add hr (by decide) (by rfl) (pa_cons (pe_ix (r := rIxL K) ix_list (pv 10) (pv 7) (fun _ _ => rfl)) (pa_cons (pe_tup (pa_cons (pe_op op_sub pe_int pe_int) (pa_cons (pe_int) pa_nil))) pa_nil))) pa_nil))) (pg_tup rfl (pgs_cons (pg_sub (pv 9) (pv 7) set_list) (pgs_cons (pg_sub (pv 10) (pv 7) set_list) pgs_nil))))
      (pss_cons (ps_set (i := 11) scLaw.nd rfl (by first | exact .inl rfl | exact .inr rfl) (pe_lst (pa_cons (pe_make MM GM (hr.mono (by decide)) (by rfl) gM bM .nil passL (pa_cons (pv 2) (pa_cons (pv 9) (pa_cons (pe_ix (r := rIxT K) ix_tup (pv 3) pe_int (fun _ _ => rfl)) (pa_cons (pe_ix (r := rIxT K) ix_tup (pv 3) pe_int (fun _ _ => rfl)) pa_nil))))) (pa_cons (pe_make MM GM (hr.mono (by decide)) (by rfl) gM bM .nil passL (pa_cons (pv 2) (pa_cons (pe_ix (r := rIxT K) ix_tup (pv 3) pe_int (fun _ _ => rfl)) (pa_cons (pv 8) (pa_cons (pe_ix (r := rIxT K) ix_tup (pv 3) pe_int (fun _ _ => rfl)) pa_nil))))) (pa_cons (pe_make MM GM (hr.mono (by decide)) (by rfl) gM bM .nil passL (pa_cons (pv 2) (pa_cons (pe_ix (r := rIxT K) ix_tup (pv 3) pe_int (fun _ _ => rfl)) (pa_cons (pe_ix (r := rIxT K) ix_tup (pv 3) pe_int (fun _ _ => rfl)) (pa_cons (pv 10) pa_nil))))) pa_nil)))))
      (pss_one (ps_if (PW.pt (pw_or (pt_cmpR (op_neD hr.units) (pe_lc (own := [("_law_other", 6)]) (g := gName 6) (tt := tYes) rfl scLaw.nd (pi_list (pv 11)) (blkOk_by (N := nLaw) (sc := defScope sLaw) (by decide +kernel)) (fun _ _ _ _ _ => pg_name (i := 6) scLaw.nd rfl (Or.inl rfl)) (fun _ _ _ _ _ => pts_nil) (fun _ _ _ _ _ => pe_cmpR (op_eqO OE FE (hr.mono (by decide)) bE pass0) (pv 5) (pv 6) (nomark _))) (pe_op op_rep (pe_lst (pa_cons pe_bl pa_nil)) pe_int) (nomark _)) (pw_or1 (pt_cmpR (op_neD hr.units) (pe_lc (own := [("_law_other", 6)]) (g := gName 6) (tt := tYes) rfl scLaw.nd (pi_list (pv 11)) (blkOk_by (N := nLaw) (sc := defScope sLaw) (by decide +kernel)) (fun _ _ _ _ _ => pg_name (i := 6) scLaw.nd rfl (Or.inl rfl)) (fun _ _ _ _ _ => pts_nil) (fun _ _ _ _ _ => pe_cmpR (op_neO OE hne hmo FE (hr.mono (by decide)) bE pass0) (pv 6) (pv 5) (nomark _))) (pe_op op_rep (pe_lst (pa_cons pe_bl pa_nil)) pe_int) (nomark _))))) (pss_one (ps_ret pe_bl)) (pss_nil))))))))) (pss_nil))
      (pss_cons (ps_set (i := 12) scLaw.nd rfl (by first | exact .inl rfl | exact .inr rfl) (pe_make MM GM (hr.mono (by decide)) (by rfl) gM bM .nil passL (pa_cons (pe_slice sl_list (pv 2) (po_some pe_int) po_none) (pa_cons (pe_ix (r := rIxT K) ix_tup (pv 3) pe_int (fun _ _ => rfl)) (pa_cons (pe_callTy (call_dictP rfl) (by rfl) md (by decide +kernel) (pa_cons (pe_lc (own := [("_law_sign", 4)]) (g := gName 4) (tt := tYes) rfl scLaw.nd (pi_list (pe_slice sl_list (pv 2) (po_some pe_int) po_none)) (blkOk_by (N := nLaw) (sc := defScope sLaw) (by decide +kernel)) (fun _ _ _ _ _ => pg_name (i := 4) scLaw.nd rfl (Or.inl rfl)) (fun _ _ _ _ _ => pts_nil) (fun _ _ _ _ _ => pe_tup (pa_cons (pv 4) (pa_cons (pe_dget (hu_of hr) (pe_ix (r := rIxT K) ix_tup (pv 3) pe_int (fun _ _ => rfl)) (pv 4) (fun _ _ => rfl)) pa_nil)))) pa_nil)) (pa_cons (pe_ix (r := rIxT K) ix_tup (pv 3) pe_int (fun _ _ => rfl)) pa_nil))))))
      (pss_one (ps_ret (pe_and (pe_cmpR (op_neO OE hne hmo FE (hr.mono (by decide)) bE pass0) (pv 5) (pv 12) (nomark _)) (pe_one (pe_notR (pe_make MM GM (hr.mono (by decide)) (by rfl) gM bM .nil passL (pa_cons (pe_lst pa_nil) (pa_cons (pe_lst pa_nil) (pa_cons (pe_dnewK) (pa_cons (pe_lst pa_nil) pa_nil))))) (tru_O OL nb FL (hr.mono (by decide)) bL pass0))))))))))))), ?_⟩
    -- the bag
    refine ⟨_, rfl, a, ns, rfl, hS, fun l b H1 s1 nb1 nl B1 => ?_⟩
    -- the letters
    refine ⟨_, rfl, _, rfl, l, b, 3, rfl, by decide, fit8 (n := 4) (by decide) (by decide), B1, fun m H2 m0 m1 B2 t2 => ⟨1, m, rfl, rfl, ?_⟩⟩
    obtain ⟨m, rfl⟩ := Int.eq_ofNat_of_zero_le m0
    refine ⟨l, b, 1 + m, (by rw [Int.natCast_add]; rfl), by omega, B2, fun sg L H3 lL sm ndL B3 g3 nsg esg => ?_⟩
    obtain ⟨nd, _⟩ := ndL (by omega)
    have nsb := B2.ne nsg
    -- the drawn machine
    refine ⟨_, rfl, _, rfl, l, b, sg, L, 4, rfl, by decide, nsb, esg, by omega, nd, B3, fun tp fa dd la n bb ee T fv lv kvs H6 En eng B6 g6 => ?_⟩
    have esg6 := g6 _ _ nsb esg
    have few := En.few
    have n12 := En.n12
    have lb := En.lb
    have le := En.le
    have lfv : fv.length = n := by rw [Paired.length eng.pf, lb]
    have llv : lv.length = n := by rw [Paired.length eng.pl, le]
    have pkT : ∀ {H' : Hp}, Same H6 H' → Paired (fun (p : Key × V) y => TabN (fun _ => True) H' p.2 (T y)) kvs L := fun s => pimp (fun _ _ z => (z.imp (M := fun _ => True) fun _ _ => trivial).tr (Tr.of s)) eng.pk
    have pfS : ∀ {H' : Hp}, Same H6 H' → Paired (ShV H') fv bb := fun s => pimp (fun _ _ z => z.tk (Same.tk s)) eng.pf
    have plS : ∀ {H' : Hp}, Same H6 H' → Paired (ShV H') lv ee := fun s => pimp (fun _ _ z => z.tk (Same.tk s)) eng.pl
    -- one
    refine ⟨_, rfl, tp, sg, fa, dd, la, L, fv, lv, kvs, lensOf L T, bb, ee, T, rfl, eng.tup, handed_of En.eng nd sm esg6 (.inl eng.hf) eng.pf eng.hl eng.pl eng.hd eng.ks eng.pk, fits_of En.eng nd sm eng.pf eng.pl eng.ks eng.pk, (by rw [lfv]; exact En.eng), eng.pf, eng.pl, (fun y hy => mach_val nd eng.ks (pkT (Same.refl _)) hy), fun x1 L1 H7 pm1 so1 s7 mn1 => ?_⟩
    have ri1 : Rising L1 L := ⟨so1, pm1.nodup_iff.mpr nd, fun y => pm1.mem_iff⟩
    -- the other
    refine ⟨_, rfl, sg, L.map V.str, rfl, SqL.of (s7 _ _ esg6), fun rv nrv => ?_⟩
    rw [← List.map_reverse]
    have s8 := same_new (o := .lst (L.reverse.map V.str)) nrv
    have erv : upd H7 rv (.lst (L.reverse.map V.str)) rv = some (.lst (L.reverse.map V.str)) := upd_same
    generalize upd H7 rv (.lst (L.reverse.map V.str)) = H8 at *
    refine ⟨_, rfl, tp, _, 1, .ref fa, rfl, rfl, SqT.of ((s7.trans s8) _ _ eng.tup), rfl, fa, fv, rfl, .inl ⟨SqL.of ((s7.trans s8) _ _ eng.hf), fun tb ntb => ?_⟩⟩
    have s9 := same_new (o := .tup fv) ntb
    have etb : upd H8 tb (.tup fv) tb = some (.tup fv) := upd_same
    generalize upd H8 tb (.tup fv) = H9 at *
    have s69 := s7.trans (s8.trans s9)
    refine ⟨_, rfl, sg, L.map V.str, rfl, SqL.of (s69 _ _ esg6), fun rw2 nrw2 => ?_⟩
    rw [← List.map_reverse]
    have s10 := same_new (o := .lst (L.reverse.map V.str)) nrw2
    have erw : upd H9 rw2 (.lst (L.reverse.map V.str)) rw2 = some (.lst (L.reverse.map V.str)) := upd_same
    generalize upd H9 rw2 (.lst (L.reverse.map V.str)) = H10 at *
    have s610 := s69.trans s10
    refine ⟨rw2, rfl, ⟨_, SqL.of erw⟩, fun D1 nD1 => ?_⟩
    refine lc_any (walk_list (xs := (L.reverse).map V.str)) (fun i H' => Same H10 H' ∧ ∃ (ps : List Addr) (kk : List (Key × V)), H' D1 = some (.lst (ps.map V.ref)) ∧ ps.length ≤ i ∧ Paired (fun p kv => H' p = some (.tup [_root_.L2.kV kv.1, kv.2])) ps kk ∧ kk.map (·.1) = ((L.reverse).take i).map Sum.inr ∧ Paired (fun (p : Key × V) y => valV kvs (Sum.inr y) = some p.2) kk ((L.reverse).take i)) ⟨same_new nD1, [], [], upd_same, Nat.le_refl _, .nil, rfl, .nil⟩ (fun i H' _ hI => SqL.of (hI.1 _ _ erw)) (fun i v Ha Hb hi hI y => ?_) (fun HE1 hI => ?_)
    · obtain ⟨rfl, ex⟩ := y
      obtain ⟨sa, ps, kk, eD, lp, pp, ek, pk⟩ := hI
      have ex' : ((L.reverse).map V.str)[i]? = some v := ex
      rw [List.getElem?_map] at ex'
      obtain ⟨z, hz, rfl⟩ := Option.map_eq_some_iff.mp ex'
      have mz : z ∈ L := (fun h => List.mem_reverse.mp h) (List.mem_of_getElem? hz)
      obtain ⟨r0, er0, _, _⟩ := eng_val nd eng.ks eng.pk mz
      refine ⟨rfl, yes_if ?_⟩
      have dg : DGet Hb dd (V.str z) (some (V.ref r0)) := by
        have := DGet.k (k := Sum.inr z) (sa _ _ (s610 _ _ eng.hd))
        rw [er0] at this
        exact this
      refine ⟨_, rfl, _, rfl, tp, _, 2, .ref dd, rfl, rfl, SqT.of (sa _ _ (s610 _ _ eng.tup)), rfl, _, rfl, dd, .ref r0, rfl, dg, (by show 2 ≤ sizeLine; decide), fun p np => ?_⟩
      have sp := same_new (o := .tup [.str z, .ref r0]) np
      have ep : upd Hb p (.tup [.str z, .ref r0]) p = some (.tup [.str z, .ref r0]) := upd_same
      generalize upd Hb p (.tup [.str z, .ref r0]) = Hd at *
      have eDd := sp _ _ eD
      have t1 : TupKeep Hd (upd Hd D1 (.lst (ps.map V.ref ++ [.ref p]))) := tk_no eDd (fun _ e => by cases e)
      have hi' : i < (L.reverse).length := by rw [List.length_map] at hi; exact hi
      have lM : (L.reverse).length ≤ 3 := (by rw [List.length_reverse]; exact few)
      refine ⟨_, eDd, small1000 (by rw [List.length_map]; omega), same_upd (sa.trans sp) nD1, ps ++ [p], kk ++ [(Sum.inr z, .ref r0)], by rw [upd_same, List.map_append]; rfl, by rw [List.length_append]; show ps.length + 1 ≤ i + 1; omega, ?_, ?_, ?_⟩
      · exact psnoc (R := fun (p' : Addr) (kv : Key × V) => upd Hd D1 (.lst (ps.map V.ref ++ [.ref p])) p' = some (.tup [_root_.L2.kV kv.1, kv.2])) (y := (Sum.inr z, .ref r0)) (t1 _ _ ep) (pimp (fun _ _ h => t1 _ _ (sp _ _ h)) pp)
      · rw [List.map_append, ek, List.take_add_one, hz, List.map_append]
        rfl
      · rw [List.take_add_one, hz]
        exact psnoc (R := fun (p' : Key × V) y => valV kvs (Sum.inr y) = some p'.2) (x := (Sum.inr z, .ref r0)) er0 pk
    obtain ⟨sE1, ps1, kk1, eD1, _, pp1, ek1, pk1⟩ := hI
    rw [List.length_map, List.take_length] at ek1 pk1
    refine ⟨D1, ps1, kk1, rfl, SqL.of eD1, pimp (fun _ _ h => SqT.of h) pp1, fun dn1 ndn1 => ?_⟩
    rw [mergeN (by rw [ek1]; exact inr_nodup (nodup_rev nd))]
    have sF1 := same_new (o := .dK kk1) ndn1
    have edn1 : upd HE1 dn1 (.dK kk1) dn1 = some (.dK kk1) := upd_same
    generalize upd HE1 dn1 (.dK kk1) = HF1 at *
    have s6F := s610.trans (sE1.trans sF1)
    refine ⟨_, rfl, tp, _, 3, .ref la, rfl, rfl, SqT.of (s6F _ _ eng.tup), rfl, ?_⟩
    have pk1' : Paired (fun (p : Key × V) y => TabN (fun _ => True) HF1 p.2 (T y)) kk1 L.reverse := pimp_mem (fun p y hy h => by
      obtain ⟨v, e, t⟩ := mach_val nd eng.ks (pkT s6F) (List.mem_reverse.mp hy)
      rw [e] at h
      cases h
      exact t) pk1
    have enR : Engine L.reverse n bb ee T := ⟨by rw [List.length_reverse]; exact few, n12, lb, le, En.eng.ltb, En.eng.lte, fun y hy => En.eng.sq y (List.mem_reverse.mp hy)⟩
    intro x2 dx2 nx2 ndx2 ne2
    refine mk_desc nx2 ndx2 ne2 (D := ⟨((s9.trans s10).trans (sE1.trans sF1)) _ _ erv, ⟨fv, lv, kk1, .inr ((s10.trans (sE1.trans sF1)) _ _ etb), pfS s6F, s6F _ _ eng.hl, plS s6F, edn1, ek1, pk1'⟩, enR, nodup_rev nd, fun x hx => sm x (List.mem_reverse.mp hx)⟩) (fun L2 H11 ri2 s11 mn2 => ?_)
    have e12 : L2 = L1 := Rising.eq (xs := L) ⟨ri2.srt, ri2.nd, fun y => (ri2.mem y).trans List.mem_reverse⟩ ri1
    subst e12
    have s611 := s6F.trans s11
    refine ⟨(by show 2 ≤ sizeLine; decide), fun tq ntq => ?_⟩
    have s12 := same_new (o := .tup [.ref x1, .ref x2]) ntq
    have etq : upd H11 tq (.tup [.ref x1, .ref x2]) tq = some (.tup [.ref x1, .ref x2]) := upd_same
    generalize upd H11 tq (.tup [.ref x1, .ref x2]) = H12 at *
    refine ⟨tq, _, rfl, SqT.of etq, rfl, _, _, rfl, _, _, rfl, rfl, ?_⟩
    -- what is known of them
    have s612 := s611.trans s12
    have s712 := (s8.trans (s9.trans s10)).trans ((sE1.trans sF1).trans (s11.trans s12))
    generalize hNs : (fun a : Addr => a ≠ b ∧ ∃ o, H12 a = some o) = Ns
    have toNs : ∀ a, a ≠ b → (∃ o, H12 a = some o) → Ns a := fun a n o => by rw [← hNs]; exact ⟨n, o⟩
    have ofNs : ∀ a, Ns a → a ≠ b ∧ ∃ o, H12 a = some o := fun a h => by rw [← hNs] at h; exact h
    have m1 : MachN Ns CM CB H12 x1 L2 bb ee T := ((mn1.tr (Tr.of s712)).live).imp fun a ⟨na, o, ho, _⟩ => toNs a (B6.ne na) ⟨o, ho⟩
    have m2 : MachN Ns CM CB H12 x2 L2 bb ee T := ((mn2.tr (Tr.of s12)).live).imp fun a ⟨na, o, ho, _⟩ => toNs a (B6.ne (s6F.free na)) ⟨o, ho⟩
    have engN : EngAt Ns H12 tp sg fa dd la L bb ee T fv lv kvs := ((eng.tr (Tr.of s612)).live).imp fun a ⟨na, o, ho, _⟩ => toNs a (B3.ne na) ⟨o, ho⟩
    have sm2 : ∀ z ∈ L2, Small z := fun z hz => sm z ((ri1.mem z).mp hz)
    have nd2 := ri1.nd
    have ll2 : L2.length = L.length := pm1.length_eq
    have B12 := B6.same s612
    obtain ⟨dx1, fs1, hx1⟩ : ∃ dx fs, H12 x1 = some (.ins CM dx fs) := by
      obtain ⟨dx, _, _, _, _, _, _, _, _, _, _, _, h1, _⟩ := id m1
      exact ⟨dx, _, h1⟩
    have hsame : SameM L2 L2 bb bb ee ee T T := ⟨rfl, rfl, fun _ _ => rfl, rfl⟩
    -- they are equal, and nothing else is
    refine ⟨_, rfl, _, rfl, mach_cmp (g := id) m1 m2 sm2 sm2 nd2 ⟨_, rfl, if_f (by rw [decide_eq_true hsame]; rfl) ?_⟩⟩
    refine ⟨_, rfl, _, rfl, mach_cmp (g := (!·)) m1 m2 sm2 sm2 nd2 ⟨_, rfl, if_f (by rw [decide_eq_true hsame]; rfl) ?_⟩⟩
    refine ⟨_, rfl, _, rfl, x1, dx1, fs1, rfl, hx1, Ns, x1, L2, bb, ee, T, rfl, m1, (by omega), (by omega), _, rfl, _, rfl, (by show 4 ≤ sizeLine; decide), fun lo nlo => ?_⟩
    have s13 := same_new (o := .lst [.non, .int 0, .str (repM bb.length L2.length), .ref tp]) nlo
    have elo : upd H12 lo (.lst [.non, .int 0, .str (repM bb.length L2.length), .ref tp]) lo = some (.lst [.non, .int 0, .str (repM bb.length L2.length), .ref tp]) := upd_same
    generalize upd H12 lo (.lst [.non, .int 0, .str (repM bb.length L2.length), .ref tp]) = H13 at *
    have htp13 : SqT K H13 tp [.ref sg, .ref fa, .ref dd, .ref la] := SqT.of (s13 _ _ engN.tup)
    refine ⟨x1, dx1, fs1, lo, _, rfl, rfl, s13 _ _ hx1, elo, fun z hz => ?_, fun z hz => ?_, _, rfl, ?_⟩
    · rcases List.mem_cons.mp hz with e | hz
      · exact .inl e
      rcases List.mem_cons.mp hz with e | hz
      · exact .inr (.inl ⟨_, e⟩)
      rcases List.mem_cons.mp hz with e | hz
      · exact .inr (.inr (.inl ⟨_, e⟩))
      · exact .inr (.inr (.inr ⟨tp, _, List.mem_singleton.mp hz, htp13⟩))
    · rcases List.mem_cons.mp hz with e | hz
      · exact .inr ⟨x1, z, _, rfl, by rw [e]; exact .base .non, kn, rfl, rfl⟩
      rcases List.mem_cons.mp hz with e | hz
      · exact .inr ⟨x1, z, _, rfl, by rw [e]; exact .base (.int 0), ki, rfl, rfl⟩
      rcases List.mem_cons.mp hz with e | hz
      · exact .inr ⟨x1, z, _, rfl, by rw [e]; exact .base (.str _), ks, rfl, rfl⟩
      · exact .inr ⟨x1, z, _, rfl, by rw [List.mem_singleton.mp hz]; exact .base (.tup (s13 _ _ engN.tup)), kt, rfl, rfl⟩
    refine if_f rfl ?_
    -- length, text, truth
    have m1' := m1.tr (Tr.of s13)
    have hx1' := s13 _ _ hx1
    have log12 : ∀ {n : Nat}, n ≤ 12 → ((n : Int)).natAbs.log2 < 1920 := fun {n} h => Nat.lt_of_le_of_lt (Nat.log2_le_self _) (by omega)
    refine ⟨_, rfl, x1, dx1, fs1, rfl, hx1', Ns, x1, L2, bb, ee, T, rfl, m1', _, rfl, by omega, by omega, ?_⟩
    refine ⟨_, rfl, x1, dx1, fs1, rfl, hx1', Ns, x1, L2, bb, ee, T, rfl, m1', (by omega), (by omega), _, rfl, ?_⟩
    refine ⟨_, rfl, x1, dx1, fs1, rfl, hx1', Ns, x1, L2, bb, ee, T, rfl, m1', _, rfl, by omega, by omega, (by show 3 ≤ sizeLine; decide), fun l1 nl1 => ?_⟩
    have s14 := same_new (o := .lst [.int (bb.length : Int), .str (repM bb.length L2.length), .bl ((bb.length : Int) != 0)]) nl1
    have el1 : upd H13 l1 (.lst [.int (bb.length : Int), .str (repM bb.length L2.length), .bl ((bb.length : Int) != 0)]) l1 = some (.lst [.int (bb.length : Int), .str (repM bb.length L2.length), .bl ((bb.length : Int) != 0)]) := upd_same
    generalize upd H13 l1 (.lst [.int (bb.length : Int), .str (repM bb.length L2.length), .bl ((bb.length : Int) != 0)]) = H14 at *
    have s1214 := s13.trans s14
    have eng14 := engN.tr (Tr.of s1214)
    have esg14 := (s612.trans s1214) _ _ esg6
    have fit : ∀ {i : Nat}, i ≤ 500 → i ≤ sizeLine := fun h => Nat.le_trans h (by decide)
    have n12' : fv.length ≤ 12 := by omega
    have k3' : (L.map V.str).length ≤ 3 := by rw [List.length_map]; exact few
    obtain ⟨etx, z1, z2, z3, z4⟩ := rep_texts _ n12' _ k3'
    have len2 : (.inl (SqL.of eng14.hf) : SqL K H14 fa fv ∨ SqT K H14 fa fv) = .inl (SqL.of eng14.hf) := rfl
    refine ⟨_, rfl, tp, _, 1, .ref fa, rfl, rfl, SqT.of eng14.tup, rfl, fa, fv, rfl, .inl (SqL.of eng14.hf), ?_⟩
    refine ⟨_, rfl, tp, _, 1, .ref fa, rfl, rfl, SqT.of eng14.tup, rfl, fa, fv, rfl, .inl (SqL.of eng14.hf), _, rfl, log12 n12', _, _, rfl, rfl, fit z1, _, _, rfl, rfl, fit z2, _, rfl, sg, _, rfl, .inl (SqL.of esg14), _, rfl, log12 (by omega), _, _, rfl, rfl, fit z3, _, _, rfl, rfl, fit z4, ?_⟩
    rw [etx]
    refine ⟨_, rfl, tp, _, 1, .ref fa, rfl, rfl, SqT.of eng14.tup, rfl, (by show 0 ≤ sizeLine; decide), fun e0 ne0 => ?_⟩
    have s15 := same_new (o := .lst []) ne0
    have ee0 : upd H14 e0 (.lst []) e0 = some (.lst []) := upd_same
    generalize upd H14 e0 (.lst []) = H15 at *
    refine ⟨rowD bb, .list [], dp_shs (s15 _ _ eng14.hf) (pimp (fun _ _ z => z.tk (Same.tk s15)) eng14.pf), .lst (SqL.of ee0) .nil, rowD_shaped _, (by decide +kernel), ?_⟩
    rw [rowD_nil]
    refine ⟨(by show 3 ≤ sizeLine; decide), fun l2 nl2 => ?_⟩
    have s16 := same_new (o := .lst [.int (fv.length : Int), .str (repM fv.length (L.map V.str).length), .bl (!decide (bb = []))]) nl2
    have el2 : upd H15 l2 (.lst [.int (fv.length : Int), .str (repM fv.length (L.map V.str).length), .bl (!decide (bb = []))]) l2 = some (.lst [.int (fv.length : Int), .str (repM fv.length (L.map V.str).length), .bl (!decide (bb = []))]) := upd_same
    generalize upd H15 l2 (.lst [.int (fv.length : Int), .str (repM fv.length (L.map V.str).length), .bl (!decide (bb = []))]) = H16 at *
    have b12 : ((bb.length : Int) != 0) = !decide (bb = []) := by
      cases bb with
      | nil => rfl
      | cons x xs =>
        rw [decide_eq_false (by simp)]
        simp
        omega
    have tw : Twin K H16 42 (.ref l1) (.ref l2) := twin_all (n := 41) (.inl ⟨SqL.of ((s15.trans s16) _ _ el1), SqL.of el2⟩) (by show 3 ≤ 1000; decide) (by
      rw [b12, show bb.length = fv.length by omega, show L2.length = (L.map V.str).length by rw [List.length_map, ll2]]
      exact .cons (Twin.one (Scal.int _) _) (.cons (Twin.one (Scal.str _) _) (.cons (Twin.one (Scal.bl _) _) .nil)))
    refine ⟨_, _, rfl, tw, fun H17 s17 => ⟨_, rfl, if_f rfl ?_⟩⟩
    have s1217 := s1214.trans (s15.trans (s16.trans s17))
    -- what stays
    refine keepN (fun σ' H' => (∃ y4 y7 y8 y9 y10 y11 y12 y13 y14, σ' = [some (.ref a), some (.ref b), some (.ref sg), some (.ref tp), y4, some (.ref x1), some (.ref x2), y7, y8, y9, y10, y11, y12, y13, y14]) ∧ MachN Ns CM CB H' x1 L2 bb ee T ∧ EngAt Ns H' tp sg fa dd la L bb ee T fv lv kvs ∧ H' sg = some (.lst (L.map V.str))) (fun σ' H' hM => ?_) (fun go => ?_)
    · -- fewer letters, none at all
      obtain ⟨⟨y4, y7, y8, y9, y10, y11, y12, y13, y14, rfl⟩, mF, engF, esgF⟩ := hM
      have pkF : ∀ {H'' : Hp}, Same H' H'' → Paired (fun (p : Key × V) y => TabN (fun _ => True) H'' p.2 (T y)) kvs L := fun s => pimp (fun _ _ z => (z.imp (M := fun _ => True) fun _ _ => trivial).tr (Tr.of s)) engF.pk
      refine ⟨_, rfl, 1, rfl, sg, _, rfl, SqL.of esgF, fun v1 nv1 => ?_⟩
      rw [cut_one, ← List.map_drop]
      have r1 := same_new (o := .lst ((L.drop 1).map V.str)) nv1
      have ev1 : upd H' v1 (.lst ((L.drop 1).map V.str)) v1 = some (.lst ((L.drop 1).map V.str)) := upd_same
      generalize upd H' v1 (.lst ((L.drop 1).map V.str)) = G1 at *
      refine ⟨_, rfl, tp, _, 1, .ref fa, rfl, rfl, SqT.of (r1 _ _ engF.tup), rfl, ?_⟩
      refine ⟨_, rfl, 1, rfl, sg, _, rfl, SqL.of (r1 _ _ esgF), fun v2 nv2 => ?_⟩
      rw [cut_one, ← List.map_drop]
      have r2 := same_new (o := .lst ((L.drop 1).map V.str)) nv2
      have ev2 : upd G1 v2 (.lst ((L.drop 1).map V.str)) v2 = some (.lst ((L.drop 1).map V.str)) := upd_same
      generalize upd G1 v2 (.lst ((L.drop 1).map V.str)) = G2 at *
      have r02 := r1.trans r2
      refine ⟨v2, rfl, ⟨_, SqL.of ev2⟩, fun D2 nD2 => ?_⟩
      refine lc_any (walk_list (xs := (L.drop 1).map V.str)) (fun i H' => Same G2 H' ∧ ∃ (ps : List Addr) (kk : List (Key × V)), H' D2 = some (.lst (ps.map V.ref)) ∧ ps.length ≤ i ∧ Paired (fun p kv => H' p = some (.tup [_root_.L2.kV kv.1, kv.2])) ps kk ∧ kk.map (·.1) = ((L.drop 1).take i).map Sum.inr ∧ Paired (fun (p : Key × V) y => valV kvs (Sum.inr y) = some p.2) kk ((L.drop 1).take i)) ⟨same_new nD2, [], [], upd_same, Nat.le_refl _, .nil, rfl, .nil⟩ (fun i H' _ hI => SqL.of (hI.1 _ _ ev2)) (fun i v Ha Hb hi hI y => ?_) (fun HE2 hI => ?_)
      · obtain ⟨rfl, ex⟩ := y
        obtain ⟨sa, ps, kk, eD, lp, pp, ek, pk⟩ := hI
        have ex' : ((L.drop 1).map V.str)[i]? = some v := ex
        rw [List.getElem?_map] at ex'
        obtain ⟨z, hz, rfl⟩ := Option.map_eq_some_iff.mp ex'
        have mz : z ∈ L := (fun h => List.mem_of_mem_drop h) (List.mem_of_getElem? hz)
        obtain ⟨r0, er0, _, _⟩ := eng_val nd eng.ks eng.pk mz
        refine ⟨rfl, yes_if ?_⟩
        have dg : DGet Hb dd (V.str z) (some (V.ref r0)) := by
          have := DGet.k (k := Sum.inr z) (sa _ _ (r02 _ _ engF.hd))
          rw [er0] at this
          exact this
        refine ⟨_, rfl, _, rfl, tp, _, 2, .ref dd, rfl, rfl, SqT.of (sa _ _ (r02 _ _ engF.tup)), rfl, _, rfl, dd, .ref r0, rfl, dg, (by show 2 ≤ sizeLine; decide), fun p np => ?_⟩
        have sp := same_new (o := .tup [.str z, .ref r0]) np
        have ep : upd Hb p (.tup [.str z, .ref r0]) p = some (.tup [.str z, .ref r0]) := upd_same
        generalize upd Hb p (.tup [.str z, .ref r0]) = Hd at *
        have eDd := sp _ _ eD
        have t1 : TupKeep Hd (upd Hd D2 (.lst (ps.map V.ref ++ [.ref p]))) := tk_no eDd (fun _ e => by cases e)
        have hi' : i < (L.drop 1).length := by rw [List.length_map] at hi; exact hi
        have lM : (L.drop 1).length ≤ 3 := (by rw [List.length_drop]; omega)
        refine ⟨_, eDd, small1000 (by rw [List.length_map]; omega), same_upd (sa.trans sp) nD2, ps ++ [p], kk ++ [(Sum.inr z, .ref r0)], by rw [upd_same, List.map_append]; rfl, by rw [List.length_append]; show ps.length + 1 ≤ i + 1; omega, ?_, ?_, ?_⟩
        · exact psnoc (R := fun (p' : Addr) (kv : Key × V) => upd Hd D2 (.lst (ps.map V.ref ++ [.ref p])) p' = some (.tup [_root_.L2.kV kv.1, kv.2])) (y := (Sum.inr z, .ref r0)) (t1 _ _ ep) (pimp (fun _ _ h => t1 _ _ (sp _ _ h)) pp)
        · rw [List.map_append, ek, List.take_add_one, hz, List.map_append]
          rfl
        · rw [List.take_add_one, hz]
          exact psnoc (R := fun (p' : Key × V) y => valV kvs (Sum.inr y) = some p'.2) (x := (Sum.inr z, .ref r0)) er0 pk
      obtain ⟨sE2, ps2, kk2, eD2, _, pp2, ek2, pk2⟩ := hI
      rw [List.length_map, List.take_length] at ek2 pk2
      refine ⟨D2, ps2, kk2, rfl, SqL.of eD2, pimp (fun _ _ h => SqT.of h) pp2, fun dn2 ndn2 => ?_⟩
      rw [mergeN (by rw [ek2]; exact inr_nodup (nd.sublist (List.drop_sublist 1 L)))]
      have sF2 := same_new (o := .dK kk2) ndn2
      have edn2 : upd HE2 dn2 (.dK kk2) dn2 = some (.dK kk2) := upd_same
      generalize upd HE2 dn2 (.dK kk2) = HF2 at *
      have r03 := r02.trans (sE2.trans sF2)
      refine ⟨_, rfl, tp, _, 3, .ref la, rfl, rfl, SqT.of (r03 _ _ engF.tup), rfl, ?_⟩
      have pk2' : Paired (fun (p : Key × V) y => TabN (fun _ => True) HF2 p.2 (T y)) kk2 (L.drop 1) := pimp_mem (fun p y hy h => by
        obtain ⟨v, e, t⟩ := mach_val nd engF.ks (pkF r03) (List.mem_of_mem_drop hy)
        rw [e] at h
        cases h
        exact t) pk2
      have enD : Engine (L.drop 1) n bb ee T := ⟨by rw [List.length_drop]; omega, n12, lb, le, En.eng.ltb, En.eng.lte, fun y hy => En.eng.sq y (List.mem_of_mem_drop hy)⟩
      intro x3 dx3 nx3 ndx3 ne3
      refine mk_desc nx3 ndx3 ne3 (D := ⟨(r2.trans (sE2.trans sF2)) _ _ ev1, ⟨fv, lv, kk2, .inl (r03 _ _ engF.hf), pimp (fun _ _ z => z.tk (Same.tk r03)) engF.pf, r03 _ _ engF.hl, pimp (fun _ _ z => z.tk (Same.tk r03)) engF.pl, edn2, ek2, pk2'⟩, enD, nd.sublist (List.drop_sublist 1 L), fun x hx => sm x (List.mem_of_mem_drop hx)⟩) (fun L3 G4 ri3 r4 mn3 => ?_)
      have ne23 : ¬ SameM L2 L3 bb bb ee ee T T := fun z => by
        have e1 := z.l
        have k0 : 0 < L.length := by omega
        have hd0 : L[0] ∉ L.drop 1 := by
          intro hm
          obtain ⟨x, xs, rfl⟩ : ∃ x xs, L = x :: xs := by cases L with | nil => simp at k0 | cons x xs => exact ⟨x, xs, rfl⟩
          exact (List.nodup_cons.mp nd).1 (by simpa using hm)
        exact hd0 ((ri3.mem _).mp (by rw [← e1]; exact (ri1.mem _).mpr (List.getElem_mem k0)))
      have r04 := r03.trans r4
      refine ⟨_, rfl, _, rfl, mach_cmp (g := (!·)) (mF.tr (Tr.of r04)) mn3 sm2 (fun z hz => sm z (List.mem_of_mem_drop ((ri3.mem z).mp hz))) nd2 ⟨_, rfl, if_t (by rw [decide_eq_false ne23]; rfl) ?_⟩⟩
      refine ⟨(by show 0 ≤ sizeLine; decide), fun c1 nc1 => ?_⟩
      have q1 := same_new (o := .lst []) nc1
      have ec1 : upd G4 c1 (.lst []) c1 = some (.lst []) := upd_same
      generalize upd G4 c1 (.lst []) = G5 at *
      refine ⟨(by show 0 ≤ sizeLine; decide), fun c2 nc2 => ?_⟩
      have q2 := same_new (o := .lst []) nc2
      have ec2 : upd G5 c2 (.lst []) c2 = some (.lst []) := upd_same
      generalize upd G5 c2 (.lst []) = G6 at *
      intro c3 nc3
      have q3 := same_new (o := .dK []) nc3
      have ec3 : upd G6 c3 (.dK []) c3 = some (.dK []) := upd_same
      generalize upd G6 c3 (.dK []) = G7 at *
      refine ⟨(by show 0 ≤ sizeLine; decide), fun c4 nc4 => ?_⟩
      have q4 := same_new (o := .lst []) nc4
      have ec4 : upd G7 c4 (.lst []) c4 = some (.lst []) := upd_same
      generalize upd G7 c4 (.lst []) = G8 at *
      intro x4 dx4 nx4 ndx4 ne4
      refine mk_desc nx4 ndx4 ne4 (D := Desc.mk (L := []) (n := 0) (b := []) (e := []) (T := fun _ => []) ((q2.trans (q3.trans q4)) _ _ ec1) ⟨[], [], [], .inl ((q3.trans q4) _ _ ec2), .nil, ec4, .nil, q4 _ _ ec3, rfl, .nil⟩ ⟨by decide, by decide, rfl, rfl, (fun _ h => nomatch h), (fun _ h => nomatch h), (fun _ h => nomatch h)⟩ List.nodup_nil (fun _ h => nomatch h)) (fun L4 G9 ri4 q9 mn4 => ?_)
      obtain ⟨dx, fs, hx4⟩ : ∃ dx fs, G9 x4 = some (.ins CM dx fs) := by
        obtain ⟨dx, _, _, _, _, _, _, _, _, _, _, _, h1, _⟩ := id mn4
        exact ⟨dx, _, h1⟩
      exact ⟨x4, dx, fs, rfl, hx4, _, x4, L4, [], [], _, rfl, mn4, _, rfl, by decide, by decide, q G9⟩
    have eng17 := engN.tr (Tr.of s1217)
    have m17 := m1.tr (Tr.of s1217)
    have esg17 := (s612.trans s1217) _ _ esg6
    have B17 := B12.same s1217
    refine ⟨_, rfl, tp, _, 1, .ref fa, rfl, rfl, SqT.of eng17.tup, rfl, (by show 0 ≤ sizeLine; decide), fun e1 ne1 => ?_⟩
    have s18 := same_new (o := .lst []) ne1
    have ee1 : upd H17 e1 (.lst []) e1 = some (.lst []) := upd_same
    generalize upd H17 e1 (.lst []) = H18 at *
    have eng18 := eng17.tr (Tr.of s18)
    have m18 := m17.tr (Tr.of s18)
    have esg18 := s18 _ _ esg17
    have B18 := B17.same s18
    refine ⟨rowD bb, .list [], dp_shs eng18.hf eng18.pf, .lst (SqL.of ee1) .nil, rowD_shaped _, (by decide +kernel), _, rfl, ?_⟩
    rw [rowD_nil]
    by_cases hb0 : bb = []
    · refine if_f (by rw [decide_eq_true hb0]; rfl) ?_
      exact go _ _ ⟨⟨_, _, _, _, _, _, _, _, _, rfl⟩, m18, eng18, esg18⟩
    refine if_t (by rw [decide_eq_false hb0]; rfl) ?_
    have n0 : 0 < n := by rw [← lb]; exact List.length_pos_iff.mpr hb0
    -- where, and which letter
    refine ⟨_, rfl, _, rfl, tp, _, 1, .ref fa, rfl, rfl, SqT.of eng18.tup, rfl, fa, fv, rfl, .inl (SqL.of eng18.hf), l, b, (fv.length : Int), rfl, by omega, small_fit (by omega), B18, fun r H19 r0 r1 B19 t19 => ?_⟩
    have esg19 := t19.grow _ _ nsb esg18
    refine ⟨_, rfl, _, rfl, l, b, sg, L.map V.str, rfl, nsb, esg19, (by rw [List.length_map]; omega), (by rw [List.length_map]; omega), B19, fun v H20 hv B20 t20 => ?_⟩
    obtain ⟨zs, hzs, rfl⟩ := List.mem_map.mp hv
    obtain ⟨k, rfl⟩ := Int.eq_ofNat_of_zero_le r0
    have hk : k < n := by omega
    refine ⟨_, _, rfl, ?_⟩
    have g20 : Grow b H18 H20 := t19.grow.trans t20.grow
    have tr20 : Tr Ns H18 H20 := bag_tr B18 g20 (fun a na => (ofNs a na).1)
    have eng20 := eng18.tr tr20
    have m20 := m18.tr tr20
    have esg20 := t20.grow _ _ nsb esg19
    have al20 : ∀ a, Ns a → ∃ o, H20 a = some o := fun a na => by
      obtain ⟨nb, o, ho⟩ := ofNs a na
      exact ⟨o, g20 _ _ nb ((s1217.trans s18) _ _ ho)⟩
    -- the steps anew
    refine ⟨_, rfl, sg, rfl, ⟨_, SqL.of esg20⟩, fun D nD => ?_⟩
    refine lc_any (walk_list (xs := L.map V.str)) (fun i H' => Same H20 H' ∧ ∃ (ps : List Addr) (kk : List (Key × V)), H' D = some (.lst (ps.map V.ref)) ∧ ps.length ≤ i ∧ Paired (fun p kv => H' p = some (.tup [_root_.L2.kV kv.1, kv.2])) ps kk ∧ kk.map (·.1) = (L.take i).map Sum.inr ∧ Paired (fun (p : Key × V) y => TabN (fun a => H20 a = none ∧ a ≠ D) H' p.2 (T y)) kk (L.take i)) ⟨same_new nD, [], [], upd_same, Nat.le_refl _, .nil, rfl, .nil⟩ (fun i H' _ hI => SqL.of (hI.1 _ _ esg20)) (fun i v Ha Hb hi hI y => ?_) (fun H21 hI => ?_)
    · obtain ⟨rfl, ex⟩ := y
      obtain ⟨sa, ps, kk, eD, lp, pp, ek, pk⟩ := hI
      have ex' : (L.map V.str)[i]? = some v := ex
      rw [List.getElem?_map] at ex'
      obtain ⟨z, hz, rfl⟩ := Option.map_eq_some_iff.mp ex'
      have mz := List.mem_of_getElem? hz
      obtain ⟨r0, er0, _, r, rs, er1, nr, hr1, hrs⟩ := eng_val nd eng20.ks eng20.pk mz
      obtain rfl : r = r0 := (V.ref.inj er1).symm
      have sq := En.sq z mz
      refine ⟨rfl, yes_if ?_⟩
      have dg : DGet Hb dd (V.str z) (some (V.ref r)) := by
        have := DGet.k (k := Sum.inr z) (sa _ _ eng20.hd)
        rw [er0] at this
        exact this
      refine ⟨_, rfl, _, rfl, tp, _, 2, .ref dd, rfl, rfl, SqT.of (sa _ _ eng20.tup), rfl, _, rfl, dd, .ref r, rfl, dg, r, rfl, ⟨_, SqL.of (sa _ _ hr1)⟩, fun Di nDi => ?_⟩
      refine lc_any (walk_list (xs := rs)) (fun j H' => Same Hb H' ∧ ∃ ys, H' Di = some (.lst ys) ∧ Paired (RowN (fun a => Hb a = none ∧ a ≠ Di) H') ys ((T z).take j)) ⟨same_new nDi, [], upd_same, .nil⟩ (fun j H' _ hI => SqL.of (hI.1 _ _ (sa _ _ hr1))) (fun j v Hc Hd hj hI y => ?_) (fun Hf hI => ?_)
      · obtain ⟨rfl, ey⟩ := y
        obtain ⟨sb, ys, eDi, py⟩ := hI
        obtain ⟨xs, exs, q, ps2, rfl, _, hq1, hps⟩ := _root_.L2.paired_get hrs ey
        refine ⟨rfl, yes_if ?_⟩
        refine ⟨_, rfl, q, ps2, rfl, .inl (SqL.of ((sa.trans sb) _ _ hq1)), fun l2 nl2 => ?_⟩
        have ly := Paired.length py
        have lTz := sq.len
        rw [List.length_take] at ly
        have sl := same_new (o := .lst ps2) nl2
        have neL : l2 ≠ Di := fun e => by rw [e, eDi] at nl2; cases nl2
        have t1 : Tr (fun a => Hb a = none ∧ a ≠ Di) Hd (upd (upd Hd l2 (.lst ps2)) Di (.lst (ys ++ [.ref l2]))) := ⟨fun a o na e => by rw [upd_ne na.2]; exact sl _ _ e, (Same.tk sl).trans (tk_no (sl _ _ eDi) (fun _ e => by cases e))⟩
        have sz : Same Hb (upd (upd Hd l2 (.lst ps2)) Di (.lst (ys ++ [.ref l2]))) := same_upd (sb.trans sl) nDi
        refine ⟨ys, sl _ _ eDi, small1000 (by omega), sz, _, upd_same, ?_⟩
        rw [List.take_add_one, exs]
        exact psnoc ⟨l2, ps2, rfl, ⟨sb.free nl2, neL⟩, by rw [upd_ne neL]; exact upd_same, pimp (fun _ _ z => z.tk (Same.tk (sa.trans sz))) hps⟩ (pimp (fun _ _ z => z.tr t1) py)
      · obtain ⟨sb, ys, eDi, py⟩ := hI
        rw [Paired.length hrs, List.take_length] at py
        refine ⟨(by show 2 ≤ sizeLine; decide), fun p np => ?_⟩
        have sp := same_new (o := .tup [.str z, .ref Di]) np
        have ep : upd Hf p (.tup [.str z, .ref Di]) p = some (.tup [.str z, .ref Di]) := upd_same
        generalize upd Hf p (.tup [.str z, .ref Di]) = Hg at *
        have sbd := sb.trans sp
        have eDd := sbd _ _ eD
        have neDi : Di ≠ D := fun e => by rw [e, eD] at nDi; cases nDi
        have t1 : Tr (fun a => H20 a = none ∧ a ≠ D) Hg (upd Hg D (.lst (ps.map V.ref ++ [.ref p]))) := ⟨fun a o na e => by rw [upd_ne na.2]; exact e, tk_no eDd (fun _ e => by cases e)⟩
        have hi' : i < L.length := by rw [List.length_map] at hi; exact hi
        have tb : TabN (fun a => H20 a = none ∧ a ≠ D) Hg (.ref Di) (T z) := ⟨Di, ys, rfl, ⟨sa.free nDi, neDi⟩, sp _ _ eDi, pimp (fun _ _ h => (RowN.imp (M := fun a => H20 a = none ∧ a ≠ D) (fun a na => ⟨sa.free na.1, fun e => by rw [e, eD] at na; cases na.1⟩) h).tr (Tr.of sp)) py⟩
        refine ⟨_, eDd, small1000 (by rw [List.length_map]; omega), same_upd (sa.trans sbd) nD, ps ++ [p], kk ++ [(Sum.inr z, .ref Di)], by rw [upd_same, List.map_append]; rfl, by rw [List.length_append]; show ps.length + 1 ≤ i + 1; omega, ?_, ?_, ?_⟩
        · exact psnoc (R := fun (p' : Addr) (kv : Key × V) => upd Hg D (.lst (ps.map V.ref ++ [.ref p])) p' = some (.tup [_root_.L2.kV kv.1, kv.2])) (y := (Sum.inr z, .ref Di)) (t1.tup _ _ ep) (pimp (fun _ _ h => t1.tup _ _ (sbd _ _ h)) pp)
        · rw [List.map_append, ek, List.take_add_one, hz, List.map_append]
          rfl
        · rw [List.take_add_one, hz]
          exact psnoc (R := fun (p' : Key × V) y => TabN (fun a => H20 a = none ∧ a ≠ D) (upd Hg D (.lst (ps.map V.ref ++ [.ref p]))) p'.2 (T y)) (x := (Sum.inr z, .ref Di)) (TabN.tr t1 tb) (pimp (fun _ _ h => TabN.tr t1 (TabN.tr (Tr.of sbd) h)) pk)
    obtain ⟨s21, psk, hk2, eDk, _, ppk, ekk, pkk⟩ := hI
    rw [List.length_map, List.take_length] at ekk pkk
    refine ⟨D, psk, hk2, rfl, SqL.of eDk, pimp (fun _ _ h => SqT.of h) ppk, fun hd nhd => ?_⟩
    rw [mergeN (by rw [ekk]; exact inr_nodup nd)]
    have s22 := same_new (o := .dK hk2) nhd
    have ehd : upd H21 hd (.dK hk2) hd = some (.dK hk2) := upd_same
    generalize upd H21 hd (.dK hk2) = H22 at *
    have s2022 := s21.trans s22
    have pk22 : Paired (fun (p : Key × V) y => TabN (fun a => H20 a = none) H22 p.2 (T y)) hk2 L := pimp (fun _ _ h => (TabN.imp (M := fun a => H20 a = none) (fun a na => na.1) h).tr (Tr.of s22)) pkk
    -- one share of it
    obtain ⟨v, evz, tbz⟩ := mach_val nd ekk pk22 hzs
    obtain ⟨rD, rsD, rfl, nrD, hrD, prD⟩ := tbz
    have sqz := En.sq zs hzs
    have lrs : rsD.length = n := by rw [Paired.length prD, sqz.len]
    have ik : k < rsD.length := by omega
    obtain ⟨xsR, exR, rt, ps0, ert, nrt, hrt, hps0⟩ := _root_.L2.paired_get prD (List.getElem?_eq_getElem ik)
    have ert' : rsD[k]? = some (.ref rt) := by rw [List.getElem?_eq_getElem ik, ert]
    have mR := List.mem_of_getElem? exR
    have lps : ps0.length = n := by rw [Paired.length hps0, sqz.wide _ mR]
    have ik2 : k < ps0.length := by omega
    obtain ⟨xk, exk, pk0, epk0, hpk0⟩ := _root_.L2.paired_get hps0 (List.getElem?_eq_getElem ik2)
    have epk0' : ps0[k]? = some (.ref pk0) := by rw [List.getElem?_eq_getElem ik2, epk0]
    have lxk : Li xk := sqz.lt _ mR _ (List.mem_of_getElem? exk)
    have dgz : ∀ {H' : Hp}, Same H22 H' → DGet H' hd (V.str zs) (some (V.ref rD)) := fun s => by
      have := DGet.k (k := Sum.inr zs) (s _ _ ehd)
      rw [evz] at this
      exact this
    refine ⟨_, rfl, _, rfl, hd, .ref rD, rfl, dgz (Same.refl _), _, rfl, rD, rsD, (k : Int), .ref rt, rfl, rfl, SqL.of hrD, atI_nat ert', _, rfl, rt, ps0, (k : Int), .ref pk0, rfl, rfl, SqL.of hrt, atI_nat epk0', (by show 2 ≤ sizeLine; decide), fun o1 no1 => ?_⟩
    have s23 := same_new (o := .tup [.int 1, .int 1]) no1
    have eo1 : upd H22 o1 (.tup [.int 1, .int 1]) o1 = some (.tup [.int 1, .int 1]) := upd_same
    generalize upd H22 o1 (.tup [.int 1, .int 1]) = H23 at *
    refine ⟨pk0, o1, xk, (1, 1), rfl, SqT.of (s23 _ _ hpk0), SqT.of eo1, lxk, .inl rfl, fun pz H24 s24 npz epz => ?_⟩
    have s2224 := s23.trans s24
    have hrt24 := s2224 _ _ hrt
    refine ⟨_, rfl, _, rfl, hd, .ref rD, rfl, dgz s2224, _, rfl, rD, rsD, (k : Int), .ref rt, rfl, rfl, SqL.of (s2224 _ _ hrD), atI_nat ert', _, rfl, rt, ps0, (k : Int), k, rfl, rfl, hrt24, ixN_natq (by omega), ?_⟩
    have lz1 : Lt (pA xk (1, 1)) := pA_lt lxk (.inl rfl)
    have nz1 : pA xk (1, 1) ≠ xk := pA_ne lxk (.inl rfl)
    have hz1 : ShV H24 (.ref pz) (pA xk (1, 1)) := ⟨pz, rfl, epz⟩
    have p00 : ∃ p xs, ps0[0]? = some (.ref p) ∧ H24 p = some (.tup xs) := by
      have h0 : 0 < ps0.length := by omega
      obtain ⟨x0, _, p0, e0, hp0⟩ := _root_.L2.paired_get hps0 (List.getElem?_eq_getElem h0)
      exact ⟨p0, _, by rw [List.getElem?_eq_getElem h0, e0], s2224 _ _ hp0⟩
    have pk24 : Paired (fun (p : Key × V) y => TabN (fun a => H20 a = none) H24 p.2 (T y)) hk2 L := pimp (fun _ _ h => h.tr (Tr.of s2224)) pk22
    obtain ⟨T', pkT', sqT', pokT⟩ := dict_poke hrt24 p00 hz1 lz1 n0 nd ekk pk24 (fun y hy => En.sq y hy) (k := k)
    have neT : T' zs ≠ T zs := fun e => by
      obtain ⟨xs, e1, e2⟩ := (pokT zs hzs _ evz).hit rD rsD k rfl (s2224 _ _ hrD) ert'
      rw [exR] at e1
      cases e1
      rw [e, exR] at e2
      exact set_ne exk nz1 (Option.some.inj e2).symm
    -- what a list that is new here changes: nothing that is known
    have trW : ∀ {H' : Hp} {W : Addr} {xs ys : List V}, H20 W = none → H' W = some (.lst xs) → Tr Ns H' (upd H' W (.lst ys)) := fun nW eW => ⟨fun a o na e => by
      obtain ⟨o', ho'⟩ := al20 a na
      rw [upd_ne (ne_of_none ho' nW)]
      exact e, tk_no eW (fun _ e => by cases e)⟩
    have t2024 : Tr Ns H20 (upd H24 rt (.lst (ps0.set k (.ref pz)))) := (Tr.of (s2022.trans s2224)).trans (trW nrt hrt24)
    have nrtd : hd ≠ rt := fun e => by
      have h1 := s2224 _ _ ehd
      rw [e, hrt24] at h1
      cases h1
    have ehd25 : upd H24 rt (.lst (ps0.set k (.ref pz))) hd = some (.dK hk2) := by rw [upd_ne nrtd]; exact s2224 _ _ ehd
    have nsgrt : sg ≠ rt := ne_of_none esg20 nrt
    have esg25 : upd H24 rt (.lst (ps0.set k (.ref pz))) sg = some (.lst (L.map V.str)) := by rw [upd_ne nsgrt]; exact (s2022.trans s2224) _ _ esg20
    have fr25 : ∀ a, upd H24 rt (.lst (ps0.set k (.ref pz))) a = none → H20 a = none := fun a h => (s2022.trans s2224).free (by
      by_cases e : a = rt
      · rw [e, upd_same] at h; cases h
      · rw [upd_ne e] at h; exact h)
    generalize upd H24 rt (.lst (ps0.set k (.ref pz))) = H25 at *
    have eng25 := eng20.tr t2024
    have m25 := m20.tr t2024
    -- begin and end anew
    refine ⟨_, rfl, tp, _, 1, .ref fa, rfl, rfl, SqT.of eng25.tup, rfl, fa, fv, rfl, .inl (SqL.of eng25.hf), fun bg nbg => ?_⟩
    have s26 := same_new (o := .lst fv) nbg
    have ebg : upd H25 bg (.lst fv) bg = some (.lst fv) := upd_same
    generalize upd H25 bg (.lst fv) = H26 at *
    refine ⟨_, rfl, tp, _, 3, .ref la, rfl, rfl, SqT.of (s26 _ _ eng25.tup), rfl, la, lv, rfl, .inl (SqL.of (s26 _ _ eng25.hl)), fun en nen => ?_⟩
    have s27 := same_new (o := .lst lv) nen
    have een : upd H26 en (.lst lv) en = some (.lst lv) := upd_same
    generalize upd H26 en (.lst lv) = H27 at *
    refine ⟨_, _, rfl, ?_⟩
    have s2527 := s26.trans s27
    have eng27 := eng25.tr (Tr.of s2527)
    have ifv : k < fv.length := by omega
    have ilv : k < lv.length := by omega
    obtain ⟨xb, exb, pb, epb, hpb⟩ := _root_.L2.paired_get eng27.pf (List.getElem?_eq_getElem ifv)
    obtain ⟨xe, exe, pe, epe, hpe⟩ := _root_.L2.paired_get eng27.pl (List.getElem?_eq_getElem ilv)
    have epb' : fv[k]? = some (.ref pb) := by rw [List.getElem?_eq_getElem ifv, epb]
    have epe' : lv[k]? = some (.ref pe) := by rw [List.getElem?_eq_getElem ilv, epe]
    have lxb : Li xb := En.ltb _ (List.mem_of_getElem? exb)
    have lxe : Li xe := En.lte _ (List.mem_of_getElem? exe)
    refine ⟨_, rfl, _, rfl, bg, fv, (k : Int), .ref pb, rfl, rfl, SqL.of (s27 _ _ ebg), atI_nat epb', (by show 2 ≤ sizeLine; decide), fun o2 no2 => ?_⟩
    have s28 := same_new (o := .tup [.int 1, .int 3]) no2
    have eo2 : upd H27 o2 (.tup [.int 1, .int 3]) o2 = some (.tup [.int 1, .int 3]) := upd_same
    generalize upd H27 o2 (.tup [.int 1, .int 3]) = H28 at *
    refine ⟨pb, o2, xb, (1, 3), rfl, SqT.of (s28 _ _ hpb), SqT.of eo2, lxb, .inr (.inl rfl), fun pz1 H29 s29 npz1 epz1 => ?_⟩
    have s2729 := s28.trans s29
    refine ⟨_, rfl, _, rfl, en, lv, (k : Int), .ref pe, rfl, rfl, SqL.of (s2729 _ _ een), atI_nat epe', 0, 1, rfl, rfl, (by show 2 ≤ sizeLine; decide), fun o3 no3 => ?_⟩
    have s30 := same_new (o := .tup [.int (0 - 1), .int 1]) no3
    have eo3 : upd H29 o3 (.tup [.int (0 - 1), .int 1]) o3 = some (.tup [.int (0 - 1), .int 1]) := upd_same
    generalize upd H29 o3 (.tup [.int (0 - 1), .int 1]) = H30 at *
    have eo3' : H30 o3 = some (.tup [.int (-1), .int 1]) := by
      have := eo3
      rwa [show (0 - 1 : Int) = -1 from by decide] at this
    refine ⟨pe, o3, xe, (-1, 1), rfl, SqT.of ((s2729.trans s30) _ _ hpe), SqT.of eo3', lxe, .inr (.inr rfl), fun pz2 H31 s31 npz2 epz2 => ?_⟩
    refine ⟨(by show 2 ≤ sizeLine; decide), fun tt ntt => ?_⟩
    have s32 := same_new (o := .tup [.ref pz1, .ref pz2]) ntt
    have ett : upd H31 tt (.tup [.ref pz1, .ref pz2]) tt = some (.tup [.ref pz1, .ref pz2]) := upd_same
    generalize upd H31 tt (.tup [.ref pz1, .ref pz2]) = H32 at *
    have s2932 := s30.trans (s31.trans s32)
    have s2732 := s2729.trans s2932
    have s2532 := s2527.trans s2732
    have ebg32 := (s27.trans s2732) _ _ ebg
    have een32 := s2732 _ _ een
    have nben : bg ≠ en := fun e => by
      rw [← e] at nen
      rw [ebg] at nen
      cases nen
    refine ⟨tt, _, rfl, SqT.of ett, rfl, _, _, rfl, _, rfl, _, rfl, bg, fv, (k : Int), k, rfl, rfl, ebg32, ixN_natq ifv, _, _, rfl, _, rfl, _, rfl, en, lv, (k : Int), k, rfl, rfl, (by rw [upd_ne (Ne.symm nben)]; exact een32), ixN_natq ilv, rfl, ?_⟩
    have nbg20 : H20 bg = none := fr25 _ nbg
    have nen20 : H20 en = none := fr25 _ (s26.free nen)
    have eng32 := eng25.tr (Tr.of s2532)
    have m32 := m25.tr (Tr.of s2532)
    have tA := trW (ys := fv.set k (.ref pz1)) nbg20 ebg32
    have een33 : upd H32 bg (.lst (fv.set k (.ref pz1))) en = some (.lst lv) := by rw [upd_ne (Ne.symm nben)]; exact een32
    have tB := tA.trans (trW (ys := lv.set k (.ref pz2)) nen20 een33)
    have tkB : TupKeep H32 (upd (upd H32 bg (.lst (fv.set k (.ref pz1)))) en (.lst (lv.set k (.ref pz2)))) := tB.tup
    have ebgZ : upd (upd H32 bg (.lst (fv.set k (.ref pz1)))) en (.lst (lv.set k (.ref pz2))) bg = some (.lst (fv.set k (.ref pz1))) := by rw [upd_ne nben, upd_same]
    have eenZ : upd (upd H32 bg (.lst (fv.set k (.ref pz1)))) en (.lst (lv.set k (.ref pz2))) en = some (.lst (lv.set k (.ref pz2))) := upd_same
    have othZ : ∀ a o, a ≠ bg → a ≠ en → H32 a = some o → upd (upd H32 bg (.lst (fv.set k (.ref pz1)))) en (.lst (lv.set k (.ref pz2))) a = some o := fun a o n1 n2 h => by rw [upd_ne n2, upd_ne n1]; exact h
    have frZ : ∀ a, upd (upd H32 bg (.lst (fv.set k (.ref pz1)))) en (.lst (lv.set k (.ref pz2))) a = none → H25 a = none := fun a h => s2532.free (by
      by_cases e : a = en
      · rw [e, upd_same] at h; cases h
      · rw [upd_ne e] at h
        by_cases e' : a = bg
        · rw [e', upd_same] at h; cases h
        · rw [upd_ne e'] at h; exact h)
    generalize upd (upd H32 bg (.lst (fv.set k (.ref pz1)))) en (.lst (lv.set k (.ref pz2))) = HZ at *
    have engZ := eng32.tr tB
    have mZ := m32.tr tB
    have esgZ : HZ sg = some (.lst (L.map V.str)) := othZ _ _ (ne_of_none esg20 nbg20) (ne_of_none esg20 nen20) (s2532 _ _ esg25)
    have tr25 : Tr (fun a => H25 a ≠ none) H25 HZ := ⟨fun a o na e => othZ _ _ (fun z => na (by rw [z]; exact nbg)) (fun z => na (by rw [z]; exact s26.free nen)) (s2532 _ _ e), (Same.tk s2532).trans tkB⟩
    have ehdZ := tr25.own _ _ (by rw [ehd25]; simp) ehd25
    have pkTZ : Paired (fun (p : Key × V) y => TabN (fun _ => True) HZ p.2 (T' y)) hk2 L := pimp (fun _ _ h => (((h.live).imp (M := fun a => H25 a ≠ none) fun a na => by obtain ⟨_, o, ho, _⟩ := na; rw [ho]; simp).tr tr25).imp fun _ _ => trivial) pkT'
    have pkZ : Paired (fun (p : Key × V) y => TabN (fun _ => True) HZ p.2 (T y)) kvs L := pimp (fun _ _ h => h.imp fun _ _ => trivial) engZ.pk
    have pfZ : Paired (ShV HZ) (fv.set k (.ref pz1)) (bb.set k (pA xb (1, 3))) := pset ⟨pz1, rfl, ((Same.tk s2932).trans tkB) _ _ epz1⟩ k engZ.pf
    have plZ : Paired (ShV HZ) (lv.set k (.ref pz2)) (ee.set k (pA xe (-1, 1))) := pset ⟨pz2, rfl, ((Same.tk s32).trans tkB) _ _ epz2⟩ k engZ.pl
    have set_lt : ∀ {xs : List (Int × Int)} {z : Int × Int}, (∀ x ∈ xs, Lt x) → Lt z → ∀ x ∈ xs.set k z, Lt x := fun h hz x hx => by
      rcases List.mem_or_eq_of_mem_set hx with h1 | h1
      · exact h x h1
      · rw [h1]; exact hz
    have lzb : Lt (pA xb (1, 3)) := pA_lt lxb (.inr (.inl rfl))
    have lze : Lt (pA xe (-1, 1)) := pA_lt lxe (.inr (.inr rfl))
    have nb1 : bb.set k (pA xb (1, 3)) ≠ bb := set_ne exb (pA_ne lxb (.inr (.inl rfl)))
    have ne1 : ee.set k (pA xe (-1, 1)) ≠ ee := set_ne exe (pA_ne lxe (.inr (.inr rfl)))
    -- three machines
    refine ⟨_, rfl, _, rfl, _, rfl, tp, _, 2, .ref dd, rfl, rfl, SqT.of engZ.tup, rfl, _, rfl, tp, _, 3, .ref la, rfl, rfl, SqT.of engZ.tup, rfl, ?_⟩
    intro y1 dy1 ny1 ndy1 neY1
    refine mk_desc ny1 ndy1 neY1 (D := ⟨esgZ, ⟨fv.set k (.ref pz1), lv, kvs, .inl ebgZ, pfZ, engZ.hl, engZ.pl, engZ.hd, engZ.ks, pkZ⟩, ⟨few, n12, by rw [List.length_set]; exact lb, le, set_lt En.eng.ltb lzb, En.eng.lte, En.eng.sq⟩, nd, sm⟩) (fun M1 HA1 rm1 sA1 mm1 => ?_)
    refine ⟨_, rfl, _, rfl, tp, _, 1, .ref fa, rfl, rfl, SqT.of (sA1 _ _ engZ.tup), rfl, _, rfl, _, rfl, tp, _, 3, .ref la, rfl, rfl, SqT.of (sA1 _ _ engZ.tup), rfl, ?_⟩
    intro y2 dy2 ny2 ndy2 neY2
    refine mk_desc ny2 ndy2 neY2 (D := ⟨sA1 _ _ esgZ, ⟨fv, lv, hk2, .inl (sA1 _ _ engZ.hf), pimp (fun _ _ z => z.tk (Same.tk sA1)) engZ.pf, sA1 _ _ engZ.hl, pimp (fun _ _ z => z.tk (Same.tk sA1)) engZ.pl, sA1 _ _ ehdZ, ekk, pimp (fun _ _ z => z.tr (Tr.of sA1)) pkTZ⟩, ⟨few, n12, lb, le, En.eng.ltb, En.eng.lte, sqT'⟩, nd, sm⟩) (fun M2 HA2 rm2 sA2 mm2 => ?_)
    have sA12 := sA1.trans sA2
    refine ⟨_, rfl, _, rfl, tp, _, 1, .ref fa, rfl, rfl, SqT.of (sA12 _ _ engZ.tup), rfl, _, rfl, tp, _, 2, .ref dd, rfl, rfl, SqT.of (sA12 _ _ engZ.tup), rfl, _, rfl, ?_⟩
    intro y3 dy3 ny3 ndy3 neY3
    refine mk_desc ny3 ndy3 neY3 (D := ⟨sA12 _ _ esgZ, ⟨fv, lv.set k (.ref pz2), kvs, .inl (sA12 _ _ engZ.hf), pimp (fun _ _ z => z.tk (Same.tk sA12)) engZ.pf, sA12 _ _ eenZ, pimp (fun _ _ z => z.tk (Same.tk sA12)) plZ, sA12 _ _ engZ.hd, engZ.ks, pimp (fun _ _ z => z.tr (Tr.of sA12)) pkZ⟩, ⟨few, n12, lb, by rw [List.length_set]; exact le, En.eng.ltb, set_lt En.eng.lte lze, En.eng.sq⟩, nd, sm⟩) (fun M3 HA3 rm3 sA3 mm3 => ?_)
    have sA13 := sA12.trans sA3
    refine ⟨(by show 3 ≤ sizeLine; decide), fun bl nbl => ?_⟩
    have s40 := same_new (o := .lst [.ref y1, .ref y2, .ref y3]) nbl
    have ebl : upd HA3 bl (.lst [.ref y1, .ref y2, .ref y3]) bl = some (.lst [.ref y1, .ref y2, .ref y3]) := upd_same
    generalize upd HA3 bl (.lst [.ref y1, .ref y2, .ref y3]) = H40 at *
    have sZ40 := sA13.trans s40
    obtain rfl : M1 = L2 := Rising.eq rm1 ri1
    obtain rfl : M2 = M1 := Rising.eq rm2 ri1
    obtain rfl : M3 = M2 := Rising.eq rm3 ri1
    have m40 := mZ.tr (Tr.of sZ40)
    have eng40 := engZ.tr (Tr.of sZ40)
    have esg40 := sZ40 _ _ esgZ
    have each : ∀ (i : Nat) (v : V), [V.ref y1, V.ref y2, V.ref y3][i]? = some v → ∃ (y : Addr) (N' : Addr → Prop) (b' e' : List (Int × Int)) (T2 : Str → List (List (Int × Int))), v = .ref y ∧ MachN N' CM CB H40 y M3 b' e' T2 ∧ ¬ SameM M3 M3 bb b' ee e' T T2 ∧ ¬ SameM M3 M3 b' bb e' ee T2 T := fun i v h => by
      have hz2 : zs ∈ M3 := (ri1.mem _).mpr hzs
      match i, h with
      | 0, h => cases h; exact ⟨y1, _, _, _, _, rfl, mm1.tr (Tr.of (sA2.trans (sA3.trans s40))), fun z => nb1 z.b.symm, fun z => nb1 z.b⟩
      | 1, h => cases h; exact ⟨y2, _, _, _, _, rfl, mm2.tr (Tr.of (sA3.trans s40)), fun z => neT (z.t zs hz2).symm, fun z => neT (z.t zs hz2)⟩
      | 2, h => cases h; exact ⟨y3, _, _, _, _, rfl, mm3.tr (Tr.of s40), fun z => ne1 z.e.symm, fun z => ne1 z.e⟩
      | i + 3, h => simp at h
    refine ⟨_, rfl, bl, rfl, ⟨_, SqL.of ((Same.refl H40) _ _ ebl)⟩, fun Ka nKa => ?_⟩
    refine lc_any (walk_list (xs := [V.ref y1, V.ref y2, V.ref y3])) (fun i H' => Same H40 H' ∧ H' Ka = some (.lst (List.replicate i (V.bl false)))) ⟨same_new nKa, upd_same⟩ (fun i H' _ hI => SqL.of (((Same.refl H40).trans hI.1) _ _ ebl)) (fun i v Ha Hb hi hI y => ?_) (fun HKa hI => ?_)
    · obtain ⟨rfl, ex⟩ := y
      obtain ⟨sa, eK⟩ := hI
      obtain ⟨yy, N', b', e', T2, rfl, mm, n1, n2⟩ := each i v ex
      have sab := (Same.refl H40).trans sa
      have hi3 : i < 3 := hi
      refine ⟨rfl, yes_if ?_⟩
      refine ⟨_, rfl, _, rfl, mach_cmp (g := id) (m40.tr (Tr.of sab)) (mm.tr (Tr.of sab)) sm2 sm2 nd2 ⟨_, eK, small1000 (by rw [List.length_replicate]; omega), same_upd sa nKa, ?_⟩⟩
      rw [upd_same, decide_eq_false n1, List.replicate_succ']
      rfl
    obtain ⟨sKa, eKa⟩ := hI
    refine ⟨(by show 1 ≤ sizeLine; decide), fun fa nfa => ?_⟩
    have sfa := same_new (o := .lst [V.bl false]) nfa
    have efa : upd HKa fa (.lst [V.bl false]) fa = some (.lst [V.bl false]) := upd_same
    generalize upd HKa fa (.lst [V.bl false]) = HLa at *
    refine ⟨fa, 3, [V.bl false], rfl, rfl, efa, by decide, by decide, (by show 3 ≤ sizeLine; decide), fun ha nha => ?_⟩
    have sha := same_new (o := .lst (List.replicate (3 : Int).toNat [V.bl false]).flatten) nha
    have eha : upd HLa ha (.lst (List.replicate (3 : Int).toNat [V.bl false]).flatten) ha = some (.lst [V.bl false, V.bl false, V.bl false]) := upd_same
    generalize upd HLa ha (.lst (List.replicate (3 : Int).toNat [V.bl false]).flatten) = HMa at *
    refine ⟨.list [.bool false, .bool false, .bool false], .list [.bool false, .bool false, .bool false], .lst (SqL.of ((sfa.trans sha) _ _ eKa)) (.cons (.bl _) (.cons (.bl _) (.cons (.bl _) .nil))), .lst (SqL.of eha) (.cons (.bl _) (.cons (.bl _) (.cons (.bl _) .nil))), (by decide +kernel), (by decide +kernel), _, rfl, if_f (by decide +kernel) ?_⟩
    have sTa := (Same.refl H40).trans (sKa.trans (sfa.trans sha))
    refine ⟨_, rfl, bl, rfl, ⟨_, SqL.of (sTa _ _ ebl)⟩, fun Kb nKb => ?_⟩
    refine lc_any (walk_list (xs := [V.ref y1, V.ref y2, V.ref y3])) (fun i H' => Same HMa H' ∧ H' Kb = some (.lst (List.replicate i (V.bl true)))) ⟨same_new nKb, upd_same⟩ (fun i H' _ hI => SqL.of ((sTa.trans hI.1) _ _ ebl)) (fun i v Ha Hb hi hI y => ?_) (fun HKb hI => ?_)
    · obtain ⟨rfl, ex⟩ := y
      obtain ⟨sa, eK⟩ := hI
      obtain ⟨yy, N', b', e', T2, rfl, mm, n1, n2⟩ := each i v ex
      have sab := sTa.trans sa
      have hi3 : i < 3 := hi
      refine ⟨rfl, yes_if ?_⟩
      refine ⟨_, rfl, _, rfl, mach_cmp (g := (!·)) (mm.tr (Tr.of sab)) (m40.tr (Tr.of sab)) sm2 sm2 nd2 ⟨_, eK, small1000 (by rw [List.length_replicate]; omega), same_upd sa nKb, ?_⟩⟩
      rw [upd_same, decide_eq_false n2, List.replicate_succ']
      rfl
    obtain ⟨sKb, eKb⟩ := hI
    refine ⟨(by show 1 ≤ sizeLine; decide), fun fb nfb => ?_⟩
    have sfb := same_new (o := .lst [V.bl true]) nfb
    have efb : upd HKb fb (.lst [V.bl true]) fb = some (.lst [V.bl true]) := upd_same
    generalize upd HKb fb (.lst [V.bl true]) = HLb at *
    refine ⟨fb, 3, [V.bl true], rfl, rfl, efb, by decide, by decide, (by show 3 ≤ sizeLine; decide), fun hb nhb => ?_⟩
    have shb := same_new (o := .lst (List.replicate (3 : Int).toNat [V.bl true]).flatten) nhb
    have ehb : upd HLb hb (.lst (List.replicate (3 : Int).toNat [V.bl true]).flatten) hb = some (.lst [V.bl true, V.bl true, V.bl true]) := upd_same
    generalize upd HLb hb (.lst (List.replicate (3 : Int).toNat [V.bl true]).flatten) = HMb at *
    refine ⟨.list [.bool true, .bool true, .bool true], .list [.bool true, .bool true, .bool true], .lst (SqL.of ((sfb.trans shb) _ _ eKb)) (.cons (.bl _) (.cons (.bl _) (.cons (.bl _) .nil))), .lst (SqL.of ehb) (.cons (.bl _) (.cons (.bl _) (.cons (.bl _) .nil))), (by decide +kernel), (by decide +kernel), _, rfl, if_f (by decide +kernel) ?_⟩
    have sTb := sTa.trans (sKb.trans (sfb.trans shb))
    exact go _ _ ⟨⟨_, _, _, _, _, _, _, _, _, rfl⟩, m40.tr (Tr.of sTb), eng40.tr (Tr.of sTb), sTb _ _ esg40⟩
end
end Nv

set_option maxRecDepth 100000
set_option maxHeartbeats 4000000
namespace Nv
open PySem PySem.Spec PyProof.Rows L2 LamX NvO
section
variable {P : Program} {w : World} {K : PySem.W.Frag} {mg : Str → Option Value} {base : Heap}
theorem cal {k : Nat} {x : Str} {f : Addr} {fd : FuncData} {ps : List Str} {sp : Sp} (G : FnOk P w K mg base CX0 k f fd ps sp) (hm : mg x = some (.ref f)) (kp : PySem.W.keepIn K (.ref f) = true) (b : Binds K fd ps []) : C8.Cal P w K mg base k x sp [] := ⟨f, fd, ps, [], G, hm, kp, b, .nil⟩
/-- a law without lambdas -/
theorem lawAt {l : PySem.W.OpenLaw} {h : Heap} {f : Addr} {fd : FuncData} (F : Fun K "law" "law" sLaw f fd) (G : ∀ base : Heap, FnOk l.prog w K mg base CX0 60 f fd ["_law_script"] (spLaw K)) : LawAtS l w K CX0 60 63 "_law_script" mg f h := by
  obtain ⟨oc, od, kV, doc, pm, an, cdv, ct, osl, rfl, lk, hc⟩ := F.ex
  exact ⟨_, [], spLaw K, fun p hp => (nomatch hp), fun p hp => (nomatch hp), fun p hp => (nomatch hp), fun s v => .of_eq rfl, fun H a ns hl hb hT hS => ⟨a, ns, rfl, hS, fun _ => rfl⟩, fun base _ _ _ => G base⟩
theorem all_mk {l : PySem.W.OpenLaw} {h : Heap} {fa : Addr} (X : K.In h) (G : h.Ns mainGlobals mg) (hfa : mg "law" = some (.ref fa)) (c : He.SaysX hFa hFn hTb hTf (allB hEx) w h K) : LawAtS l w K CX0 60 63 "_law_script" mg fa h := by
  obtain ⟨fdL0, FL0⟩ := c.t.d.def_ 0 (d := d0) rfl
  replace FL0 : Fun K "law" "law" sLaw (He.ga K "law") fdL0 := fun_of FL0
  have e := hfa.symm.trans (He.glo_ok X G (c.t.d.fact 0 (f := .glo "law") rfl))
  cases e
  obtain ⟨fd0, F0⟩ := c.t.d.def_ 1 (d := d1) rfl
  replace F0 : Fun K "common_divisor" "common_divisor" sGcd (He.ga K "common_divisor") fd0 := fun_of F0
  have g0 := (He.glo_ok X G (c.t.d.fact 1 (f := .glo "common_divisor") rfl))
  have b0 := F0.binds (ps := ["one", "other"]) fun _ _ _ _ _ _ us hl => match us, hl with | [_, _], _ => rfl
  obtain ⟨fd1, F1⟩ := c.t.d.def_ 2 (d := d2) rfl
  replace F1 : Fun K "whole_row" "whole_row" sWhr (He.ga K "whole_row") fd1 := fun_of F1
  have g1 := (He.glo_ok X G (c.t.d.fact 2 (f := .glo "whole_row") rfl))
  have b1 := F1.binds (ps := ["row"]) fun _ _ _ _ _ _ us hl => match us, hl with | [_], _ => rfl
  obtain ⟨fd2, F2⟩ := c.t.d.def_ 3 (d := d3) rfl
  replace F2 : Fun K "whole_line" "whole_line" sWhl (He.ga K "whole_line") fd2 := fun_of F2
  have g2 := (He.glo_ok X G (c.t.d.fact 3 (f := .glo "whole_line") rfl))
  have b2 := F2.binds (ps := ["row"]) fun _ _ _ _ _ _ us hl => match us, hl with | [_], _ => rfl
  obtain ⟨fd3, F3⟩ := c.t.d.def_ 4 (d := d4) rfl
  replace F3 : Fun K "whole_of" "whole_of" sWho (He.ga K "whole_of") fd3 := fun_of F3
  have g3 := (He.glo_ok X G (c.t.d.fact 4 (f := .glo "whole_of") rfl))
  have b3 := F3.binds (ps := ["table"]) fun _ _ _ _ _ _ us hl => match us, hl with | [_], _ => rfl
  obtain ⟨fd4, F4⟩ := c.t.d.def_ 5 (d := d5) rfl
  replace F4 : Fun K "scales_of" "scales_of" sScl (He.ga K "scales_of") fd4 := fun_of F4
  have g4 := (He.glo_ok X G (c.t.d.fact 5 (f := .glo "scales_of") rfl))
  have b4 := F4.binds (ps := ["build"]) fun _ _ _ _ _ _ us hl => match us, hl with | [_], _ => rfl
  obtain ⟨fd5, F5⟩ := c.t.d.def_ 6 (d := d6) rfl
  replace F5 : Fun K "is_letter" "is_letter" sIsLe (He.ga K "is_letter") fd5 := fun_of F5
  have g5 := (He.glo_ok X G (c.t.d.fact 6 (f := .glo "is_letter") rfl))
  have b5 := F5.binds (ps := ["thing"]) fun _ _ _ _ _ _ us hl => match us, hl with | [_], _ => rfl
  obtain ⟨fd6, F6⟩ := c.t.d.def_ 7 (d := d7) rfl
  replace F6 : Fun K "need_letters_and_steps" "need_letters_and_steps" sNLS (He.ga K "need_letters_and_steps") fd6 := fun_of F6
  have g6 := (He.glo_ok X G (c.t.d.fact 7 (f := .glo "need_letters_and_steps") rfl))
  have b6 := F6.binds (ps := ["letters", "steps"]) fun _ _ _ _ _ _ us hl => match us, hl with | [_, _], _ => rfl
  obtain ⟨fd7, F7⟩ := c.t.d.def_ 8 (d := d8) rfl
  replace F7 : Fun K "need_lengths" "need_lengths" sNLn (He.ga K "need_lengths") fd7 := fun_of F7
  have g7 := (He.glo_ok X G (c.t.d.fact 8 (f := .glo "need_lengths") rfl))
  have b7 := F7.binds (ps := ["begin", "steps", "end"]) fun _ _ _ _ _ _ us hl => match us, hl with | [_, _, _], _ => rfl
  obtain ⟨fd8, F8⟩ := c.t.d.def_ 9 (d := d9) rfl
  replace F8 : Fun K "_law_bag" "_law_bag" sBag (He.ga K "_law_bag") fd8 := fun_of F8
  have g8 := (He.glo_ok X G (c.t.d.fact 9 (f := .glo "_law_bag") rfl))
  have b8 := F8.binds (ps := ["_law_script"]) fun _ _ _ _ _ _ us hl => match us, hl with | [_], _ => rfl
  obtain ⟨fd9, F9⟩ := c.t.d.def_ 10 (d := d10) rfl
  replace F9 : Fun K "_law_pull" "_law_pull" sPull (He.ga K "_law_pull") fd9 := fun_of F9
  have g9 := (He.glo_ok X G (c.t.d.fact 10 (f := .glo "_law_pull") rfl))
  have b9 := F9.binds (ps := ["_law_bag_here", "_law_sides"]) fun _ _ _ _ _ _ us hl => match us, hl with | [_, _], _ => rfl
  obtain ⟨fd10, F10⟩ := c.t.d.def_ 11 (d := d11) rfl
  replace F10 : Fun K "_law_of" "_law_of" sOf (He.ga K "_law_of") fd10 := fun_of F10
  have g10 := (He.glo_ok X G (c.t.d.fact 11 (f := .glo "_law_of") rfl))
  have b10 := F10.binds (ps := ["_law_bag_here", "_law_some"]) fun _ _ _ _ _ _ us hl => match us, hl with | [_, _], _ => rfl
  obtain ⟨fd11, F11⟩ := c.t.d.def_ 12 (d := d12) rfl
  replace F11 : Fun K "_law_same" "_law_same" sSame (He.ga K "_law_same") fd11 := fun_of F11
  have g11 := (He.glo_ok X G (c.t.d.fact 12 (f := .glo "_law_same") rfl))
  have b11 := F11.binds (ps := ["_law_found", "_law_due"]) fun _ _ _ _ _ _ us hl => match us, hl with | [_, _], _ => rfl
  obtain ⟨fd12, F12⟩ := c.t.d.def_ 13 (d := d13) rfl
  replace F12 : Fun K "_law_gcd" "_law_gcd" sLGcd (He.ga K "_law_gcd") fd12 := fun_of F12
  have g12 := (He.glo_ok X G (c.t.d.fact 13 (f := .glo "_law_gcd") rfl))
  have b12 := F12.binds (ps := ["_law_one", "_law_other"]) fun _ _ _ _ _ _ us hl => match us, hl with | [_, _], _ => rfl
  obtain ⟨fd13, F13⟩ := c.t.d.def_ 14 (d := d14) rfl
  replace F13 : Fun K "_law_fr" "_law_fr" sLFr (He.ga K "_law_fr") fd13 := fun_of F13
  have g13 := (He.glo_ok X G (c.t.d.fact 14 (f := .glo "_law_fr") rfl))
  have b13 := F13.binds (ps := ["_law_top", "_law_bottom"]) fun _ _ _ _ _ _ us hl => match us, hl with | [_, _], _ => rfl
  obtain ⟨fd14, F14⟩ := c.t.d.def_ 15 (d := d15) rfl
  replace F14 : Fun K "_law_add" "_law_add" sLAdd (He.ga K "_law_add") fd14 := fun_of F14
  have g14 := (He.glo_ok X G (c.t.d.fact 15 (f := .glo "_law_add") rfl))
  have b14 := F14.binds (ps := ["_law_one", "_law_other"]) fun _ _ _ _ _ _ us hl => match us, hl with | [_, _], _ => rfl
  obtain ⟨fd15, F15⟩ := c.t.d.def_ 16 (d := d16) rfl
  replace F15 : Fun K "_law_light" "_law_light" sLight (He.ga K "_law_light") fd15 := fun_of F15
  have g15 := (He.glo_ok X G (c.t.d.fact 16 (f := .glo "_law_light") rfl))
  have b15 := F15.binds (ps := ["_law_bag_here"]) fun _ _ _ _ _ _ us hl => match us, hl with | [_], _ => rfl
  obtain ⟨fd16, F16⟩ := c.t.d.def_ 17 (d := d17) rfl
  replace F16 : Fun K "_law_abc" "_law_abc" sAbc (He.ga K "_law_abc") fd16 := fun_of F16
  have g16 := (He.glo_ok X G (c.t.d.fact 17 (f := .glo "_law_abc") rfl))
  have b16 := F16.binds (ps := ["_law_bag_here", "_law_many"]) fun _ _ _ _ _ _ us hl => match us, hl with | [_, _], _ => rfl
  obtain ⟨fd17, F17⟩ := c.t.d.def_ 18 (d := d18) rfl
  replace F17 : Fun K "_law_engine" "_law_engine" sEng (He.ga K "_law_engine") fd17 := fun_of F17
  have g17 := (He.glo_ok X G (c.t.d.fact 18 (f := .glo "_law_engine") rfl))
  have b17 := F17.binds (ps := ["_law_bag_here", "_law_signs", "_law_cap"]) fun _ _ _ _ _ _ us hl => match us, hl with | [_, _, _], _ => rfl
  obtain ⟨fd18, F18⟩ := c.t.d.def_ 19 (d := d19) rfl
  replace F18 : Fun K "_law_builds" "_law_builds" sBld (He.ga K "_law_builds") fd18 := fun_of F18
  have g18 := (He.glo_ok X G (c.t.d.fact 19 (f := .glo "_law_builds") rfl))
  have b18 := F18.binds (ps := ["_law_m"]) fun _ _ _ _ _ _ us hl => match us, hl with | [_], _ => rfl
  obtain ⟨fdmB, FmB⟩ := c.t.d.def_ 20 (d := d20) rfl
  replace FmB : Fun K "__init__" "Build.__init__" sBIni (He.ma K (He.ga K "Build") "__init__") fdmB := fun_of FmB
  have mB := (He.meth_ok (c.t.d.fact 20 (f := .meth "Build" "__init__") rfl))
  have bmB := FmB.binds (ps := ["self", "order", "first", "tables", "last"]) fun _ _ _ _ _ _ us hl => match us, hl with | [_, _, _, _, _], _ => rfl
  obtain ⟨fdmC, FmC⟩ := c.t.d.def_ 21 (d := d21) rfl
  replace FmC : Fun K "__init__" "Scales.__init__" sCIni (He.ma K (He.ga K "Scales") "__init__") fdmC := fun_of FmC
  have mC := (He.meth_ok (c.t.d.fact 21 (f := .meth "Scales" "__init__") rfl))
  have bmC := FmC.binds (ps := ["self", "order", "first", "tables", "last"]) fun _ _ _ _ _ _ us hl => match us, hl with | [_, _, _, _, _], _ => rfl
  obtain ⟨fdmM, FmM⟩ := c.t.d.def_ 22 (d := d22) rfl
  replace FmM : Fun K "__init__" "Machine.__init__" sMIni (He.ma K (He.ga K "Machine") "__init__") fdmM := fun_of FmM
  have mM := (He.meth_ok (c.t.d.fact 22 (f := .meth "Machine" "__init__") rfl))
  have bmM := FmM.binds (ps := ["self", "letters", "begin", "steps", "end"]) fun _ _ _ _ _ _ us hl => match us, hl with | [_, _, _, _, _], _ => rfl
  obtain ⟨fdmE, FmE⟩ := c.t.d.def_ 23 (d := d23) rfl
  replace FmE : Fun K "__eq__" "Machine.__eq__" sMEq (He.ma K (He.ga K "Machine") "__eq__") fdmE := fun_of FmE
  have mE := (He.meth_ok (c.t.d.fact 23 (f := .meth "Machine" "__eq__") rfl))
  have bmE := FmE.binds (ps := ["self", "other"]) fun _ _ _ _ _ _ us hl => match us, hl with | [_, _], _ => rfl
  obtain ⟨fdmL, FmL⟩ := c.t.d.def_ 24 (d := d24) rfl
  replace FmL : Fun K "__len__" "Machine.__len__" sMLen (He.ma K (He.ga K "Machine") "__len__") fdmL := fun_of FmL
  have mL := (He.meth_ok (c.t.d.fact 24 (f := .meth "Machine" "__len__") rfl))
  have bmL := FmL.binds (ps := ["self"]) fun _ _ _ _ _ _ us hl => match us, hl with | [_], _ => rfl
  obtain ⟨fdmR, FmR⟩ := c.t.d.def_ 25 (d := d25) rfl
  replace FmR : Fun K "__repr__" "Machine.__repr__" sMRep (He.ma K (He.ga K "Machine") "__repr__") fdmR := fun_of FmR
  have mR := (He.meth_ok (c.t.d.fact 25 (f := .meth "Machine" "__repr__") rfl))
  have bmR := FmR.binds (ps := ["self"]) fun _ _ _ _ _ _ us hl => match us, hl with | [_], _ => rfl
  obtain ⟨fdmI, FmI⟩ := c.t.d.def_ 26 (d := d26) rfl
  replace FmI : Fun K "__init__" "BadMachine.__init__" sBM (He.ma K (He.ga K "BadMachine") "__init__") fdmI := fun_of FmI
  have mI := (He.meth_ok (c.t.d.fact 26 (f := .meth "BadMachine" "__init__") rfl))
  have bmI := FmI.binds (ps := ["self"]) fun _ _ _ _ _ _ us hl => match us, hl with | [_], _ => rfl
  obtain ⟨fdN, FN⟩ := c.t.d.def_ 27 (d := d27) rfl
  replace FN : FunD K "__init__" "NeverError.__init__" (defArgs sNE) (defBody sNE) (defScope sNE) [.str "NeverError", .str "refused"] [] (He.ma K (He.ga K "NeverError") "__init__") fdN := FN
  obtain ⟨dsN, vN, bN⟩ := FN.binds1 (ps := ["self", "word", "message"]) 3 2 (by simp) rfl fun T kV doc pm an cdv ct us its hu hi => match us, hu, its, hi with
    | [_, _, _], _, [_, _], _ => ⟨_, rfl, rfl⟩
  cases vN
  have NCN := (He.glo_ok X G (c.t.d.fact 27 (f := .glo "NeverError") rfl))
  have NC := (He.glo_ok X G (c.t.d.fact 28 (f := .glo "BadMachine") rfl))
  have NCB := (He.glo_ok X G (c.t.d.fact 29 (f := .glo "Build") rfl))
  have NCS := (He.glo_ok X G (c.t.d.fact 30 (f := .glo "Scales") rfl))
  have NCM := (He.glo_ok X G (c.t.d.fact 31 (f := .glo "Machine") rfl))
  have T : Blt mg := ⟨(He.free_ok X G (c.t.d.fact 32 (f := .free "isinstance") rfl)), (He.free_ok X G (c.t.d.fact 33 (f := .free "list") rfl)), (He.free_ok X G (c.t.d.fact 34 (f := .free "tuple") rfl)), (He.free_ok X G (c.t.d.fact 35 (f := .free "len") rfl)), (He.free_ok X G (c.t.d.fact 36 (f := .free "all") rfl)), (He.free_ok X G (c.t.d.fact 37 (f := .free "range") rfl)), (He.free_ok X G (c.t.d.fact 38 (f := .free "bool") rfl)), (He.free_ok X G (c.t.d.fact 39 (f := .free "int") rfl)), (He.free_ok X G (c.t.d.fact 40 (f := .free "str") rfl)), (He.free_ok X G (c.t.d.fact 41 (f := .free "abs") rfl))⟩
  have R : ErrB K mg (He.ga K "NeverError") (He.ga K "BadMachine") (He.ma K (He.ga K "NeverError") "__init__") (He.ma K (He.ga K "BadMachine") "__init__") := { oex := (oexB_ok (allB_at c.more 2 (f := oexB "BadMachine") rfl)), xf := (xfK_ok (allB_at c.more 3 (f := xfK "BadMachine") rfl)), word := (He.noat_ok (c.t.d.fact 42 (f := .noat "BadMachine" "word") rfl)), gC := NC, gN := NCN, iC := mI.at_, tI := (fnT_ok (allB_at c.more 4 (f := fnT "BadMachine" "__init__") rfl)), rd := ⟨(readB_ok (allB_at c.more 5 (f := readB "NeverError") rfl)).1, (readB_ok (allB_at c.more 5 (f := readB "NeverError") rfl)).2⟩, cv := ⟨(initB_ok (allB_at c.more 6 (f := initB "NeverError") rfl)), rfl⟩, kp := FN.kp, hit := (He.exm_ok (c.t.d.fact 43 (f := .exm "BadMachine" "NeverError" true) rfl)) }
  have Co : ConstM mg := { signs := (He.int_ok X G (c.t.d.fact 44 (f := .int "MOST_SIGNS" 6) rfl)), small := (He.str_ok X G (c.t.d.fact 45 (f := .str "SMALL_LETTERS" "abcdefghijklmnopqrstuvwxyz") rfl)) }
  have TB : Cls4 K (He.ga K "Build") := ⟨(He.cls_ok (c.t.d.fact 46 (f := .cls "Build") rfl)), (He.noat_ok (c.t.d.fact 47 (f := .noat "Build" "order") rfl)), (He.noat_ok (c.t.d.fact 48 (f := .noat "Build" "first") rfl)), (He.noat_ok (c.t.d.fact 49 (f := .noat "Build" "tables") rfl)), (He.noat_ok (c.t.d.fact 50 (f := .noat "Build" "last") rfl))⟩
  have TS : Cls4 K (He.ga K "Scales") := ⟨(He.cls_ok (c.t.d.fact 51 (f := .cls "Scales") rfl)), (He.noat_ok (c.t.d.fact 52 (f := .noat "Scales" "order") rfl)), (He.noat_ok (c.t.d.fact 53 (f := .noat "Scales" "first") rfl)), (He.noat_ok (c.t.d.fact 54 (f := .noat "Scales" "tables") rfl)), (He.noat_ok (c.t.d.fact 55 (f := .noat "Scales" "last") rfl))⟩
  have TM : ClsM K (He.ga K "Machine") := ⟨(He.cls_ok (c.t.d.fact 56 (f := .cls "Machine") rfl)), (He.noat_ok (c.t.d.fact 57 (f := .noat "Machine" "build") rfl)), (He.noat_ok (c.t.d.fact 58 (f := .noat "Machine" "scales") rfl))⟩
  have M0 := (He.int_ok X G (c.t.d.fact 59 (f := .int "LONG" 6000) rfl))
  have OW := ownB_ok (allB_at c.more 0 (f := ownB "Machine") rfl)
  have IS := isiB_ok (allB_at c.more 1 (f := isiB "Machine") rfl)
  refine lawAt FL0 (fun base => ?_)
  have GN : FnOk l.prog w K mg base CX0 1 (He.ma K (He.ga K "NeverError") "__init__") _ _ _ := ok_NE (k := 0) FN (He.free_ok X G (c.t.d.fact 60 (f := .free "ValueError") rfl)) (initT_ok (allB_at c.more 7 (f := initT "ValueError" "ValueError.__init__") rfl))
  have GI := ok_BM FmI R GN bN
  have cLG := cal (ok_law_gcd (P := l.prog) (w := w) (base := base) (k := 0) F12 T.abs) g12 F12.kp b12
  have cG := cal (ok_gcd (P := l.prog) (w := w) (base := base) (k := 0) F0 T.abs M0) g0 F0.kp b0
  have cP := cal (ok_pull (P := l.prog) (w := w) (base := base) (k := 0) F9 T.len) g9 F9.kp b9
  have cF := cal (ok_law_fr F13 cLG) g13 F13.kp b13
  have cLi := cal (ok_lightL F15 cF cP) g15 F15.kp b15
  have cO := cal (ok_of F10 cP T.len) g10 F10.kp b10
  have cLe := cal (ok_isLe (P := l.prog) (w := w) (base := base) (k := 0) F5 T Co) g5 F5.kp b5
  have cWr := cal (ok_whr F1 cG) g1 F1.kp b1
  have cWl := cal (ok_whl F2 cWr) g2 F2.kp b2
  have cWo := cal (ok_who F3 T cWl) g3 F3.kp b3
  have MB : Mk K (He.ga K "Build") (He.ma K (He.ga K "Build") "__init__") := (He.mkr_ok (c.t.d.fact 61 (f := .mkr "Build") rfl))
  have MC : Mk K (He.ga K "Scales") (He.ma K (He.ga K "Scales") "__init__") := (He.mkr_ok (c.t.d.fact 62 (f := .mkr "Scales") rfl))
  have MM : Mk K (He.ga K "Machine") (He.ma K (He.ga K "Machine") "__init__") := (He.mkr_ok (c.t.d.fact 63 (f := .mkr "Machine") rfl))
  have GB := ok_bini (P := l.prog) (w := w) (mg := mg) (base := base) (k := 0) FmB TB
  have GC := ok_cini (P := l.prog) (w := w) (mg := mg) (base := base) (k := 0) FmC TS
  have cSc := cal (ok_scl F4 TB MC GC bmC NCS cWl cWo) g4 F4.kp b4
  have cNS : CalX l.prog w K mg base 4 "need_letters_and_steps" (spNLS K (He.ga K "BadMachine")) [] := ⟨_, _, _, _, ok_nls F6 T (He.free_ok X G (c.t.d.fact 64 (f := .free "any") rfl)) (He.free_ok X G (c.t.d.fact 65 (f := .free "set") rfl)) R GI bmI cLe, g6, F6.kp, b6, .nil⟩
  have cNL : CalX l.prog w K mg base 4 "need_lengths" (spNLn K (He.ga K "BadMachine")) [] := ⟨_, _, _, _, ok_nln F7 T (He.free_ok X G (c.t.d.fact 64 (f := .free "any") rfl)) R GI bmI, g7, F7.kp, b7, .nil⟩
  have GM := ok_mini FmM T (He.free_ok X G (c.t.d.fact 66 (f := .free "sorted") rfl)) TM TB MB GB bmB NCB cNS cNL cSc
  have GE := ok_meq (P := l.prog) (w := w) (base := base) (k := 0) FmE T TM TB ⟨IS.ca, IS.cn, IS.ct, OW.mo⟩ NCM
  have GL := ok_mlen (P := l.prog) (w := w) (mg := mg) (base := base) (k := 0) FmL T TM TB
  have GR := ok_mrep (P := l.prog) (w := w) (mg := mg) (base := base) (k := 0) FmR T TM TB
  exact ok_law FL0 {
    bag := cal (ok_bag (k := 0) F8 T.lst) g8 F8.kp b8
    pull := cP
    of := cO
    abc := cal (ok_abc F16 T.len T.rng cP cO) g16 F16.kp b16
    eng := cal (ok_eng F17 T cLi cP) g17 F17.kp b17
    bld := cal (ok_bld F18 MM GM bmM NCM) g18 F18.kp b18
    add := cal (ok_ladd F14 cF) g14 F14.kp b14
    same := cal (ok_same F11 g11 b11 T 42) g11 F11.kp b11 } T (He.free_ok X G (c.t.d.fact 67 (f := .free "dict") rfl)) (He.free_ok X G (c.t.d.fact 68 (f := .free "repr") rfl)) MM GM bmM NCM
    ⟨mE.at_, mE.fn⟩ GE bmE OW.ne OW.mo OW.nt IS.n IS.i IS.s IS.t ⟨mL.at_, mL.fn⟩ GL bmL OW.nb ⟨mR.at_, mR.fn⟩ GR bmR
end
end Nv

open PySem PySem.W PySem.Calls PyProof.Rows
set_option maxRecDepth 100000 in
set_option maxHeartbeats 0 in
theorem PySem.Challenge.cw_nevernought_k50_machines_equal_long_and_holds : PySem.Challenge.rw_nevernought_k50_machines_equal_long_and.Holds := by
  w_on; o_law
  refine HandSHeadRun.head_any (r := (OpenLaw.row PySem.Challenge.rw_nevernought_k50_machines_equal_long_and)) (q := view (OpenLaw.row PySem.Challenge.rw_nevernought_k50_machines_equal_long_and).prog [71]) (H := Nv.hk) (ob := Nv.hOb) (M := 9500) (loose := Nv.hNm) (d := HandSHeadRun.topDef (OpenLaw.row PySem.Challenge.rw_nevernought_k50_machines_equal_long_and).prog 71) (kwd := []) Nv.hOb_eq
    (by kernel_rfl) (fun s => by kernel_rfl) Nv.hRun (by kernel_rfl) (by kernel_rfl) (by kernel_rfl) (by rfl) (by first | assumption | decide +kernel) (by decide +kernel) ⟨rfl, rfl, rfl, rfl, rfl, by decide +kernel⟩ ?hw ?hc
  case hw => w_witness2
  case hc =>
    refine LamX.walk_ofTsE (l := PySem.Challenge.rw_nevernought_k50_machines_equal_long_and) (n := 63) (k := 60) (x := "_law_script") (CX := fun _ => L2.CX0) rfl (by decide) (by kernel_rfl) ⟨rfl, by decide, by decide⟩ ?F (fun _ _ _ _ _ z => z)
    intro w mg fa h Y G hmg0
    obtain ⟨K, KX, c⟩ := Y
    have hmg : mg ("law" : PySem.Str) = some (.ref fa) := by
      have e : (HandSHeadRun.topDef (OpenLaw.row PySem.Challenge.rw_nevernought_k50_machines_equal_long_and).prog 71).name = ("law" : PySem.Str) := by kernel_rfl
      rw [← e]
      exact hmg0
    exact ⟨K, KX, Nv.all_mk KX G hmg c⟩

