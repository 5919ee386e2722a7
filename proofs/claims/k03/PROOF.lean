import PyProof.Rows.All
import Wide.All
import OpenK.AllK
import Wide.FinOn
import HandS.ForMost
import HandS.ForExc
import HandS.ExcInit
import HandS.ExcField
import HandS.TryMany
import HandS.ClsMeth
import HandS.Lambda
import HandS.IsInst
import HandS.Wide
import HandS.Flow
import HandS.Defaults
import HandS.Codes
import HandS.EndTab
import HandS.NoneIn
import HandS.FStr
import HandS.Iter
import HandS.Walk
import PySem.Challenge.RW_nevernought_k03_tables_and_what_is_none
set_option Elab.async false
set_option linter.all false
/-! Whole numbers: the greatest common divisor and fractions in lowest terms. -/
namespace Nv
theorem gcd_step (a b : Int) : Int.gcd b (a.fmod b) = Int.gcd a b := by
  rw [Int.fmod_def, Int.mul_comm, Int.gcd_sub_mul_right_right, Int.gcd_comm]
theorem fmod_small (a : Int) {b : Int} (hb : b ≠ 0) : (a.fmod b).natAbs < b.natAbs := by
  have h1 := Int.emod_nonneg a hb
  have h2 := Int.emod_lt a hb
  rw [Int.fmod_eq_emod]
  split
  · omega
  · rename_i h
    have hn : ¬ b ∣ a := fun d => h (.inr d)
    have hz : a % b ≠ 0 := fun z => hn (Int.dvd_of_emod_eq_zero z)
    omega
theorem gcd_zero (a : Int) : (if a < 0 then -a else a) = ((Int.gcd a 0 : Nat) : Int) := by
  rw [Int.gcd_zero_right]
  split <;> omega
/-- what both numbers are divided by -/
def per (t b : Int) : Int := if b < 0 then -((Int.gcd t b : Nat) : Int) else ((Int.gcd t b : Nat) : Int)
def frT (t b : Int) : Int := t.fdiv (per t b)
def frB (t b : Int) : Int := b.fdiv (per t b)
theorem gcd_pos (t : Int) {b : Int} (hb : b ≠ 0) : 0 < Int.gcd t b := Int.gcd_pos_of_ne_zero_right t hb
theorem per_ne (t : Int) {b : Int} (hb : b ≠ 0) : per t b ≠ 0 := by
  have := gcd_pos t hb
  unfold per
  split <;> omega
theorem per_le (t : Int) {b : Int} (hb : b ≠ 0) : (per t b).natAbs ≤ b.natAbs := by
  have := Int.gcd_le_natAbs_right t hb
  unfold per
  split <;> omega
theorem per_dvd_l (t b : Int) : per t b ∣ t := by
  unfold per
  split
  · exact Int.neg_dvd.mpr (Int.gcd_dvd_left t b)
  · exact Int.gcd_dvd_left t b
theorem per_dvd_r (t b : Int) : per t b ∣ b := by
  unfold per
  split
  · exact Int.neg_dvd.mpr (Int.gcd_dvd_right t b)
  · exact Int.gcd_dvd_right t b
theorem fdiv_mul {x d : Int} (h : d ∣ x) : x.fdiv d * d = x := by
  rw [Int.fdiv_eq_ediv_of_dvd h]
  exact Int.ediv_mul_cancel h
theorem abs_le_of_mul {q d x : Int} (hd : d ≠ 0) (e : q * d = x) : q.natAbs ≤ x.natAbs := by
  rw [← e, Int.natAbs_mul]
  exact Nat.le_mul_of_pos_right _ (by omega)
theorem frT_le (t : Int) {b : Int} (hb : b ≠ 0) : (frT t b).natAbs ≤ t.natAbs := abs_le_of_mul (per_ne t hb) (fdiv_mul (per_dvd_l t b))
theorem frB_le (t : Int) {b : Int} (hb : b ≠ 0) : (frB t b).natAbs ≤ b.natAbs := abs_le_of_mul (per_ne t hb) (fdiv_mul (per_dvd_r t b))
theorem frB_pos (t : Int) {b : Int} (hb : b ≠ 0) : 0 < frB t b := by
  have e : frB t b * per t b = b := fdiv_mul (per_dvd_r t b)
  have hp := per_ne t hb
  have hg := gcd_pos t hb
  rcases Int.lt_or_lt_of_ne hb with h | h
  · have hn : per t b < 0 := by unfold per; rw [if_pos h]; omega
    rcases Int.lt_trichotomy (frB t b) 0 with q | q | q
    · have := Int.mul_pos_of_neg_of_neg q hn
      omega
    · rw [q, Int.zero_mul] at e
      omega
    · exact q
  · have hn : 0 < per t b := by unfold per; rw [if_neg (by omega)]; omega
    rcases Int.lt_trichotomy (frB t b) 0 with q | q | q
    · have := Int.mul_neg_of_neg_of_pos q hn
      omega
    · rw [q, Int.zero_mul] at e
      omega
    · exact q
theorem per_one (t : Int) : per t 1 = 1 := by
  unfold per
  rw [if_neg (by omega), Int.gcd_one_right]
  rfl
theorem frT_one (t : Int) : frT t 1 = t := by
  unfold frT
  rw [per_one, Int.fdiv_one]
theorem frB_one (t : Int) : frB t 1 = 1 := by
  unfold frB
  rw [per_one, Int.fdiv_one]
end Nv

set_option maxRecDepth 100000
set_option maxHeartbeats 4000000
/-! Rules that the layer lacks: great divisors of either sign, an own exception made without arguments, a def read off an own class and called, several except clauses with names. -/
namespace Nv
open PySem PySem.Spec PyProof.Rows L2
section
variable {X : Cx}
def DivOk (_ j : Int) : Prop := j ≠ 0 ∧ j.natAbs < 2 ^ 8000
theorem op_div : OpR X (binaryOp .FloorDiv) (rI DivOk fun i j => .int (i.fdiv j)) :=
  opI fun _ _ _ _ _ _ _ hc q => floordiv_int hc.1 q (.inl (PyProof.noPylong_of_log2 (Nat.lt_trans (PySem.Flt.log2_lt_of (by decide) hc.2) (by decide))))
/-- C.m(a, ..): the class at C holds the def g under m -/
theorem pe_clsdef {CX : CXT} {k : Nat} {C g : Addr} {mc : Value} {fd : FuncData} {ps : List Str} {sp : Sp} {ds : List Value} {dvs : List V} {E : XK} {o e : Expr} {es : List Expr} {m : Str} {pos apos : Pos} {ta : TE} {t : TA} {pl : Sem Bool}
    (ho : PE X o ta) (rd : ClX.CRead X.K C mc) (cv : ClX.CVal X.K C mc m (.ref g) (.ref g)) (kp : PySem.W.keepIn X.K (.ref g) = true)
    (G : FnOk X.prog X.w X.K X.mg X.base CX k g fd ps sp) (hr : Room k X.A) (hb : Binds X.K fd ps ds) (hd : Vals dvs ds) (hx : Passes CX X E) (ha : PA X (e :: es) t)
    (hst : starEach (e :: es) X.env = (false, eval e X.env) :: starEach es X.env := by rfl) (hpl : (backTo pos (starEach es X.env)).any (·.1) = false := by rfl)
    (ht : eval (.Call (.Attribute o m apos) (e :: es) [] pos) X.env = (do
      let cv ← eval o X.env
      standAt apos.atName
      let (fn, before) ← holding [cv] (getMethod cv m pl)
      callWith pos fn before (backTo pos (starEach (e :: es) X.env)) (backToKw pos (keywordEach [] X.env))) := by rfl) :
    PE X (.Call (.Attribute o m apos) (e :: es) [] pos) (fun σ H Q => ta σ H fun x H1 => x = .ref C ∧ t σ H1 fun vs H2 => sp (vs ++ dvs) H2 Q E) := by
  refine ⟨fun pins s σ H Q I h => ?_⟩
  refine PySem.W.methodCall_KW (pl := pl) (thn (ho.run pins s σ H _ I h) fun u s1 hh => ?_) ht
  obtain ⟨x, H1, I1, rx, ex, q⟩ := hh
  subst ex
  obtain rfl : u = Value.ref C := rx
  refine PySem.W.method_cls I1.kIn rd.ga (ClX.getcval_ok I1 rd cv fun s2 I2 => ?_)
  refine PySem.W.callWith_K (first := []) (h₀ := X.base) I.ok.mod.kin kp (thn (ha.run pos pins s2 σ H1 _ I2 q) fun us s3 hh => ?_) hst hpl
  obtain ⟨vs, H2, I3, rv, q2⟩ := hh
  exact ⟨I3.kIn, run_fn G hr hb hd hx I3 rv q2⟩
/-- C(), an own exception whose __init__ is a def -/
theorem pmk_bare {CX : CXT} {x : Str} {C g : Addr} {k : Nat} {fd : FuncData} {ps : List Str} {sp : Sp} {p pos : Pos} (T : OexC X.K C) (hi : PySem.W.findIn X.K (.ref C) "__init__" = some (some (.ref g)))
    (hti : PySem.W.typeIn X.K (.ref g) = some (.type "function")) (G : FnOk X.prog X.w X.K X.mg X.base CX k g fd ps sp) (hr : Room (k + 1) X.A) (hb : Binds X.K fd ps []) (hx : Passes CX X (fun _ _ _ => False))
    (hg : Gl X x) (hm : X.mg x = some (.ref C)) (hdb : (x == ("__debug__" : Str)) = false := by decide) : PMk X (.Call (.Name x p) [] [] pos) (tMkO C sp [] tNil) := by
  intro pins s σ H Q I h
  obtain ⟨nm, qn, N, bs, bm, sn, sub, ab, col, dd, a0, a1, a2, a3, a5, hC, hbm⟩ := T.cls
  refine wpAny_Call_Name_kw (ld_glob I hg hm ?_ hdb)
  refine PySem.W.callWith_K0 I.kIn T.kC ?_
  obtain ⟨hp, gs, dr, tk, os⟩ := s
  have up : hp.objs.size ≤ hp.objs.size + 1 := Nat.le_succ _
  have fresh : H (hp.objs.size + 1) = none := I.hok.fresh up
  have said := h.2 (hp.objs.size + 1) fresh
  have keep : ∀ b o, hp.get? b = some o → ((hp.push (PySem.W.kdv_tup [])).push (PySem.HandSPX.excO C hp.objs.size)).get? b = some o :=
    fun b o z => Heap.get?_push_of_some _ (Heap.get?_push_of_some _ z)
  have here : ((hp.push (PySem.W.kdv_tup [])).push (PySem.HandSPX.excO C hp.objs.size)).get? (hp.objs.size + 1) = some (PySem.HandSPX.excO C hp.objs.size) := by heap_get
  have I2 := I.laid (t' := tk) (a := hp.objs.size + 1) (o := exo (hp.objs.size + 1) C none) (h' := (hp.push (PySem.W.kdv_tup [])).push (PySem.HandSPX.excO C hp.objs.size)) keep up (exo_ok here)
  have one : Vals [V.ref (hp.objs.size + 1)] [Value.ref (hp.objs.size + 1)] := .cons rfl .nil
  have many : [Value.ref (hp.objs.size + 1)].length = ps.length := by
    have z := G.len _ _ _ _ said
    exact z
  have run := G.run (X.A.under (.builtin "type.__call__" ⟨[.ref C], []⟩)) X.stack _ _ ⟨[Value.ref (hp.objs.size + 1)], []⟩ [Value.ref (hp.objs.size + 1)] _ _ (fun _ _ _ => False) (hr.make C [] []) (I2.env0.make C [] [])
    (by have z := hb _ [Value.ref (hp.objs.size + 1)] I2.kIn many; exact z) one said
  refine wpAny_call (PySem.HandSPX.call_own F.excBase_ValueError (fun Y => PySem.HandSPX.refsVE_contains Y bm hbm) (I.kIn _ _ hC) (PySem.W.looks_findIn I.kIn hi) (fun self => PySem.W.bind_fn I.kIn self hti) (Nat.zero_le _)
    (codeAny_mono run fun r s' hq => ?_))
  cases r with
  | error er => exact hx pins σ _ _ er s' I2 hq
  | ok fl =>
    cases fl with
    | ret u =>
      obtain ⟨v, H2, os2, bare2, un2, hok2, rv, ev, d, fs, ea, ed, hd1, q2⟩ := hq
      subst ev
      obtain ⟨h2, g2, d2, t2, os'⟩ := s'
      exact ⟨rv, mk_end (raises_own T.exC T.tyC) I up keep un2 hok2 os2 bare2 ea ed hd1 q2⟩
    | next => exact False.elim hq
    | brk => exact False.elim hq
    | cont => exact False.elim hq
end
end Nv

set_option maxRecDepth 100000
set_option maxHeartbeats 4000000
namespace Nv
open PySem PySem.Spec PyProof.Rows L2
/-! Several except clauses, each with a name for what is caught (slot i), for one class or for two in a tuple; nothing leaves the last one that is told of. -/
abbrev Clause := List Value × Nat × (Addr → Value → Option Addr → TS)
def gone (i : Nat) (D : Ends) : Ends := { nx := fun σ H => D.nx (σ.set i none) H, rt := D.rt, bk := fun σ H => D.bk (σ.set i none) H, ct := fun σ H => D.ct (σ.set i none) H }
/-- whether one of the classes is told to match -/
def Hits (K : PySem.W.Frag) (cls : Value) : List Value → Bool → Prop
  | [c], b => PySem.W.exmOne K cls c = some b
  | cs, b => PySem.W.exmAny K cls cs = some b
def wNamed (K : PySem.W.Frag) (D : Ends) : List Clause → WX
  | [] => fun _ _ _ _ => False
  | (cs, i, ts) :: r => fun cls d σ H => ∃ b, Hits K cls cs b ∧ (b = true → ∀ a, H a = none → ts a cls d (gone i D) (σ.set i (some (.ref a))) H) ∧ (b = false → wNamed K D r cls d σ H)
def Suite (X : Cx) (ts : Addr → Value → Option Addr → TS) (sts : List Stmt) : Prop :=
  ∀ (a : Addr) (oe : Obj) (cls : Value) (d : Option Addr) (pn : List (Addr × Obj)), Zc cls d oe → (∃ vs, oe.data = .fields vs) → PSs (X.suite a ((a, oe) :: pn)) sts (ts a cls d)
inductive Named (X : Cx) : List ExceptHandler → List Clause → Prop
  | stop {hds : List ExceptHandler} : Named X hds []
  | one {x n : Str} {c : Value} {i : Nat} {ts : Addr → Value → Option Addr → TS} {st : Stmt} {sts : List Stmt} {q1 q2 : Pos} {hds : List ExceptHandler} {cl : List Clause} (hi : X.N[i]? = some n) (hl : X.env.kindOf n = some .local) (hc : Names X x c)
      (su : Suite X ts (st :: sts)) (r : Named X hds cl) : Named X (.ExceptHandler (some (.Name x q1)) (some n) (st :: sts) q2 :: hds) (([c], i, ts) :: cl)
  | two {x y n : Str} {c e : Addr} {i kt : Nat} {ts : Addr → Value → Option Addr → TS} {st : Stmt} {sts : List Stmt} {q1 q2 q3 qt : Pos} {hds : List ExceptHandler} {cl : List Clause} (hi : X.N[i]? = some n) (hl : X.env.kindOf n = some .local)
      (gx : Gl X x) (dx : (x == ("__debug__" : Str)) = false) (hx : X.mg x = some (.ref c)) (gy : Gl X y) (dy : (y == ("__debug__" : Str)) = false) (hy : X.mg y = some (.ref e))
      (su : Suite X ts (st :: sts)) (r : Named X hds cl) : Named X (.ExceptHandler (some (.Tuple [.Name x q1, .Name y q3] kt qt)) (some n) (st :: sts) q2 :: hds) (([.ref c, .ref e], i, ts) :: cl)
section
variable {X : Cx} {body : List Stmt} {hd : ExceptHandler} {hds : List ExceptHandler} {cl : List Clause} {pos : Pos} {tb : WX → TS}
theorem fly_keep {B h h' : Heap} {l : List Env} {a : Addr} {Z : Obj → Prop} (k : ∀ b o, h.get? b = some o → h'.get? b = some o) (fl : HandSPX.FlyingZ B l a Z h) : HandSPX.FlyingZ B l a Z h' := by
  obtain ⟨f1, f2, f3, oe, vs, T, oT, ts, g1, g2, g3, g4, g5, g6, g7, g8, g9⟩ := fl
  exact ⟨fun b o e => k b o (f1 b o e), f2, Heap.FunFrames.of_keeps (fun b o e _ => ⟨o, k b o e, rfl⟩) f3, oe, vs, T, oT, ts, k _ _ g1, g2, g3, g4, g5, g6, k _ _ g7, g8, g9⟩
/-- what stands when an exception has come down to the clauses -/
structure Down (X : Cx) (pins : List (Addr × Obj)) (σ : L2.St) (H : Hp) (a : Addr) (cls : Value) (d : Option Addr) (s : Shared) : Prop where
  free : H a = none
  loc : a ≠ X.env.locals
  frm : a ∉ X.fs
  fly : ∃ (B : Heap) (sI : Shared), Inv X pins σ H sI ∧ (∀ b o, sI.heap.get? b = some o → b ∉ frs X.stack → B.get? b = some o) ∧ sI.heap.UpToSlots s.heap ∧ HandSPX.FlyingZ B (X.env :: X.outer) a (Zc cls d) s.heap ∧ s.os = sI.os ∧ AllBare s.gens
theorem Down.keep {pins : List (Addr × Obj)} {σ : L2.St} {H : Hp} {a : Addr} {cls : Value} {d : Option Addr} {s : Shared} {h' : Heap} (Z : Down X pins σ H a cls d s) (k : ∀ b o, s.heap.get? b = some o → h'.get? b = some o) : Down X pins σ H a cls d { s with heap := h' } := by
  obtain ⟨B, sI, J, nb, up, fl, os, ag⟩ := Z.fly
  exact ⟨Z.free, Z.loc, Z.frm, B, sI, J, nb, up.trans (.of_keeps k), fly_keep k fl, os, ag⟩
theorem handle (hf : X.env.frame = some X.env.locals) (nd : X.N.Nodup) {pins : List (Addr × Obj)} {σ : L2.St} {H : Hp} {a : Addr} {cls : Value} {d : Option Addr} {D : Ends} (ok : X.Ok) :
    ∀ {hds : List ExceptHandler} {cl : List Clause}, Named X hds cl → ∀ {s : Shared}, Down X pins σ H a cls d s → wNamed X.K D cl cls d σ H → wpAny (model X.prog X.w) X.A (handleBy (.ref a) X.env hds) (SP X pins D) X.xe s := by
  intro hds cl hk
  induction hk with
  | stop => intro s Z w; exact w.elim
  | @one x n c i ts st sts q1 q2 hds2 cl2 hi hl hc su r ih =>
    intro s Z w
    obtain ⟨b, hb1, yes, no⟩ := w
    obtain ⟨B, sI, J, nb, up, fl, os, ag⟩ := Z.fly
    obtain ⟨oe, vs, he, hz, hdt⟩ := fl.there
    have I3 : Inv X pins σ H s := J.landed nb fl.1 up os ag
    have S3 := I3.suite he hdt Z.free Z.loc Z.frm
    refine wpAny_handleBy_cons (codeAny_handlers_test ?_) (by intro q; cases q)
    have kind : PySem.W.Looks (model X.prog X.w) s.heap (typeOf (.ref a)) cls := fun A Q E s k q => wpAny_typeOf_ref (k _ _ he) (by rw [hz.1]; exact q)
    have hit := PySem.W.exm_one (M := model X.prog X.w) I3.kIn kind hb1
    have named : ∀ {Q : Value → Shared → Prop} {E : Value → Shared → Prop}, Q c s → wpAny (model X.prog X.w) (X.A.mark (some (.ref a))) (eval (.Name x q1) X.env) Q E s := fun {Q E} q => by
      obtain ⟨hg, hdbg, hm | ⟨hm, hv, hnn⟩⟩ := hc
      · exact ld_glob (X := X.suite a ((a, oe) :: (X.pn ++ pins))) S3 hg hm q hdbg
      · exact ld_blt (X := X.suite a ((a, oe) :: (X.pn ++ pins))) S3 hg hm hv q hnn hdbg
    refine named (hit.here ?_)
    cases b with
    | false => exact ih Z (no rfl)
    | true =>
      refine codeAny_handlers_suite_as ?_
      refine HandSPX.lands_againZ fl fun h4 fl4 up4 => ?_
      have J4 : Inv X pins σ H { s with heap := h4 } := J.landed nb fl4.1 (up.trans up4) os ag
      obtain ⟨oe4, vs4, he4, hz4, hd4⟩ := fl4.there
      have S4 := J4.suite he4 hd4 Z.free Z.loc Z.frm
      refine store_ok (X := X.suite a ((a, oe4) :: (X.pn ++ pins))) (v := .ref a) S4 nd hi (.inl hl) rfl (fun s5 S5 => ?_) (.inr hl)
      refine wpAny_mono ((su a oe4 cls d (X.pn ++ pins) hz4 ⟨_, hd4⟩).run [] s5 _ H _ S5 (yes rfl a Z.free)) (fun f s6 hsp => ?_) (fun _ _ z => False.elim z)
      have unname : ∀ {σ6 : L2.St} {H6 : Hp} {Q : Shared → Prop}, Inv (X.suite a ((a, oe4) :: (X.pn ++ pins))) [] σ6 H6 s6 → (∀ s7, Inv X pins (σ6.set i none) H6 s7 → Q s7) →
          wpAny (model X.prog X.w) X.A (do bindName X.env n .none; unbindBehindTheSuite X.env n q2) (fun _ s7 => Q s7) X.xe s6 := fun S6 hq => gone_ok (S6.unsuite ok) nd hi hl hq
      cases f with
      | ret u =>
        obtain ⟨v6, σ6, H6, S6, r6, q6⟩ := hsp
        exact unname S6 fun s7 J7 => ⟨_, _, _, J7, r6, q6⟩
      | next =>
        obtain ⟨σ6, H6, S6, q6⟩ := hsp
        exact unname S6 fun s7 J7 => ⟨_, _, J7, q6⟩
      | brk =>
        obtain ⟨σ6, H6, S6, q6⟩ := hsp
        exact unname S6 fun s7 J7 => ⟨_, _, J7, q6⟩
      | cont =>
        obtain ⟨σ6, H6, S6, q6⟩ := hsp
        exact unname S6 fun s7 J7 => ⟨_, _, J7, q6⟩
  | @two x y n c e i kt ts st sts q1 q2 q3 qt hds2 cl2 hi hl gx dx hx gy dy hy su r ih =>
    intro s Z0 w
    obtain ⟨b, hb1, yes, no⟩ := w
    have S0 : ∃ oe, Inv (X.suite a ((a, oe) :: (X.pn ++ pins))) [] σ H s := by
      obtain ⟨B, sI, J, nb, up, fl, os, ag⟩ := Z0.fly
      obtain ⟨oe, vs, he, hz, hdt⟩ := fl.there
      exact ⟨oe, (J.landed nb fl.1 up os ag).suite he hdt Z0.free Z0.loc Z0.frm⟩
    obtain ⟨oe0, S0⟩ := S0
    refine wpAny_handleBy_cons (codeAny_handlers_test ?_) (by intro q; cases q)
    refine wpAny_Tuple_spliced (spliced_more (ld_glob (X := X.suite a ((a, oe0) :: (X.pn ++ pins))) S0 gx hx (spliced_more (ld_glob (X := X.suite a ((a, oe0) :: (X.pn ++ pins))) S0 gy hy (spliced_none ⟨(by show 2 ≤ sizeLine; decide), ?_⟩) dy)) dx))
    have Z := Z0.keep (h' := s.heap.push { cls := .type "tuple", data := .seq [Value.ref c, Value.ref e].toArray }) (fun b o z => Heap.get?_push_of_some _ z)
    have there : (s.heap.push { cls := .type "tuple", data := .seq [Value.ref c, Value.ref e].toArray }).get? s.heap.objs.size = some { cls := .type "tuple", data := .seq [Value.ref c, Value.ref e].toArray } := Heap.get?_push_size _ rfl
    obtain ⟨B, sI, J, nb, up, fl, os, ag⟩ := Z.fly
    obtain ⟨oe, vs, he, hz, hdt⟩ := fl.there
    have I3 : Inv X pins σ H _ := J.landed nb fl.1 up os ag
    have kind : PySem.W.Looks (model X.prog X.w) (s.heap.push { cls := .type "tuple", data := .seq [Value.ref c, Value.ref e].toArray }) (typeOf (.ref a)) cls := fun A Q E s k q => wpAny_typeOf_ref (k _ _ he) (by rw [hz.1]; exact q)
    have hit := PySem.W.exm_tup2 (M := model X.prog X.w) I3.kIn kind there hb1
    refine hit.here ?_
    cases b with
    | false => exact ih Z (no rfl)
    | true =>
      refine codeAny_handlers_suite_as ?_
      refine HandSPX.lands_againZ fl fun h4 fl4 up4 => ?_
      have J4 : Inv X pins σ H { s with heap := h4 } := J.landed nb fl4.1 (up.trans up4) os ag
      obtain ⟨oe4, vs4, he4, hz4, hd4⟩ := fl4.there
      have S4 := J4.suite he4 hd4 Z.free Z.loc Z.frm
      refine store_ok (X := X.suite a ((a, oe4) :: (X.pn ++ pins))) (v := .ref a) S4 nd hi (.inl hl) rfl (fun s5 S5 => ?_) (.inr hl)
      refine wpAny_mono ((su a oe4 cls d (X.pn ++ pins) hz4 ⟨_, hd4⟩).run [] s5 _ H _ S5 (yes rfl a Z.free)) (fun f s6 hsp => ?_) (fun _ _ z => False.elim z)
      have unname : ∀ {σ6 : L2.St} {H6 : Hp} {Q : Shared → Prop}, Inv (X.suite a ((a, oe4) :: (X.pn ++ pins))) [] σ6 H6 s6 → (∀ s7, Inv X pins (σ6.set i none) H6 s7 → Q s7) →
          wpAny (model X.prog X.w) X.A (do bindName X.env n .none; unbindBehindTheSuite X.env n q2) (fun _ s7 => Q s7) X.xe s6 := fun S6 hq => gone_ok (S6.unsuite ok) nd hi hl hq
      cases f with
      | ret u =>
        obtain ⟨v6, σ6, H6, S6, r6, q6⟩ := hsp
        exact unname S6 fun s7 J7 => ⟨_, _, _, J7, r6, q6⟩
      | next =>
        obtain ⟨σ6, H6, S6, q6⟩ := hsp
        exact unname S6 fun s7 J7 => ⟨_, _, J7, q6⟩
      | brk =>
        obtain ⟨σ6, H6, S6, q6⟩ := hsp
        exact unname S6 fun s7 J7 => ⟨_, _, J7, q6⟩
      | cont =>
        obtain ⟨σ6, H6, S6, q6⟩ := hsp
        exact unname S6 fun s7 J7 => ⟨_, _, J7, q6⟩
theorem ps_try_named (hs : X.stack = X.env :: X.outer) (hf : X.env.frame = some X.env.locals) (nd : X.N.Nodup)
    (hb : ∀ (W : WX) (pn : List (Addr × Obj)) (xe : Value → Shared → Prop), Takes (X.tr pn xe) W → PassesOwn (model X.prog X.w) X.A X.env xe → PSs (X.tr pn xe) body (tb W)) (hh : Named X (hd :: hds) cl) :
    PS X (.Try body (hd :: hds) [] [] pos) (fun D σ H => tb (wNamed X.K D cl) D σ H) := by
  refine ⟨fun pins s σ H D I h => ?_⟩
  have ok := I.ok
  have hfr : X.A.frames = some (X.env :: X.outer) := by rw [ok.frames, hs]
  refine wpAny_Try_except ?_
  have inner := hb (wNamed X.K D cl) (X.pn ++ pins) (fun e s₁ => wpAny (model X.prog X.w) X.A (noteFrame e X.env) (fun _ s₂ => wpAny (model X.prog X.w) X.A (setFlight e none) (fun _ s₃ =>
    wpAny (model X.prog X.w) X.A (handleBy e X.env (hd :: hds)) (SP X pins D) X.xe s₃) X.xe s₂) X.xe s₁) (fun u s' xx => by
      obtain ⟨a, B, sI, pins', σ', H', cls, d, rfl, J', nb, up, sky, na, os, ag, w⟩ := xx
      have J : Inv X pins σ' H' sI := J'.ofTry ok
      rw [hs] at sky
      refine Sky.land Zc.steady hfr hf sky fun h3 fl3 up3 => ?_
      obtain ⟨oe3, vs3, he3, hz3, hd3⟩ := fl3.there
      have nfr : a ∉ frs (X.env :: X.outer) := fun hm => by
        obtain ⟨_, o', e', hnf⟩ := fl3.2.2.1.mem hm
        rw [he3] at e'
        cases e'
        exact hnf _ hd3
      refine handle hf nd (D := D) ok hh ⟨na, fun z => nfr (List.mem_filterMap.mpr ⟨X.env, List.mem_cons_self, by rw [hf, z]⟩), fun hm => ?_, B, sI, J, nb, up.trans up3, fl3, os, ag⟩ w
      obtain ⟨e, hin, q⟩ := List.mem_filterMap.mp hm
      exact nfr (List.mem_filterMap.mpr ⟨e, List.mem_cons_of_mem _ hin, q⟩)) PassesOwn.looking
  refine wpAny_mono (inner.run [] s σ H D (I.toTry _) h) (fun f s1 hsp => ?_) (fun e s1 he => he)
  cases f with
  | ret u =>
    obtain ⟨v, σ', H', J', r, q⟩ := hsp
    exact ⟨v, σ', H', J'.ofTry ok, r, q⟩
  | next =>
    obtain ⟨σ', H', J', q⟩ := hsp
    exact wpAny_execs_nil ⟨σ', H', J'.ofTry ok, q⟩
  | brk =>
    obtain ⟨σ', H', J', q⟩ := hsp
    exact ⟨σ', H', J'.ofTry ok, q⟩
  | cont =>
    obtain ⟨σ', H', J', q⟩ := hsp
    exact ⟨σ', H', J'.ofTry ok, q⟩
end
end Nv

set_option maxRecDepth 100000
set_option maxHeartbeats 4000000
namespace Nv
open PySem PySem.Spec PyProof.Rows L2
def topS (i : Nat) : Stmt := PySem.Challenge.pw_nevernought_k03_tables_and_what_is_none.main.body.getD i (.Pass ⟨0, 0, 0, 0⟩)
abbrev sNE : Stmt := inClass (topS 1) 0
theorem scNE : FnScope ["self", "word", "message"] ["self", "word", "message"] (defScope sNE) := ⟨rfl, rfl, rfl, by decide +kernel, rfl, by decide +kernel, by decide +kernel⟩
/-- the fields of an exception that has its word alone -/
def wordOf (w : Str) : List (Str × V) := [(Str.ofString "word", .str w)]
/-- an exception that is being made gets its word -/
def made (a C : Addr) (w : Str) (H : Hp) (Q : VK) : Prop := ∀ dx, H dx = none → dx ≠ a → Q .non (upd (upd H dx (exd dx (wordOf w))) a (exo a C (some dx)))
def spNE (K : PySem.W.Frag) : Sp := fun vs H Q _ => ∃ (a C : Addr) (w m : Str), vs = [.ref a, .str w, .str m] ∧ OexC K C ∧ PySem.W.findIn K (.ref C) "word" = some none ∧ H a = some (exo a C none) ∧ made a C w H Q
theorem same_new {H : Hp} {p : Addr} {o : HO} (h : H p = none) : Same H (upd H p o) := fun b x e => by
  rw [upd_ne (ne_of_none e h)]
  exact e
/-- a new pair of numbers is told; all that stood stands -/
def newSh (H : Hp) (Q : VK) (t b : Int) : Prop := ∀ (p : Addr) (H' : Hp), Same H H' → H p = none → H' p = some (.tup [.int t, .int b]) → Q (.ref p) H'
theorem newSh.at_ {H : Hp} {Q : VK} {t b : Int} (q : newSh H Q t b) : ∀ p, H p = none → Q (.ref p) (upd H p (.tup [.int t, .int b])) := fun p hp => q p _ (same_new hp) hp upd_same
/-! The law's bag: [the script's numbers, a place, what is left of a great one, a salt, a count]. -/
def bagL (l : Addr) (i j s n : Int) : List V := [.ref l, .int i, .int j, .int s, .int n]
structure BagAt (l b : Addr) (H : Hp) : Prop where
  ex : ∃ i j s n : Int, H b = some (.lst (bagL l i j s n)) ∧ 0 ≤ i ∧ 0 ≤ j ∧ 0 ≤ s ∧ s < 2147483647
structure Bag (l b : Addr) (H : Hp) : Prop where
  ex : ∃ ns : List Int, l ≠ b ∧ H l = some (.lst (ns.map V.int)) ∧ BagAt l b H
/-- but for b all is as it was -/
def But (b : Addr) (H H' : Hp) : Prop := ∀ a, a ≠ b → H' a = H a
theorem But.refl (b : Addr) (H : Hp) : But b H H := fun _ _ => rfl
theorem But.trans {b : Addr} {H H1 H2 : Hp} (x : But b H H1) (y : But b H1 H2) : But b H H2 := fun a n => (y a n).trans (x a n)
theorem But.upd {b : Addr} {H H1 : Hp} {o : HO} (x : But b H H1) : But b H (upd H1 b o) := fun a n => (upd_ne n).trans (x a n)
theorem keep {a b : TS} {D : Ends} {σ : L2.St} {H : Hp} (M : L2.St → Hp → Prop) (h : ∀ σ' H', M σ' H' → b D σ' H') (k : (∀ σ' H', M σ' H' → b D σ' H') → a { D with nx := b D } σ H) : tSeq a b D σ H := k h
def spPull : Sp := fun vs H Q _ => ∃ (l b : Addr) (m : Int), vs = [.ref b, .int m] ∧ 0 < m ∧ m.natAbs < 2 ^ 8000 ∧ Bag l b H ∧ ∀ (r : Int) (H' : Hp), 0 ≤ r → r < m → Bag l b H' → But b H H' → Q (.int r) H'
/-- a number that is reckoned with -/
def Fit (i : Int) : Prop := i.natAbs < 2 ^ 1000
theorem Fit.mulOk {i j : Int} (a : Fit i) (b : Fit j) : CMulW i j := wide_mul a b (by decide) (by decide) (by decide)
theorem Fit.mul {i j : Int} (a : Fit i) (b : Fit j) : (i * j).natAbs < 2 ^ 8000 := Nat.lt_of_lt_of_le (wide_lt a b) (Nat.pow_le_pow_right (by decide) (by decide))
/-- but for b all that was tracked is as it was -/
def Grow (b : Addr) (H H' : Hp) : Prop := ∀ a o, a ≠ b → H a = some o → H' a = some o
theorem Grow.refl (b : Addr) (H : Hp) : Grow b H H := fun _ _ _ h => h
theorem Grow.trans {b : Addr} {H H1 H2 : Hp} (x : Grow b H H1) (y : Grow b H1 H2) : Grow b H H2 := fun a o n h => y a o n (x a o n h)
theorem But.grow {b : Addr} {H H' : Hp} (x : But b H H') : Grow b H H' := fun a o n h => by rw [x a n]; exact h
theorem Same.grow {b : Addr} {H H' : Hp} (x : Same H H') : Grow b H H' := fun a o _ h => x a o h
theorem Bag.is {l b : Addr} {H : Hp} (B : Bag l b H) : ∃ o, H b = some o := by
  obtain ⟨ns, _, _, ⟨i, j, s, n, hb, _⟩⟩ := B
  exact ⟨_, hb⟩
theorem Bag.ne {l b p : Addr} {H : Hp} (B : Bag l b H) (h : H p = none) : p ≠ b := fun z => by
  obtain ⟨o, e⟩ := B.is
  rw [z, e] at h
  cases h
theorem Grow.free {b p : Addr} {H H' : Hp} (x : Grow b H H') (n : p ≠ b) (h : H' p = none) : H p = none := by
  cases e : H p with
  | none => rfl
  | some o =>
    rw [x p o n e] at h
    cases h
/-- a bag stays one where all else only grows -/
theorem Bag.same {l b : Addr} {H H' : Hp} (B : Bag l b H) (x : Same H H') : Bag l b H' := by
  obtain ⟨ns, nl, hl, ⟨i, j, s, n, hb, r⟩⟩ := B
  exact ⟨ns, nl, x _ _ hl, ⟨i, j, s, n, x _ _ hb, r⟩⟩
/-- a share that the law draws -/
structure Drawn (t b : Int) : Prop where
  top : t.natAbs < 2 ^ 45
  bot : b.natAbs < 2 ^ 45
  pos : 0 < b
theorem Drawn.fitT {t b : Int} (d : Drawn t b) : Fit t := Nat.lt_of_lt_of_le d.top (Nat.pow_le_pow_right (by decide) (by decide))
theorem Drawn.fitB {t b : Int} (d : Drawn t b) : Fit b := Nat.lt_of_lt_of_le d.bot (Nat.pow_le_pow_right (by decide) (by decide))
theorem drawn_fr {t b : Int} (ht : t.natAbs < 2 ^ 45) (hb : b.natAbs < 2 ^ 45) (h0 : b ≠ 0) : Drawn (frT t b) (frB t b) := ⟨Nat.lt_of_le_of_lt (frT_le t h0) ht, Nat.lt_of_le_of_lt (frB_le t h0) hb, frB_pos t h0⟩
theorem fit8 {i : Int} {n : Nat} (h : i.natAbs < 2 ^ n) (hn : n ≤ 8000) : i.natAbs < 2 ^ 8000 := Nat.lt_of_lt_of_le h (Nat.pow_le_pow_right (by decide) hn)
def spDraw : Sp := fun vs H Q _ => ∃ l b : Addr, vs = [.ref b] ∧ Bag l b H ∧ ∀ (p : Addr) (t d : Int) (H' : Hp), Drawn t d → Bag l b H' → Grow b H H' → H p = none → H' p = some (.tup [.int t, .int d]) → Q (.ref p) H'
section
variable {P : Program} {w : World} {K : PySem.W.Frag} {mg : Str → Option Value} {base : Heap}
theorem ok_NE {f : Addr} {fd : FuncData} {k : Nat} {dvs : List V} (F : FunD K "__init__" "NeverError.__init__" (defArgs sNE) (defBody sNE) (defScope sNE) dvs [] f fd) (mv : mg "ValueError" = none)
    (vV : PySem.W.findCls K (.type "ValueError") (.type "type") "__init__" = some (.val (.builtin "ValueError.__init__"))) : FnOk P w K mg base CX0 (k + 1) f fd ["self", "word", "message"] (spNE K) := by
  refine F.ok scNE (fun vs H Q E h => ?_) (fun cdv A outer s H vs Q E hr h => ?_)
  · obtain ⟨a, C, w, m, rfl, _⟩ := h
    rfl
  · obtain ⟨a, C, w, m, rfl, ho, hn, ha, q⟩ := h
    refine ⟨_, pss_cons (ps_expr (pe_veinit (by rfl) mv vV (pa_cons (pv 0) (pa_cons (pv 2) pa_nil)))) (pss_one (ps_ost (pv 0) (pv 1))), ?_⟩
    refine ⟨_, rfl, _, rfl, a, C, [.str m], rfl, (by show 1 ≤ 1000; decide), ho, ha, ?_⟩
    exact ⟨_, rfl, _, rfl, a, C, rfl, ho, hn, .inl ⟨ha, fun dx n ne => q dx n ne⟩⟩
def spGcd : Sp := fun vs H Q _ => ∃ a b : Int, vs = [.int a, .int b] ∧ Q (.int ((Int.gcd a b : Nat) : Int)) H
def mGcd (σ : L2.St) (_ : Hp) : Nat := match σ with
  | [_, some (.int y)] => y.natAbs
  | _ => 0
abbrev sLGcd : Stmt := topS 34
theorem scLGcd : FnScope ["_law_one", "_law_other"] ["_law_one", "_law_other"] (defScope sLGcd) := ⟨rfl, rfl, rfl, by decide +kernel, rfl, by decide +kernel, by decide +kernel⟩
theorem ok_law_gcd {f : Addr} {fd : FuncData} {k : Nat} (F : Fun K "_law_gcd" "_law_gcd" sLGcd f fd) (ma : mg "abs" = none) : FnOk P w K mg base CX0 (k + 1) f fd ["_law_one", "_law_other"] spGcd := by
  refine F.ok scLGcd (fun vs H Q E h => ?_) (fun cdv A outer s H vs Q E hr h => ?_)
  · obtain ⟨a, b, rfl, _⟩ := h
    rfl
  · obtain ⟨a, b, rfl, q⟩ := h
    refine ⟨_, pss_cons (ps_while PassesOwn.never (pt_cmpR op_ne (pv 1) pe_int (nomark _))
        (pss_one (ps_par (i := 0) (j := 1) (by rfl) scLGcd.nd rfl rfl (by decide) rfl rfl (pa_cons (pv 1) (pa_cons (pe_op op_modN (pv 0) (pv 1)) pa_nil)) (by rfl))))
      (pss_one (ps_ret (pe_callB call_abs (by rfl) ma (by decide +kernel) (pa_cons (pv 0) pa_nil)))), ?_⟩
    refine while_by (fun σ H' => ∃ x y : Int, σ = [some (.int x), some (.int y)] ∧ H' = H ∧ Int.gcd x y = Int.gcd a b) mGcd ⟨a, b, rfl, rfl, rfl⟩ (fun σ H' hP => ?_) (fun σ H Q Q' hh hc => ?_)
    · obtain ⟨x, y, rfl, rfl, e⟩ := hP
      refine ⟨_, rfl, rfl, _, rfl, ?_⟩
      refine ite2 (fun c => ?_) (fun c => ?_)
      · have hy : y ≠ 0 := fun z => by
          subst z
          exact absurd c (by decide)
        refine ⟨_, rfl, _, rfl, _, rfl, x, y, rfl, rfl, hy, _, _, rfl, ⟨y, x.fmod y, rfl, rfl, ?_⟩, fmod_small x hy⟩
        rw [gcd_step]
        exact e
      · have hy : y = 0 := Classical.byContradiction fun z => c (by
          show (!decide (V.int y = V.int 0)) = true
          rw [decide_eq_false (fun q => z (V.int.inj q))]
          rfl)
        subst hy
        refine ⟨_, rfl, x, rfl, ?_⟩
        rw [gcd_zero, e]
        exact q
    · obtain ⟨v, e1, e2, k, e3, e4⟩ := hc
      exact ⟨v, e1, e2, k, e3, hh _ _ e4⟩
def spFr : Sp := fun vs H Q _ => ∃ t b : Int, vs = [.int t, .int b] ∧ b ≠ 0 ∧ b.natAbs < 2 ^ 8000 ∧ newSh H Q (frT t b) (frB t b)
theorem at0 {a b : V} : atI [a, b] 0 = some a := rfl
theorem at1 {a b : V} : atI [a, b] 1 = some b := rfl
abbrev sLFr : Stmt := topS 35
theorem scLFr : FnScope ["_law_top", "_law_bottom", "_law_per"] ["_law_top", "_law_bottom"] (defScope sLFr) := ⟨rfl, rfl, rfl, by decide +kernel, rfl, by decide +kernel, by decide +kernel⟩
theorem ok_law_fr {f : Addr} {fd : FuncData} (F : Fun K "_law_fr" "_law_fr" sLFr f fd) (GG : C8.Cal P w K mg base 1 "_law_gcd" spGcd []) : FnOk P w K mg base CX0 2 f fd ["_law_top", "_law_bottom"] spFr := by
  refine F.ok scLFr (fun vs H Q E h => ?_) (fun cdv A outer s H vs Q E hr h => ?_)
  · obtain ⟨a, b, rfl, _⟩ := h
    rfl
  · obtain ⟨t, b, rfl, e, hb, q1⟩ := h
    refine ⟨_, pss_cons (ps_set (i := 2) scLFr.nd rfl (.inl rfl) (C8.pe_c GG hr (by decide) (by rfl) (pa_cons (pv 0) (pa_cons (pv 1) pa_nil))))
      (pss_cons (ps_set (i := 2) scLFr.nd rfl (.inl rfl) (pe_ifExp (pt_cmpR op_lt (pv 1) pe_int (nomark _)) (pe_op op_sub pe_int (pv 2)) (pv 2)))
      (pss_one (ps_ret (pe_tup (pa_cons (pe_op op_div (pv 0) (pv 2)) (pa_cons (pe_op op_div (pv 1) (pv 2)) pa_nil)))))), ?_⟩
    refine ⟨_, rfl, _, rfl, t, b, rfl, ?_⟩
    have fin : ∀ d : Int, d = per t b → tRet (tTup (tCons (tOp (rI DivOk fun i j => .int (i.fdiv j)) (tVar 0) (tVar 2)) (tCons (tOp (rI DivOk fun i j => .int (i.fdiv j)) (tVar 1) (tVar 2)) tNil)))
        { nx := fun _ H' => Q .non H', rt := Q } [some (.int t), some (.int b), some (.int d)] H := fun d hd => by
      have ok : DivOk t d := ⟨by rw [hd]; exact per_ne t e, by rw [hd]; exact Nat.lt_of_le_of_lt (per_le t e) hb⟩
      refine ⟨_, rfl, _, rfl, t, d, rfl, rfl, ok, _, rfl, _, rfl, b, d, rfl, rfl, ok, (by show 2 ≤ sizeLine; decide), fun p hp => ?_⟩
      rw [hd]
      exact q1.at_ p hp
    refine ⟨_, rfl, b, 0, rfl, rfl, _, rfl, ite2 (fun c2 => ?_) (fun c2 => ?_)⟩
    · have l : b < 0 := of_decide_eq_true c2
      refine ⟨_, rfl, 0, _, rfl, rfl, ?_⟩
      exact fin _ (by unfold per; rw [if_pos l]; omega)
    · have l : ¬ b < 0 := fun z => c2 (decide_eq_true z)
      refine ⟨_, rfl, ?_⟩
      exact fin _ (by unfold per; rw [if_neg l])
abbrev sPull : Stmt := topS 30
theorem scPull : FnScope ["_law_bag_here", "_law_sides", "_law_cell", "_law_got", "_law_seed"] ["_law_bag_here", "_law_sides"] (defScope sPull) := ⟨rfl, rfl, rfl, by decide +kernel, rfl, by decide +kernel, by decide +kernel⟩
theorem at_in {xs : List V} {r : Int} (h0 : 0 ≤ r) (h : r.toNat < xs.length) : atI xs r = some xs[r.toNat] := by
  obtain ⟨n, rfl⟩ := Int.eq_ofNat_of_zero_le h0
  exact atI_nat (List.getElem?_eq_getElem h)
theorem ok_pull {f : Addr} {fd : FuncData} {k : Nat} (F : Fun K "_law_pull" "_law_pull" sPull f fd) (ml : mg "len" = none) : FnOk P w K mg base CX0 (k + 1) f fd ["_law_bag_here", "_law_sides"] spPull := by
  refine F.ok scPull (fun vs H Q E h => ?_) (fun cdv A outer s H vs Q E hr h => ?_)
  · obtain ⟨l, b, m, rfl, _⟩ := h
    rfl
  · obtain ⟨l, b, m, rfl, hm, hm9, ⟨ns, nlb, hl, ⟨i, j, sa, n, hb, hi, hj, hs, hs2⟩⟩, q⟩ := h
    have hm8 : CDivW 0 m := wide_div hm hm9 (by decide) (by decide)
    refine ⟨_, pss_cons (ps_if (PW.pt (pw_and (pt_cmpR op_eq (pe_ix ix_list (pv 0) pe_int (fun _ _ => rfl)) pe_int (nomark _))
          (pw_and1 (pt_cmpR op_lt (pe_ix ix_list (pv 0) pe_int (fun _ _ => rfl)) (pe_callB call_len_seq (by rfl) ml PySem.boot_len (pa_cons (pe_ix ix_list (pv 0) pe_int (fun _ _ => rfl)) pa_nil)) (nomark _)))))
        (pss_cons (ps_set (i := 2) scPull.nd rfl (.inl rfl) (pe_ix ix_list (pe_ix ix_list (pv 0) pe_int (fun _ _ => rfl)) (pe_ix ix_list (pv 0) pe_int (fun _ _ => rfl)) (fun _ _ => rfl)))
        (pss_cons (ps_asg (pe_op op_add (pe_ix ix_list (pv 0) pe_int (fun _ _ => rfl)) pe_int) (pg_sub (pv 0) pe_int set_list))
        (pss_one (ps_if (pt_cmpR op_ge (pv 2) (pe_op op_pow pe_int pe_int) (nomark _)) (pss_one (ps_asg (pv 2) (pg_sub (pv 0) pe_int set_list)))
          (pss_one (ps_asg (pe_op op_mod (pe_op op_add (pe_op op_add (pe_op op_mul (pe_ix ix_list (pv 0) pe_int (fun _ _ => rfl)) pe_int) (pe_op op_mod (pv 2) pe_int)) pe_int) pe_int) (pg_sub (pv 0) pe_int set_list)))))))
        pss_nil)
      (pss_cons (ps_if (pt_cmpR op_gt (pe_ix ix_list (pv 0) pe_int (fun _ _ => rfl)) pe_int (nomark _))
        (pss_cons (ps_set (i := 3) scPull.nd rfl (.inl rfl) (pe_op op_mod (pe_ix ix_list (pv 0) pe_int (fun _ _ => rfl)) (pv 1)))
        (pss_cons (ps_asg (pe_op op_fdivW (pe_ix ix_list (pv 0) pe_int (fun _ _ => rfl)) (pv 1)) (pg_sub (pv 0) pe_int set_list))
        (pss_one (ps_ret (pv 3))))) pss_nil)
      (pss_cons (ps_asg (pe_op op_add (pe_ix ix_list (pv 0) pe_int (fun _ _ => rfl)) pe_int) (pg_sub (pv 0) pe_int set_list))
      (pss_cons (ps_set (i := 4) scPull.nd rfl (.inl rfl) (pe_op op_mod (pe_op op_add (pe_ix ix_list (pv 0) pe_int (fun _ _ => rfl)) (pe_op op_mul (pe_ix ix_list (pv 0) pe_int (fun _ _ => rfl)) pe_int)) pe_int))
      (pss_cons (ps_asg (pe_op op_mod (pe_op op_add (pe_op op_add (pe_op op_mul (pe_op op_mod (pe_op op_mul (pv 4) (pv 4)) pe_int) (pe_op op_add (pe_op op_mod (pv 4) pe_int) pe_int)) (pe_op op_mul pe_int (pv 4))) pe_int) pe_int) (pg_sub (pv 0) pe_int set_list))
      (pss_one (ps_ret (pe_op op_mod (pe_op op_add (pe_op op_fdiv (pe_ix ix_list (pv 0) pe_int (fun _ _ => rfl)) pe_int) (pe_op op_mul (pe_op op_mod (pe_ix ix_list (pv 0) pe_int (fun _ _ => rfl)) pe_int) pe_int)) (pv 1)))))))), ?_⟩
    refine keep (fun σ' H' => ∃ (i j sa n : Int) (y : Option V), σ' = [some (.ref b), some (.int m), y, none, none] ∧ H' b = some (.lst (bagL l i j sa n)) ∧ 0 ≤ i ∧ 0 ≤ j ∧ 0 ≤ sa ∧ sa < 2147483647 ∧ But b H H') (fun σ' H1 hM => ?_) (fun rest => ?_)
    · obtain ⟨i, j, sa, n, y, rfl, hb, hi, hj, hs, hs2, bt⟩ := hM
      have bagOf : ∀ (H2 : Hp), But b H H2 → BagAt l b H2 → Bag l b H2 := fun H2 bt2 x => ⟨ns, nlb, by rw [bt2 l nlb]; exact hl, x⟩
      refine ⟨_, rfl, b, _, 2, _, rfl, rfl, SqL.of hb, rfl, j, 0, rfl, rfl, _, rfl, ite2 (fun c => ?_) (fun c => ?_)⟩
      · -- what is left of a great number
        refine ⟨_, rfl, b, _, 2, _, rfl, rfl, SqL.of hb, rfl, _, rfl, j, m, rfl, rfl, hm, ?_⟩
        refine ⟨_, rfl, b, _, 2, _, rfl, rfl, SqL.of hb, rfl, _, rfl, j, m, rfl, rfl, hm8, _, rfl, b, _, 2, 2, rfl, rfl, hb, rfl, ?_⟩
        refine ⟨_, rfl, ?_⟩
        exact q _ _ (Int.emod_nonneg j (by omega)) (Int.emod_lt_of_pos j hm) (bagOf _ bt.upd ⟨⟨i, j / m, sa, n, upd_same, hi, Int.ediv_nonneg hj (by omega), hs, hs2⟩⟩) bt.upd
      · refine ⟨_, rfl, b, _, 4, _, rfl, rfl, SqL.of hb, rfl, n, 1, rfl, rfl, _, rfl, b, _, 4, 4, rfl, rfl, hb, rfl, ?_⟩
        have hb2 : (upd H1 b (.lst (bagL l i j sa (n + 1)))) b = some (.lst (bagL l i j sa (n + 1))) := upd_same
        refine ⟨_, rfl, b, _, 3, _, rfl, rfl, SqL.of hb2, rfl, _, rfl, b, _, 4, _, rfl, rfl, SqL.of hb2, rfl, n + 1, 7211, rfl, rfl, .inr ⟨by decide, by decide⟩, sa, _, rfl, rfl, _, 2147483647, rfl, rfl, (by show (0 : Int) < _; decide), ?_⟩
        have r0 := Int.emod_nonneg (sa + (n + 1) * 7211) (show (2147483647 : Int) ≠ 0 by decide)
        have r1 := Int.emod_lt_of_pos (sa + (n + 1) * 7211) (show (0 : Int) < 2147483647 by decide)
        show tSeq _ _ _ [some (.ref b), some (.int m), y, none, some (.int ((sa + (n + 1) * 7211) % 2147483647))] _
        generalize (sa + (n + 1) * 7211) % 2147483647 = sd at r0 r1 ⊢
        have t0 := Int.emod_nonneg (sd * sd) (show (2147483629 : Int) ≠ 0 by decide)
        have t1 := Int.emod_lt_of_pos (sd * sd) (show (0 : Int) < 2147483629 by decide)
        refine ⟨_, rfl, _, rfl, sd, sd, rfl, rfl, .inl ⟨by omega, by omega⟩, _, 2147483629, rfl, rfl, (by show (0 : Int) < _; decide), _, rfl, sd, 30011, rfl, rfl, (by show (0 : Int) < _; decide), _, 5, rfl, rfl, _, _, rfl, rfl, .inl ⟨by omega, by omega⟩, _, rfl, 20011, sd, rfl, rfl, .inl ⟨by decide, by decide⟩, _, _, rfl, rfl, _, 977, rfl, rfl, _, 2147483647, rfl, rfl, (by show (0 : Int) < _; decide), _, rfl, b, _, 3, 3, rfl, rfl, hb2, rfl, ?_⟩
        have s0 := Int.emod_nonneg (sd * sd % 2147483629 * (sd % 30011 + 5) + 20011 * sd + 977) (show (2147483647 : Int) ≠ 0 by decide)
        have s1 := Int.emod_lt_of_pos (sd * sd % 2147483629 * (sd % 30011 + 5) + 20011 * sd + 977) (show (0 : Int) < 2147483647 by decide)
        have hb3 : (upd (upd H1 b (.lst (bagL l i j sa (n + 1)))) b (.lst (bagL l i j ((sd * sd % 2147483629 * (sd % 30011 + 5) + 20011 * sd + 977) % 2147483647) (n + 1)))) b = some (.lst (bagL l i j ((sd * sd % 2147483629 * (sd % 30011 + 5) + 20011 * sd + 977) % 2147483647) (n + 1))) := upd_same
        refine ⟨_, rfl, b, _, 3, _, rfl, rfl, SqL.of hb3, rfl, _, 71, rfl, rfl, ⟨by decide, by decide⟩, _, rfl, b, _, 3, _, rfl, rfl, SqL.of hb3, rfl, _, 8191, rfl, rfl, (by show (0 : Int) < _; decide), _, 41, rfl, rfl, .inr ⟨by decide, by decide⟩, _, _, rfl, rfl, _, rfl, _, m, rfl, rfl, hm, ?_⟩
        exact q _ _ (Int.emod_nonneg _ (by omega)) (Int.emod_lt_of_pos _ hm) (bagOf _ bt.upd.upd ⟨⟨i, j, _, n + 1, upd_same, hi, hj, s0, s1⟩⟩) bt.upd.upd
    · have stay := rest [some (.ref b), some (.int m), none, none, none] H ⟨i, j, sa, n, none, rfl, hb, hi, hj, hs, hs2, But.refl b H⟩
      refine ⟨_, rfl, b, _, 2, _, rfl, rfl, SqL.of hb, rfl, rfl, _, rfl, ite2 (fun c => ?_) (fun c => ?_)⟩
      · refine ⟨_, rfl, b, _, 1, _, rfl, rfl, SqL.of hb, rfl, _, rfl, b, _, 0, _, rfl, rfl, SqL.of hb, rfl, l, _, rfl, .inl (SqL.of hl), i, _, rfl, rfl, _, rfl, ite2 (fun c2 => ?_) (fun c2 => ?_)⟩
        · have hlt : i < ((ns.map V.int).length : Int) := of_decide_eq_true c2
          rw [List.length_map] at hlt
          obtain ⟨cell, hc⟩ : ∃ cell : Int, atI (ns.map V.int) i = some (.int cell) := by
            have h1 : i.toNat < (ns.map V.int).length := by rw [List.length_map]; omega
            refine ⟨ns[i.toNat]'(by rw [List.length_map] at h1; exact h1), ?_⟩
            rw [at_in hi h1, List.getElem_map]
          refine ⟨_, rfl, b, _, 0, _, rfl, rfl, SqL.of hb, rfl, _, rfl, b, _, 1, _, rfl, rfl, SqL.of hb, rfl, l, _, i, _, rfl, rfl, SqL.of hl, hc, ?_⟩
          refine ⟨_, rfl, b, _, 1, _, rfl, rfl, SqL.of hb, rfl, i, 1, rfl, rfl, _, rfl, b, _, 1, 1, rfl, rfl, hb, rfl, ?_⟩
          have hb2 : (upd H b (.lst (bagL l (i + 1) j sa n))) b = some (.lst (bagL l (i + 1) j sa n)) := upd_same
          refine ⟨_, rfl, 10, 18, rfl, rfl, ⟨by decide, by decide, by decide⟩, cell, _, rfl, rfl, _, rfl, ite2 (fun c3 => ?_) (fun c3 => ?_)⟩
          · have hbig : (10 : Int) ^ (18 : Int).toNat ≤ cell := of_decide_eq_true c3
            have hpos : (0 : Int) ≤ cell := Int.le_trans (by decide) hbig
            refine ⟨_, rfl, _, rfl, b, _, 2, 2, rfl, rfl, hb2, rfl, ?_⟩
            exact rest _ _ ⟨i + 1, cell, sa, n, _, rfl, upd_same, by omega, hpos, hs, hs2, (But.refl b H).upd.upd⟩
          · refine ⟨_, rfl, b, _, 3, _, rfl, rfl, SqL.of hb2, rfl, sa, 40283, rfl, rfl, .inr ⟨by decide, by decide⟩, _, rfl, cell, 2147483587, rfl, rfl, (by show (0 : Int) < _; decide), _, _, rfl, rfl, _, 7, rfl, rfl, _, 2147483647, rfl, rfl, (by show (0 : Int) < _; decide), _, rfl, b, _, 3, 3, rfl, rfl, hb2, rfl, ?_⟩
            exact rest _ _ ⟨i + 1, j, _, n, _, rfl, upd_same, by omega, hj, Int.emod_nonneg _ (by decide), Int.emod_lt_of_pos _ (by decide), (But.refl b H).upd.upd⟩
        · exact stay
      · exact iteF stay
abbrev sOf : Stmt := topS 31
theorem scOf : FnScope ["_law_bag_here", "_law_some"] ["_law_bag_here", "_law_some"] (defScope sOf) := ⟨rfl, rfl, rfl, by decide +kernel, rfl, by decide +kernel, by decide +kernel⟩
/-- one of those that are there -/
def spOf : Sp := fun vs H Q _ => ∃ (l b o : Addr) (xs : List V), vs = [.ref b, .ref o] ∧ o ≠ b ∧ H o = some (.lst xs) ∧ 0 < xs.length ∧ xs.length ≤ 1000 ∧ Bag l b H ∧ ∀ (v : V) (H' : Hp), v ∈ xs → Bag l b H' → But b H H' → Q v H'
theorem small_fit {n : Nat} (h : n ≤ 1000) : ((n : Int)).natAbs < 2 ^ 8000 := Nat.lt_of_le_of_lt (show ((n : Int)).natAbs ≤ 2 ^ 10 by omega) (Nat.pow_lt_pow_right (by decide) (by decide))
theorem ok_of {f : Addr} {fd : FuncData} (F : Fun K "_law_of" "_law_of" sOf f fd) (GP : C8.Cal P w K mg base 1 "_law_pull" spPull []) (ml : mg "len" = none) : FnOk P w K mg base CX0 2 f fd ["_law_bag_here", "_law_some"] spOf := by
  refine F.ok scOf (fun vs H Q E h => ?_) (fun cdv A outer s H vs Q E hr h => ?_)
  · obtain ⟨l, b, o, xs, rfl, _⟩ := h
    rfl
  · obtain ⟨l, b, o, xs, rfl, nob, ho, h0, h1, hB, q⟩ := h
    refine ⟨_, pss_one (ps_ret (pe_ix ix_list (pv 1) (C8.pe_c GP hr (by decide) (by rfl) (pa_cons (pv 0) (pa_cons (pe_callB call_len_seq (by rfl) ml PySem.boot_len (pa_cons (pv 1) pa_nil)) pa_nil))) (fun _ _ => rfl))), ?_⟩
    refine ⟨_, rfl, _, rfl, _, rfl, o, xs, rfl, .inl (SqL.of ho), l, b, _, rfl, by omega, small_fit h1, hB, fun r H' r0 r1 hB' bt => ?_⟩
    have ho' : H' o = some (.lst xs) := by rw [bt o nob]; exact ho
    have hlt : r.toNat < xs.length := by omega
    exact ⟨o, xs, r, xs[r.toNat], rfl, rfl, SqL.of ho', at_in r0 hlt, q _ _ (List.getElem_mem hlt) hB' bt⟩
abbrev sLight : Stmt := topS 36
theorem scLight : FnScope ["_law_bag_here"] ["_law_bag_here"] (defScope sLight) := ⟨rfl, rfl, rfl, by decide +kernel, rfl, by decide +kernel, by decide +kernel⟩
/-- the end of a drawing: fr(t, d) -/
theorem draw_end {l b : Addr} {H H1 : Hp} {Q : VK} {E : XK} {t d : Int} (g : Grow b H H1) (B : Bag l b H1) (ht : t.natAbs < 2 ^ 45) (hd : d.natAbs < 2 ^ 45) (h0 : d ≠ 0)
    (q : ∀ (p : Addr) (t d : Int) (H' : Hp), Drawn t d → Bag l b H' → Grow b H H' → H p = none → H' p = some (.tup [.int t, .int d]) → Q (.ref p) H') : spFr [.int t, .int d] H1 Q E :=
  ⟨t, d, rfl, h0, fit8 hd (by decide), fun p H' sm hp ep => q p _ _ _ (drawn_fr ht hd h0) (B.same sm) (g.trans (Same.grow sm)) (g.free (B.ne hp) hp) ep⟩
theorem ok_light {f : Addr} {fd : FuncData} (F : Fun K "_law_light" "_law_light" sLight f fd) (GF : C8.Cal P w K mg base 2 "_law_fr" spFr []) (GP : C8.Cal P w K mg base 1 "_law_pull" spPull []) : FnOk P w K mg base CX0 3 f fd ["_law_bag_here"] spDraw := by
  refine F.ok scLight (fun vs H Q E h => ?_) (fun cdv A outer s H vs Q E hr h => ?_)
  · obtain ⟨l, b, rfl, _⟩ := h
    rfl
  · obtain ⟨l, b, rfl, B, q⟩ := h
    refine ⟨_, pss_one (ps_ret (C8.pe_c GF hr (by decide) (by rfl) (pa_cons (pe_op op_sub (C8.pe_c GP hr (by decide) (by rfl) (pa_cons (pv 0) (pa_cons pe_int pa_nil))) pe_int)
      (pa_cons (pe_ix ix_list (pe_lst (pa_cons pe_int (pa_cons pe_int (pa_cons pe_int (pa_cons pe_int (pa_cons pe_int (pa_cons pe_int pa_nil))))))) (C8.pe_c GP hr (by decide) (by rfl) (pa_cons (pv 0) (pa_cons pe_int pa_nil))) (fun _ _ => rfl)) pa_nil)))), ?_⟩
    refine ⟨_, rfl, l, b, 9, rfl, by decide, fit8 (n := 4) (by decide) (by decide), B, fun r H1 r0 r1 B1 t1 => ?_⟩
    refine ⟨r, 4, rfl, rfl, (by show 6 ≤ sizeLine; decide), fun o no => ?_⟩
    have B2 := B1.same (same_new (o := .lst [.int 1, .int 1, .int 1, .int 2, .int 3, .int 5]) no)
    refine ⟨_, rfl, l, b, 6, rfl, by decide, fit8 (n := 4) (by decide) (by decide), B2, fun r2 H2 s0 s1 B3 t2 => ?_⟩
    have nob := B1.ne no
    have ho : H2 o = some (.lst [.int 1, .int 1, .int 1, .int 2, .int 3, .int 5]) := by rw [t2 o nob, upd_same]
    have g : Grow b H H2 := t1.grow.trans ((Same.grow (same_new no)).trans t2.grow)
    have pick : ∃ d : Int, atI [V.int 1, V.int 1, V.int 1, V.int 2, V.int 3, V.int 5] r2 = some (.int d) ∧ 0 < d ∧ d ≤ 5 := by
      have : r2 = 0 ∨ r2 = 1 ∨ r2 = 2 ∨ r2 = 3 ∨ r2 = 4 ∨ r2 = 5 := by omega
      rcases this with e | e | e | e | e | e <;> subst e
      · exact ⟨1, rfl, by decide, by decide⟩
      · exact ⟨1, rfl, by decide, by decide⟩
      · exact ⟨1, rfl, by decide, by decide⟩
      · exact ⟨2, rfl, by decide, by decide⟩
      · exact ⟨3, rfl, by decide, by decide⟩
      · exact ⟨5, rfl, by decide, by decide⟩
    obtain ⟨d, hd, d0, d5⟩ := pick
    exact ⟨o, _, r2, _, rfl, rfl, SqL.of ho, hd, draw_end (E := C8.E0) g B3 (Nat.lt_of_le_of_lt (show (r - 4).natAbs ≤ 9 by omega) (by decide)) (Nat.lt_of_le_of_lt (show d.natAbs ≤ 9 by omega) (by decide)) (by omega) q⟩
abbrev sBag : Stmt := topS 29
theorem scBag : FnScope ["_law_script", "_law_salt", "_law_cell"] ["_law_script"] (defScope sBag) := ⟨rfl, rfl, rfl, by decide +kernel, rfl, by decide +kernel, by decide +kernel⟩
/-- a new bag of a script -/
def spBag (K : PySem.W.Frag) : Sp := fun vs H Q _ => ∃ (a : Addr) (ns : List Int), vs = [.ref a] ∧ SqL K H a (ns.map V.int) ∧ ∀ (l b : Addr) (H' : Hp), Same H H' → H b = none → H l = none → Bag l b H' → Q (.ref b) H'
theorem cut63 (ns : List Int) : ∃ ms : List Int, cutV (ns.map V.int) none (some 63) = ms.map V.int := by
  refine ⟨(ns.drop (HT.sIx ns.length 0 none)).take (HT.sIx ns.length ns.length (some 63) - HT.sIx ns.length 0 none), ?_⟩
  unfold cutV
  rw [List.length_map, List.map_take, List.map_drop]
theorem ok_bag {f : Addr} {fd : FuncData} {k : Nat} (F : Fun K "_law_bag" "_law_bag" sBag f fd) (ml : mg "list" = none) : FnOk P w K mg base CX0 (k + 1) f fd ["_law_script"] (spBag K) := by
  refine F.ok scBag (fun vs H Q E h => ?_) (fun cdv A outer s H vs Q E hr h => ?_)
  · obtain ⟨a, ns, rfl, _⟩ := h
    rfl
  · obtain ⟨a, ns, rfl, hS, q⟩ := h
    refine ⟨_, pss_cons (ps_set (i := 1) scBag.nd rfl (.inl rfl) pe_int)
      (pss_cons (ps_for PassesOwn.never rfl (pi_list (pe_slice sl_list (pv 0) po_none (po_some pe_int))) (pg_name (i := 2) scBag.nd rfl (.inl rfl))
        (pss_one (ps_set (i := 1) scBag.nd rfl (.inl rfl) (pe_op op_mod (pe_op op_add (pe_op op_add (pe_op op_mul (pv 1) pe_int) (pe_op op_mod (pv 2) pe_int)) pe_int) pe_int))))
      (pss_one (ps_ret (pe_lst (pa_cons (pe_callTy call_list_of (by rfl) ml (by decide +kernel) (pa_cons (pe_slice sl_list (pv 0) po_none (po_some pe_int)) pa_nil)) (pa_cons pe_int (pa_cons pe_int (pa_cons (pv 1) (pa_cons pe_int pa_nil))))))))), ?_⟩
    obtain ⟨ms, em⟩ := cut63 ns
    refine ⟨_, rfl, 63, rfl, a, _, rfl, hS, fun c nc => ?_⟩
    rw [em]
    have sm : Same H (upd H c (.lst (ms.map V.int))) := same_new nc
    refine ⟨c, rfl, ⟨_, SqL.of upd_same⟩, for_list (K := K) (a := c) (xs := ms.map V.int) (fun i σ H' => ∃ (sa : Int) (y : Option V), σ = [some (.ref a), some (.int sa), y] ∧ 0 ≤ sa ∧ sa < 2147483647 ∧ H' = upd H c (.lst (ms.map V.int))) ⟨9454, none, rfl, by decide, by decide, rfl⟩
      (fun i σ H' _ hP => by obtain ⟨_, _, _, _, _, e⟩ := hP; rw [e]; exact SqL.of upd_same) ?_ ?_⟩
    · rintro i y σ H' hi ⟨sa, y2, rfl, h0, h1, rfl⟩
      obtain ⟨z, rfl⟩ : ∃ z : Int, y = .int z := by
        rw [List.getElem?_map] at hi
        cases e : ms[i]? with
        | none =>
          rw [e] at hi
          cases hi
        | some z =>
          rw [e] at hi
          exact ⟨z, (Option.some.inj hi).symm⟩
      refine ⟨_, rfl, sa, 48611, rfl, rfl, .inr ⟨by decide, by decide⟩, _, rfl, z, 2147483629, rfl, rfl, (by show (0 : Int) < _; decide), _, _, rfl, rfl, _, 23, rfl, rfl, _, 2147483647, rfl, rfl, (by show (0 : Int) < _; decide), ?_⟩
      exact ⟨_, some (.int z), rfl, Int.emod_nonneg _ (by decide), Int.emod_lt_of_pos _ (by decide), rfl⟩
    · rintro σ H' ⟨sa, y2, rfl, h0, h1, rfl⟩
      refine ⟨_, rfl, 63, rfl, a, _, rfl, sm.seq hS, fun c2 nc2 => ?_⟩
      rw [em]
      refine ⟨c2, _, rfl, .inl (SqL.of upd_same), fun l nl => ?_⟩
      refine ⟨_, rfl, (by show 5 ≤ sizeLine; decide), fun b nb => ?_⟩
      have s2 := sm.trans (same_new (o := .lst (ms.map V.int)) nc2)
      have s3 := s2.trans (same_new (o := .lst (ms.map V.int)) nl)
      have s4 := s3.trans (same_new (o := .lst (bagL l 0 0 sa 0)) nb)
      refine q l b _ s4 (s3.free nb) (s2.free nl) ⟨ms, ne_of_none upd_same nb, ?_, ⟨0, 0, sa, 0, upd_same, by decide, by decide, h0, h1⟩⟩
      rw [upd_ne (ne_of_none upd_same nb), upd_same]
end
/-! The law's own comparison: of equal data it tells True. -/
structure Scal (K : PySem.W.Frag) (x : V) : Prop where
  ex : ∃ (t : Value) (b1 b2 b3 : Bool), (∀ H, TyX K H x t) ∧ PySem.W.kitAny K t [.type "list", .type "tuple"] = some false ∧ PySem.W.kitOne K t (.type "bool") = some b1 ∧ PySem.W.kitOne K t (.type "int") = some b2 ∧ PySem.W.kitOne K t (.type "str") = some b3 ∧ scal x x = true
theorem kit2 {K : PySem.W.Frag} {t : String} {a b : String} (h1 : kitB t a = some false) (h2 : kitB t b = some false) : PySem.W.kitAny K (.type t) [.type a, .type b] = some false :=
  kitAny_cons (b := false) (kit_ty h1) (fun _ => kitAny_cons (b := false) (kit_ty h2) (fun _ => kitAny_nil) (fun z => nomatch z)) (fun z => nomatch z)
theorem Scal.int {K : PySem.W.Frag} (i : Int) : Scal K (.int i) := ⟨.type "int", false, true, false, fun _ => .base (.int i), kit2 (by decide +kernel) (by decide +kernel), kit_ty (by decide +kernel), kit_ty (by decide +kernel), kit_ty (by decide +kernel), rfl⟩
theorem Scal.str {K : PySem.W.Frag} (z : Str) : Scal K (.str z) := ⟨.type "str", false, false, true, fun _ => .base (.str z), kit2 (by decide +kernel) (by decide +kernel), kit_ty (by decide +kernel), kit_ty (by decide +kernel), kit_ty (by decide +kernel), rfl⟩
theorem Scal.bl {K : PySem.W.Frag} (b : Bool) : Scal K (.bl b) := ⟨.type "bool", true, true, false, fun _ => .base (.bl b), kit2 (by decide +kernel) (by decide +kernel), kit_ty (by decide +kernel), kit_ty (by decide +kernel), kit_ty (by decide +kernel), rfl⟩
theorem Scal.non {K : PySem.W.Frag} : Scal K .non := ⟨.type "NoneType", false, false, false, fun _ => .base .non, kit2 (by decide +kernel) (by decide +kernel), kit_ty (by decide +kernel), kit_ty (by decide +kernel), kit_ty (by decide +kernel), rfl⟩
/-- x and y are equal data, at most n within one another -/
def Twin (K : PySem.W.Frag) (H : Hp) : Nat → V → V → Prop
  | 0, x, y => x = y ∧ Scal K x
  | n + 1, x, y => (x = y ∧ Scal K x) ∨ ∃ (a b : Addr) (xs ys : List V), x = .ref a ∧ y = .ref b ∧ ((SqL K H a xs ∧ SqL K H b ys) ∨ (SqT K H a xs ∧ SqT K H b ys)) ∧ xs.length = ys.length ∧ ys.length ≤ 1000 ∧ ∀ (i : Nat) (u v : V), xs[i]? = some u → ys[i]? = some v → Twin K H n u v
theorem seqT {K : PySem.W.Frag} {H H' : Hp} {a : Addr} {xs : List V} (e : Same H H') (h : SqT K H a xs) : SqT K H' a xs := by
  rcases h with (h | ⟨o, h⟩) | h
  · exact .inl (.inl (e _ _ h))
  · exact .inl (.inr ⟨o, e _ _ h⟩)
  · exact .inr h
theorem Twin.same {K : PySem.W.Frag} {H H' : Hp} (s : Same H H') : ∀ {n : Nat} {x y : V}, Twin K H n x y → Twin K H' n x y
  | 0, _, _, h => h
  | n + 1, _, _, h => by
    rcases h with h | ⟨a, b, xs, ys, e1, e2, q, l, m, r⟩
    · exact .inl h
    · refine .inr ⟨a, b, xs, ys, e1, e2, ?_, l, m, fun i u v hu hv => (r i u v hu hv).same s⟩
      rcases q with ⟨q1, q2⟩ | ⟨q1, q2⟩
      · exact .inl ⟨s.seq q1, s.seq q2⟩
      · exact .inr ⟨seqT s q1, seqT s q2⟩
theorem Twin.one {K : PySem.W.Frag} {H : Hp} {x : V} (s : Scal K x) : ∀ n : Nat, Twin K H n x x
  | 0 => ⟨rfl, s⟩
  | _ + 1 => .inl ⟨rfl, s⟩
theorem tyL {K : PySem.W.Frag} {H : Hp} {a : Addr} {xs : List V} (h : SqL K H a xs) : TyX K H (.ref a) (.type "list") := by
  rcases h with (h | ⟨o, h⟩) | ⟨o, its, n, h1, h2, _⟩
  · exact .base (.lst h)
  · exact .base (.frz h)
  · exact .kList h1 h2
theorem tyT {K : PySem.W.Frag} {H : Hp} {a : Addr} {xs : List V} (h : SqT K H a xs) : TyX K H (.ref a) (.type "tuple") := by
  rcases h with (h | ⟨o, h⟩) | ⟨o, its, n, h1, h2, _⟩
  · exact .base (.tup h)
  · exact .fTuple h
  · exact .kTuple h1 h2
abbrev sSame : Stmt := topS 32
theorem scSame : FnScope ["_law_found", "_law_due", "_law_k"] ["_law_found", "_law_due"] (defScope sSame) := ⟨rfl, rfl, rfl, by decide +kernel, rfl, by decide +kernel, by decide +kernel⟩
def spSame (K : PySem.W.Frag) (n : Nat) : Sp := fun vs H Q _ => ∃ x y : V, vs = [x, y] ∧ Twin K H n x y ∧ ∀ H', Same H H' → Q (.bl true) H'
/-- the names that the comparison reads stand for the built-in ones -/
structure Blt (mg : Str → Option Value) : Prop where
  isi : mg "isinstance" = none
  lst : mg "list" = none
  tup : mg "tuple" = none
  len : mg "len" = none
  all : mg "all" = none
  rng : mg "range" = none
  bol : mg "bool" = none
  int : mg "int" = none
  str : mg "str" = none
  abs : mg "abs" = none
section
variable {P : Program} {w : World} {K : PySem.W.Frag} {mg : Str → Option Value} {base : Heap}
theorem not_same {b : Bool} {A B : Prop} (h : B) : if (!decide (V.bl b = V.bl b)) = true then A else B := by
  rw [decide_eq_true rfl]
  exact iteF h
theorem yes_if {σ : L2.St} {H : Hp} {A B : Hp → Prop} (h : A H) : tYes σ H fun b H3 => if b = true then A H3 else B H3 := by
  show if true = true then A H else B H
  exact iteT h
theorem ok_same {f : Addr} {fd : FuncData} (F : Fun K "_law_same" "_law_same" sSame f fd) (gf : mg "_law_same" = some (.ref f)) (bf : Binds K fd ["_law_found", "_law_due"] []) (T : Blt mg) :
    ∀ n : Nat, FnOk P w K mg base CX0 (n + 1) f fd ["_law_found", "_law_due"] (spSame K n) := by
  have top : ∀ (n k : Nat), (n = 0 ∨ ∃ m, n = m + 1 ∧ k = m + 1 ∧ FnOk P w K mg base CX0 (m + 1) f fd ["_law_found", "_law_due"] (spSame K m)) → FnOk P w K mg base CX0 (k + 1) f fd ["_law_found", "_law_due"] (spSame K n) := by
    intro n k hn
    -- what the recursion keeps: nothing at depth 0
    have G : ∃ (j : Nat) (sp : Sp), j ≤ k ∧ FnOk P w K mg base CX0 j f fd ["_law_found", "_law_due"] sp ∧ ∀ m, n = m + 1 → sp = spSame K m := by
      rcases hn with e | ⟨m, e, ek, g⟩
      · subst e
        exact ⟨0, fun _ _ _ _ => False, Nat.zero_le _, ⟨fun _ _ _ _ z => z.elim, fun _ _ _ _ _ _ _ _ _ _ _ _ _ z => z.elim⟩, fun m z => nomatch z⟩
      · exact ⟨m + 1, spSame K m, by omega, g, fun m' z => by rw [e] at z; cases z; rfl⟩
    obtain ⟨j, sp, hj, g, hsp⟩ := G
    refine F.ok scSame (fun vs H Q E h => ?_) (fun cdv A outer s H vs Q E hr h => ?_)
    · obtain ⟨x, y, rfl, _⟩ := h
      rfl
    · obtain ⟨x, y, rfl, tw, q⟩ := h
      refine ⟨_, pss_cons (ps_if (pt_val (pe_callB call_isiT (by rfl) T.isi (by decide +kernel) (pa_cons (pv 1) (pa_cons (pe_tup (pa_cons (pe_bltn (v := .ty "list") (by rfl) T.lst (by decide +kernel) rfl) (pa_cons (pe_bltn (v := .ty "tuple") (by rfl) T.tup (by decide +kernel) rfl) pa_nil))) pa_nil))))
          (pss_cons (ps_if (PW.pt (pw_or (pt_cmpR op_ne (pe_callB call_isi (by rfl) T.isi (by decide +kernel) (pa_cons (pv 0) (pa_cons (pe_bltn (v := .ty "list") (by rfl) T.lst (by decide +kernel) rfl) pa_nil))) (pe_callB call_isi (by rfl) T.isi (by decide +kernel) (pa_cons (pv 1) (pa_cons (pe_bltn (v := .ty "list") (by rfl) T.lst (by decide +kernel) rfl) pa_nil))) (nomark _))
              (pw_or1 (pt_cmpR op_ne (pe_callB call_isi (by rfl) T.isi (by decide +kernel) (pa_cons (pv 0) (pa_cons (pe_bltn (v := .ty "tuple") (by rfl) T.tup (by decide +kernel) rfl) pa_nil))) (pe_callB call_isi (by rfl) T.isi (by decide +kernel) (pa_cons (pv 1) (pa_cons (pe_bltn (v := .ty "tuple") (by rfl) T.tup (by decide +kernel) rfl) pa_nil))) (nomark _))))) (pss_one (ps_ret pe_bl)) pss_nil)
          (pss_one (ps_ret (pe_and (pe_cmpR op_eq (pe_callB call_len_seq (by rfl) T.len PySem.boot_len (pa_cons (pv 0) pa_nil)) (pe_callB call_len_seq (by rfl) T.len PySem.boot_len (pa_cons (pv 1) pa_nil)) (nomark _))
            (pe_one (pe_callB (cr_all rfl) (by rfl) T.all (by decide +kernel) (pa_cons (pe_lc (own := [("_law_k", 2)]) (g := gName 2) (tt := tYes) rfl scSame.nd (pi_range1 (by rfl) T.rng (pa_cons (pe_callB call_len_seq (by rfl) T.len PySem.boot_len (pa_cons (pv 1) pa_nil)) pa_nil))
              (blkOk_by (N := ["_law_found", "_law_due", "_law_k"]) (sc := defScope sSame) (by decide +kernel)) (fun _ _ _ _ _ => pg_name (i := 2) scSame.nd rfl (Or.inl rfl)) (fun _ _ _ _ _ => pts_nil)
              (fun _ _ _ _ _ => pe_call g (hr.mono hj) (by rfl) gf F.kp bf .nil pass0 (pa_cons (pe_ix (r := rIx K) ix_seq (pv 0) (pv 2) (fun _ _ => rfl)) (pa_cons (pe_ix (r := rIx K) ix_seq (pv 1) (pv 2) (fun _ _ => rfl)) pa_nil)))) pa_nil))))))) pss_nil)
        (pss_cons (ps_if (PW.pt (pw_or (pt_cmpR op_isN (pv 1) pe_non (nomark _)) (pw_or1 (pt_cmpR op_isN (pv 0) pe_non (nomark _))))) (pss_one (ps_ret (pe_and (pe_cmpR op_isN (pv 0) pe_non (nomark _)) (pe_one (pe_cmpR op_isN (pv 1) pe_non (nomark _)))))) pss_nil)
        (pss_cons (ps_if (PW.pt (pw_or (pt_cmpR op_ne (pe_callB call_isi (by rfl) T.isi (by decide +kernel) (pa_cons (pv 1) (pa_cons (pe_bltn (v := .ty "bool") (by rfl) T.bol (by decide +kernel) rfl) pa_nil))) (pe_callB call_isi (by rfl) T.isi (by decide +kernel) (pa_cons (pv 0) (pa_cons (pe_bltn (v := .ty "bool") (by rfl) T.bol (by decide +kernel) rfl) pa_nil))) (nomark _))
              (pw_or1 (pt_cmpR op_ne (pe_callB call_isi (by rfl) T.isi (by decide +kernel) (pa_cons (pv 1) (pa_cons (pe_bltn (v := .ty "int") (by rfl) T.int (by decide +kernel) rfl) pa_nil))) (pe_callB call_isi (by rfl) T.isi (by decide +kernel) (pa_cons (pv 0) (pa_cons (pe_bltn (v := .ty "int") (by rfl) T.int (by decide +kernel) rfl) pa_nil))) (nomark _))))) (pss_one (ps_ret pe_bl)) pss_nil)
        (pss_one (ps_ret (pe_and (pe_cmpR op_eq (pe_callB call_isi (by rfl) T.isi (by decide +kernel) (pa_cons (pv 1) (pa_cons (pe_bltn (v := .ty "str") (by rfl) T.str (by decide +kernel) rfl) pa_nil))) (pe_callB call_isi (by rfl) T.isi (by decide +kernel) (pa_cons (pv 0) (pa_cons (pe_bltn (v := .ty "str") (by rfl) T.str (by decide +kernel) rfl) pa_nil))) (nomark _))
            (pe_one (pe_cmpR op_eq (pv 0) (pv 1) (nomark _)))))))), ?_⟩
      refine ⟨_, rfl, (by show 2 ≤ sizeLine; decide), fun c nc => ?_⟩
      have sm : Same H (upd H c (.tup [.ty "list", .ty "tuple"])) := same_new nc
      have lt : Paired ClsV [V.ty "list", V.ty "tuple"] [.type "list", .type "tuple"] := .cons (.ty _) (.cons (.ty _) .nil)
      by_cases hs : x = y ∧ Scal K x
      · obtain ⟨rfl, ⟨t, b1, b2, b3, ty, k0, k1, k2, k3, ks⟩⟩ := hs
        refine ⟨x, c, _, t, _, false, rfl, upd_same, lt, ty _, k0, _, rfl, iteF ?_⟩
        refine ⟨_, rfl, rfl, _, rfl, ite2 (fun e => ?_) (fun e => ?_)⟩
        · have en : x = .non := of_decide_eq_true e
          subst en
          refine iteT ⟨_, rfl, rfl, _, rfl, iteT ⟨_, rfl, rfl, ?_⟩⟩
          exact q _ sm
        · refine ⟨_, rfl, rfl, _, rfl, ?_⟩
          rw [eq_false_of_ne_true e]
          refine iteF ?_
          refine ⟨_, rfl, x, _, t, _, b1, rfl, .ty _, ty _, k1, _, rfl, x, _, t, _, b1, rfl, .ty _, ty _, k1, rfl, _, rfl, not_same ?_⟩
          refine ⟨_, rfl, x, _, t, _, b2, rfl, .ty _, ty _, k2, _, rfl, x, _, t, _, b2, rfl, .ty _, ty _, k2, rfl, _, rfl, not_same ?_⟩
          refine ⟨_, rfl, x, _, t, _, b3, rfl, .ty _, ty _, k3, _, rfl, x, _, t, _, b3, rfl, .ty _, ty _, k3, rfl, _, rfl, ?_⟩
          rw [decide_eq_true rfl]
          refine iteT ⟨_, rfl, _, rfl, ks, ?_⟩
          rw [decide_eq_true rfl]
          exact q _ sm
      · cases n with
        | zero => exact absurd tw hs
        | succ m =>
          have esp := hsp m rfl
          subst esp
          rcases tw with tw | ⟨a, b, xs, ys, rfl, rfl, kd, hl, hl2, r⟩
          · exact absurd tw hs
          · have kd' : ∀ H', Same H H' → (SqL K H' a xs ∧ SqL K H' b ys) ∨ (SqT K H' a xs ∧ SqT K H' b ys) := fun H' z => by
              rcases kd with ⟨q1, q2⟩ | ⟨q1, q2⟩
              · exact .inl ⟨z.seq q1, z.seq q2⟩
              · exact .inr ⟨seqT z q1, seqT z q2⟩
            have tys : ∃ (t : Value) (b1 b2 : Bool), (∀ H', Same H H' → TyX K H' (.ref a) t ∧ TyX K H' (.ref b) t) ∧ PySem.W.kitAny K t [.type "list", .type "tuple"] = some true ∧ PySem.W.kitOne K t (.type "list") = some b1 ∧ PySem.W.kitOne K t (.type "tuple") = some b2 := by
              rcases kd with ⟨q1, q2⟩ | ⟨q1, q2⟩
              · exact ⟨.type "list", true, false, fun H' z => ⟨tyL (z.seq q1), tyL (z.seq q2)⟩, kitAny_cons (b := true) (kit_ty (by decide +kernel)) (fun z => nomatch z) (fun _ => rfl), kit_ty (by decide +kernel), kit_ty (by decide +kernel)⟩
              · exact ⟨.type "tuple", false, true, fun H' z => ⟨tyT (seqT z q1), tyT (seqT z q2)⟩, kitAny_cons (b := false) (kit_ty (by decide +kernel)) (fun _ => kitAny_cons (b := true) (kit_ty (by decide +kernel)) (fun z => nomatch z) (fun _ => rfl)) (fun z => nomatch z), kit_ty (by decide +kernel), kit_ty (by decide +kernel)⟩
            obtain ⟨t, b1, b2, ty, k0, k1, k2⟩ := tys
            have ls : ∀ H', Same H H' → (SqL K H' a xs ∨ SqT K H' a xs) ∧ (SqL K H' b ys ∨ SqT K H' b ys) := fun H' z => by
              rcases kd' H' z with ⟨q1, q2⟩ | ⟨q1, q2⟩
              · exact ⟨.inl q1, .inl q2⟩
              · exact ⟨.inr q1, .inr q2⟩
            have ixs : ∀ (H' : Hp), Same H H' → ∀ (zs : List V) (z : Addr) (i : Nat) (v : V) (Q' : VK), (SqL K H' z zs ∨ SqT K H' z zs) → zs[i]? = some v → Q' v H' → rIx K (.ref z) (.int (0 + (i : Int))) H' Q' := fun H' _ zs z i v Q' hz hv hq => by
              have e : (0 : Int) + (i : Int) = (i : Int) := Int.zero_add _
              rw [e]
              rcases hz with hz | hz
              · exact .inl ⟨z, zs, i, v, rfl, rfl, hz, atI_nat hv, hq⟩
              · exact .inr (.inl ⟨z, zs, i, v, rfl, rfl, hz, atI_nat hv, hq⟩)
            refine ⟨_, c, _, t, _, true, rfl, upd_same, lt, (ty _ sm).2, k0, _, rfl, iteT ?_⟩
            refine ⟨_, rfl, _, _, t, _, b1, rfl, .ty _, (ty _ sm).1, k1, _, rfl, _, _, t, _, b1, rfl, .ty _, (ty _ sm).2, k1, rfl, _, rfl, not_same ?_⟩
            refine ⟨_, rfl, _, _, t, _, b2, rfl, .ty _, (ty _ sm).1, k2, _, rfl, _, _, t, _, b2, rfl, .ty _, (ty _ sm).2, k2, rfl, _, rfl, not_same ?_⟩
            refine ⟨_, rfl, a, xs, rfl, (ls _ sm).1, _, rfl, b, ys, rfl, (ls _ sm).2, rfl, _, rfl, ?_⟩
            rw [hl, decide_eq_true rfl]
            refine iteT ⟨_, rfl, b, ys, rfl, (ls _ sm).2, (ys.length : Int), rfl, by omega, by omega, fun D hD => ?_⟩
            have sD := sm.trans (same_new (o := .lst []) hD)
            refine lc_range (lo := 0) (n := (ys.length : Int).toNat) (fun i H' => Same H H' ∧ H D = none ∧ H' D = some (.lst ((List.replicate i true).map V.bl))) ⟨sD, sm.free hD, upd_same⟩ (fun i H' hi hP => ?_) (fun H' hP => ?_)
            · obtain ⟨s1, nD, eD⟩ := hP
              have hi' : i < ys.length := by omega
              have hx : xs[i]? = some (xs[i]'(by omega)) := List.getElem?_eq_getElem (by omega)
              have hy : ys[i]? = some ys[i] := List.getElem?_eq_getElem hi'
              refine ⟨rfl, yes_if ?_⟩
              refine ⟨_, rfl, _, rfl, ixs H' s1 xs a i _ _ (ls _ s1).1 hx ⟨_, rfl, _, rfl, ixs H' s1 ys b i _ _ (ls _ s1).2 hy ⟨_, _, rfl, (r i _ _ hx hy).same s1, fun H2 s2 => ?_⟩⟩⟩
              refine ⟨_, s2 _ _ eD, ?_, ?_, nD, ?_⟩
              · rw [List.length_map, List.length_replicate]
                exact small1000 (by omega)
              · exact fun z o hz => by
                  rw [upd_ne (ne_of_none hz nD)]
                  exact s2 _ _ (s1 _ _ hz)
              · rw [upd_same, List.replicate_succ', List.map_append]
                rfl
            · obtain ⟨s1, nD, eD⟩ := hP
              refine ⟨D, List.replicate (ys.length : Int).toNat true, rfl, SqL.of eD, ?_⟩
              have e : (List.replicate (ys.length : Int).toNat true).all id = true := by
                rw [List.all_replicate]
                split <;> rfl
              rw [e]
              exact q _ s1
  intro n
  induction n with
  | zero => exact top 0 0 (.inl rfl)
  | succ m ih => exact top (m + 1) (m + 1) (.inr ⟨m, rfl, rfl, ih⟩)
end
open LamX
/-- keep, behind a statement -/
theorem keepN {a b : TS} {D : Ends} {rt : VK} {bk ct : L2.St → Hp → Prop} {σ : L2.St} {H : Hp} (M : L2.St → Hp → Prop) (h : ∀ σ' H', M σ' H' → b D σ' H') (k : (∀ σ' H', M σ' H' → b D σ' H') → a { D with nx := b D } σ H) : Ends.nx { nx := tSeq a b D, rt := rt, bk := bk, ct := ct } σ H := k h
/-- the bag and the tables of code objects stand -/
structure Ok (l b : Addr) (T : List (Addr × Str)) (H : Hp) : Prop where
  bag : Bag l b H
  tab : Tabs T H
theorem tabs_lst {D : Addr} {xs : List V} {T : List (Addr × Str)} {H H' : Hp} (hD : H D = some (.lst xs)) (t : Tabs T H) (g : Grow D H H') : Tabs T H' := fun p hp => by
  obtain ⟨ps, h1, h2, h3⟩ := t p hp
  refine ⟨ps, g _ _ (fun z => ?_) h1, h2, fun pos cv hc => ?_⟩
  · rw [z, hD] at h1
    cases h1
  · obtain ⟨c, e1, e2⟩ := h3 pos cv hc
    refine ⟨c, e1, g _ _ (fun z => ?_) e2⟩
    rw [z, hD] at e2
    have e3 := Option.some.inj e2
    unfold CodeO at e3
    cases e3
theorem tabs_grow {l b : Addr} {T : List (Addr × Str)} {H H' : Hp} (B : Bag l b H) (t : Tabs T H) (g : Grow b H H') : Tabs T H' := by
  obtain ⟨ns, _, _, ⟨i, j, s, n, hb, _⟩⟩ := B
  exact tabs_lst hb t g
theorem Ok.grow {l b : Addr} {T : List (Addr × Str)} {H H' : Hp} (o : Ok l b T H) (g : Grow b H H') (B : Bag l b H') : Ok l b T H' := ⟨B, tabs_grow o.bag o.tab g⟩
theorem Ok.same {l b : Addr} {T : List (Addr × Str)} {H H' : Hp} (o : Ok l b T H) (s : Same H H') : Ok l b T H' := ⟨o.bag.same s, o.tab.ext s⟩
theorem Ok.ext {l b : Addr} {T : List (Addr × Str)} {H H' : Hp} (o : Ok l b T H) (e : ExtN H H') (t : Tabs T H') : Ok l b T H' := by
  obtain ⟨ns, nl, hl, ⟨i, j, s, n, hb, r⟩⟩ := o.bag
  exact ⟨⟨ns, nl, e _ _ hl (fun _ z => nomatch z), ⟨i, j, s, n, e _ _ hb (fun _ z => nomatch z), r⟩⟩, t⟩
/-- a list that is being built stands beside the bag -/
theorem Bag.beside {l b D : Addr} {H : Hp} {o : HO} (B : Bag l b H) (n1 : D ≠ b) (n2 : D ≠ l) : Bag l b (upd H D o) := by
  obtain ⟨ns, nl, hl, ⟨i, j, s, n, hb, r⟩⟩ := B
  exact ⟨ns, nl, by rw [upd_ne n2.symm]; exact hl, ⟨i, j, s, n, by rw [upd_ne n1.symm]; exact hb, r⟩⟩
theorem Bag.neL {l b p : Addr} {H : Hp} (B : Bag l b H) (h : H p = none) : p ≠ l := fun z => by
  obtain ⟨ns, nl, hl, _⟩ := B
  rw [z, hl] at h
  cases h
def shV (t b : Int) : HO := .tup [.int t, .int b]
theorem twin_sh {K : PySem.W.Frag} {H : Hp} {p q : Addr} {t b : Int} (hp : H p = some (shV t b)) (hq : H q = some (shV t b)) : Twin K H 1 (.ref p) (.ref q) :=
  .inr ⟨p, q, _, _, rfl, rfl, .inr ⟨SqT.of hp, SqT.of hq⟩, rfl, (by show 2 ≤ 1000; decide), fun i u v hu hv => by
    have e : u = v := Option.some.inj (hu.symm.trans hv)
    subst e
    match i with
    | 0 => cases hu; exact ⟨rfl, Scal.int t⟩
    | 1 => cases hu; exact ⟨rfl, Scal.int b⟩
    | i + 2 => cases hu⟩
theorem Twin.up {K : PySem.W.Frag} {H : Hp} : ∀ {n : Nat} {x y : V}, Twin K H n x y → Twin K H (n + 1) x y
  | 0, _, _, h => .inl h
  | n + 1, _, _, h => by
    rcases h with h | ⟨a, b, xs, ys, e1, e2, q, l, m, r⟩
    · exact .inl h
    · exact .inr ⟨a, b, xs, ys, e1, e2, q, l, m, fun i u v hu hv => (r i u v hu hv).up⟩
theorem paired_at {R : V → V → Prop} : ∀ {xs ys : List V}, Paired R xs ys → ∀ (i : Nat) (u v : V), xs[i]? = some u → ys[i]? = some v → R u v
  | _, _, .nil, _, _, _, hu, _ => by cases hu
  | _, _, .cons h _, 0, _, _, hu, hv => by cases hu; cases hv; exact h
  | _, _, .cons _ r, i + 1, u, v, hu, hv => paired_at r i u v hu hv
/-- lists or tuples item by item -/
theorem twin_all {K : PySem.W.Frag} {H : Hp} {n : Nat} {a b : Addr} {xs ys : List V} (h : (SqL K H a xs ∧ SqL K H b ys) ∨ (SqT K H a xs ∧ SqT K H b ys)) (l : ys.length ≤ 1000) (r : Paired (Twin K H n) xs ys) : Twin K H (n + 1) (.ref a) (.ref b) :=
  .inr ⟨a, b, xs, ys, rfl, rfl, h, Paired.length r, l, paired_at r⟩
end Nv

set_option maxRecDepth 100000
set_option maxHeartbeats 4000000
namespace Nv
open PySem PySem.Spec PyProof.Rows L2 LamX
abbrev sBT : Stmt := inClass (topS 2) 0
abbrev sNeed : Stmt := topS 27
abbrev sAsked : Stmt := topS 33
theorem scBT : FnScope ["self", "at"] ["self", "at"] (defScope sBT) := ⟨rfl, rfl, rfl, by decide +kernel, rfl, by decide +kernel, by decide +kernel⟩
theorem scNeed : FnScope ["rows", "at", "row"] ["rows"] (defScope sNeed) := ⟨rfl, rfl, rfl, by decide +kernel, rfl, by decide +kernel, by decide +kernel⟩
theorem scAsked : FnScope ["_law_ask", "e"] ["_law_ask"] (defScope sAsked) := ⟨rfl, rfl, rfl, by decide +kernel, rfl, by decide +kernel, by decide +kernel⟩
/-- the fields of BadTable -/
def atOf (i : Int) : List (Str × V) := (Str.ofString "at", .int i) :: wordOf "BadTable"
def spBT (C : Addr) : Sp := fun vs H Q _ => ∃ (a : Addr) (i : Int), vs = [.ref a, .int i] ∧ 0 ≤ i ∧ i ≤ 1000 ∧ H a = some (exo a C none) ∧ ∀ dx H', H dx = none → dx ≠ a → (∀ z, z ≠ a → z ≠ dx → H' z = H z) → H' a = some (exo a C (some dx)) → H' dx = some (exd dx (atOf i)) → Q .non H'
/-- what is known of NeverError (at CN, its __init__ at fN) and BadTable (at C, its __init__ at fI) -/
structure Errs (K : PySem.W.Frag) (mg : Str → Option Value) (CN C CT CX fN fI : Addr) : Prop where
  oex : OexC K C
  xf : XfC K C
  word : PySem.W.findIn K (.ref C) "word" = some none
  at_ : PySem.W.findIn K (.ref C) "at" = some none
  flaw : PySem.W.findIn K (.ref C) "flaw" = some none
  gC : mg "BadTable" = some (.ref C)
  gN : mg "NeverError" = some (.ref CN)
  gT : mg "BadTerm" = some (.ref CT)
  gX : mg "BadText" = some (.ref CX)
  iC : PySem.W.findIn K (.ref C) "__init__" = some (some (.ref fI))
  tI : PySem.W.typeIn K (.ref fI) = some (.type "function")
  rd : ClX.CRead K CN (.type "type")
  cv : ClX.CVal K CN (.type "type") "__init__" (.ref fN) (.ref fN)
  kp : PySem.W.keepIn K (.ref fN) = true
  miss : PySem.W.exmOne K (.ref C) (.ref CT) = some false
  hit : PySem.W.exmAny K (.ref C) [.ref C, .ref CX] = some true
theorem row_fits {i : Int} (h : i.natAbs.log2 < 1920) : (Str.ofString (toString i)).length ≤ 1921 := by
  have e := PySem.int_text_length_le (k := 1920) (by decide) h
  rw [PySem.ofString_length]
  omega
theorem small_log {i : Int} (h0 : 0 ≤ i) (h : i ≤ 1000) : i.natAbs.log2 < 1920 := Nat.lt_trans (PySem.Flt.log2_lt_of (k := 10) (by decide) (Nat.lt_of_le_of_lt (show i.natAbs ≤ 1000 by omega) (by decide))) (by decide)
section
variable {P : Program} {w : World} {K : PySem.W.Frag} {mg : Str → Option Value} {base : Heap} {CN C CT CX fN fI : Addr}
theorem ok_BT {f : Addr} {fd fdN : FuncData} (F : Fun K "__init__" "BadTable.__init__" sBT f fd) (R : Errs K mg CN C CT CX fN fI) (GN : FnOk P w K mg base CX0 1 fN fdN ["self", "word", "message"] (spNE K)) (bN : Binds K fdN ["self", "word", "message"] []) :
    FnOk P w K mg base CX0 2 f fd ["self", "at"] (spBT C) := by
  refine F.ok scBT (fun vs H Q E h => ?_) (fun cdv A outer s H vs Q E hr h => ?_)
  · obtain ⟨a, i, rfl, _⟩ := h
    rfl
  · obtain ⟨a, i, rfl, i0, i1, ha, q⟩ := h
    refine ⟨_, pss_cons (ps_expr (pe_clsdef (pe_glob (v := .ref CN) (by rfl) R.gN rfl) R.rd R.cv R.kp GN hr bN .nil pass0 (pa_cons (pv 0) (pa_cons pe_str (pa_cons (pe_joined (.cons pe_str (.cons (pe_fmt (pv 1)) (.cons pe_str .nil)))) pa_nil)))))
      (pss_one (ps_ost (pv 0) (pv 1))), ?_⟩
    have hl := row_fits (small_log i0 i1)
    refine ⟨rfl, _, rfl, _, rfl, (by decide +kernel), _, rfl, .inr ⟨i, rfl, small_log i0 i1, _, rfl, ?_, _, rfl, ?_, ?_⟩⟩
    · rw [Str.length_append, show (Str.empty ++ Str.ofString "row ").length = 4 by decide +kernel, sizeLine_eq]
      omega
    · rw [Str.length_append, Str.length_append, show (Str.empty ++ Str.ofString "row ").length = 4 by decide +kernel, show (Str.ofString " is not as long as there are rows").length = 33 by decide +kernel, sizeLine_eq]
      omega
    · refine ⟨a, C, _, _, rfl, R.oex, R.word, ha, fun dx nx ne => ?_⟩
      refine ⟨_, rfl, _, rfl, a, C, rfl, R.oex, R.at_, .inr ⟨dx, wordOf "BadTable", upd_same, ?_, (by show 1 ≤ 900; decide), ?_⟩⟩
      · rw [upd_ne ne, upd_same]
      · refine q dx _ nx ne (fun z h1 h2 => ?_) ?_ upd_same
        · rw [upd_ne h2, upd_ne h1, upd_ne h2]
        · rw [upd_ne (Ne.symm ne), upd_same]
/-- BadTable is raised -/
def raisesAt (C : Addr) (H : Hp) (E : XK) (i : Int) : Prop := ∀ d H', Same H H' → H d = none → H' d = some (.xd (atOf i)) → E (.ref C) (some d) H'
/-- a row of so many things -/
def Long (K : PySem.W.Frag) (H : Hp) (v : V) (n : Nat) : Prop := ∃ (r : Addr) (xs : List V), v = .ref r ∧ SqL K H r xs ∧ xs.length = n
/-- the first row that isn't as long as there are rows -/
def firstBad (n : Nat) (lens : List Nat) : Option Nat := lens.findIdx? fun k => decide (k ≠ n)
def spNeed (K : PySem.W.Frag) (C : Addr) : Sp := fun vs H Q E => ∃ (r : Addr) (xs : List V) (lens : List Nat), vs = [.ref r] ∧ SqL K H r xs ∧ Paired (Long K H) xs lens ∧ lens.length ≤ 1000 ∧ (lens.length = 0 → raisesAt C H E 0) ∧
  (lens.length ≠ 0 → ∀ i, firstBad lens.length lens = some i → raisesAt C H E i) ∧ (lens.length ≠ 0 → firstBad lens.length lens = none → ∀ H', Same H H' → Q .non H')
theorem Long.same {H H' : Hp} (s : Same H H') {v : V} {n : Nat} (h : Long K H v n) : Long K H' v n := by
  obtain ⟨r, xs, e, q, l⟩ := h
  exact ⟨r, xs, e, s.seq q, l⟩
theorem paired_get {α β : Type} {R : α → β → Prop} : ∀ {xs : List α} {ys : List β}, Paired R xs ys → ∀ {i : Nat} {x : α}, xs[i]? = some x → ∃ y, ys[i]? = some y ∧ R x y
  | _, _, .nil, _, _, h => by cases h
  | _, _, .cons h _, 0, _, e => by cases e; exact ⟨_, rfl, h⟩
  | _, _, .cons _ r, i + 1, _, e => paired_get r e
/-- the raising of BadTable(i) -/
theorem raise_at {H : Hp} {E : XK} {i : Int} (i0 : 0 ≤ i) (i1 : i ≤ 1000) (q : raisesAt C H E i) : [V.int i].length ≤ 1000 ∧ ∀ a, H a = none → spBT C (.ref a :: ([.int i] ++ [])) (upd H a (exo a C none))
    (fun v H2 => v = .non ∧ ∃ (d : Addr) (fs : List (Str × V)), H2 a = some (exo a C (some d)) ∧ H2 d = some (exd d fs) ∧ H d = none ∧ E (.ref C) (some d) (upd (del H2 a) d (.xd fs))) (fun _ _ _ => False) := by
  refine ⟨(by show 1 ≤ 1000; decide), fun a na => ⟨a, i, rfl, i0, i1, upd_same, fun dx H' nx ne keep h1 h2 => ⟨rfl, dx, atOf i, h1, h2, ?_, ?_⟩⟩⟩
  · rw [upd_ne ne] at nx
    exact nx
  · have hd : H dx = none := by
      rw [upd_ne ne] at nx
      exact nx
    refine q dx _ (fun z o hz => ?_) hd upd_same
    have n1 : z ≠ a := ne_of_none hz na
    have n2 : z ≠ dx := ne_of_none hz hd
    rw [upd_ne n2, del_ne n1, keep z n1 n2, upd_ne n1]
    exact hz
theorem ok_need {f : Addr} {fd fdI : FuncData} (F : Fun K "need_table" "need_table" sNeed f fd) (R : Errs K mg CN C CT CX fN fI) (GI : FnOk P w K mg base CX0 2 fI fdI ["self", "at"] (spBT C)) (bI : Binds K fdI ["self", "at"] []) (T : Blt mg) (me : mg "enumerate" = none) :
    FnOk P w K mg base (L2.CX P w) 4 f fd ["rows"] (spNeed K C) := by
  refine F.okX scNeed (fun vs H Q E h => ?_) (fun cdv A outer s H vs Q E hr h => ?_)
  · obtain ⟨r, xs, lens, rfl, _⟩ := h
    rfl
  · obtain ⟨r, xs, lens, rfl, hS, hL, hn, q0, q1, q2⟩ := h
    have hlen : xs.length = lens.length := Paired.length hL
    refine ⟨_, pss_cons (ps_if (pt_cmpR op_eq (pe_callB call_len_seq (by rfl) T.len PySem.boot_len (pa_cons (pv 0) pa_nil)) pe_int (nomark _)) (pss_one (ps_raise rfl (takes_of rfl rfl rfl rfl) (pmk_oex R.oex R.iC R.tI GI hr bI .nil pass0 (by rfl) R.gC (pa_cons pe_int pa_nil)))) pss_nil)
      (pss_one (ps_for (passes_of rfl) rfl (pi_enum (by rfl) me (pa_cons (pv 0) pa_nil)) (pg_tup rfl (pgs_cons (pg_name (i := 1) scNeed.nd rfl (.inl rfl)) (pgs_cons (pg_name (i := 2) scNeed.nd rfl (.inl rfl)) pgs_nil)))
        (pss_one (ps_if (pt_cmpR op_ne (pe_callB call_len_seq (by rfl) T.len PySem.boot_len (pa_cons (pv 2) pa_nil)) (pe_callB call_len_seq (by rfl) T.len PySem.boot_len (pa_cons (pv 0) pa_nil)) (nomark _))
          (pss_one (ps_raise rfl (takes_of rfl rfl rfl rfl) (pmk_oex R.oex R.iC R.tI GI hr bI .nil pass0 (by rfl) R.gC (pa_cons (pv 1) pa_nil)))) pss_nil)))), ?_⟩
    refine ⟨_, rfl, r, xs, rfl, .inl hS, rfl, _, rfl, ite2 (fun c => ?_) (fun c => ?_)⟩
    · have e : ((xs.length : Nat) : Int) = 0 := V.int.inj (of_decide_eq_true c)
      exact raise_at (by decide) (by decide) (q0 (by omega))
    · have e : lens.length ≠ 0 := fun z => c (by
        show decide (V.int (xs.length : Int) = V.int 0) = true
        rw [hlen, z]
        exact decide_eq_true rfl)
      refine ⟨_, rfl, r, xs, rfl, hS, for_it (walk_enum (xs := xs)) (fun i σ H' => ∃ y1 y2, σ = [some (.ref r), y1, y2] ∧ Same H H' ∧ ∀ j, j < i → lens[j]? = some lens.length) ⟨none, none, rfl, Same.refl H, fun j hj => absurd hj (Nat.not_lt_zero j)⟩ (fun i σ H' _ hP => ?_) ?_ ?_⟩
      · obtain ⟨_, _, _, sm, _⟩ := hP
        exact sm.seq hS
      · rintro i x σ H1 H2 hi ⟨y1, y2, rfl, sm, before⟩ ⟨tp, u, v, rfl, nt, rfl, eu, ev⟩
        cases eu
        obtain ⟨k, ek, r2, zs, rfl, hz, rfl⟩ := paired_get hL ev
        have s2 : Same H (upd H1 tp (.tup [.int (i : Nat), .ref r2])) := sm.trans (same_new nt)
        refine ⟨tp, _, rfl, SqT.of upd_same, rfl, _, _, rfl, _, _, rfl, rfl, ?_⟩
        refine ⟨_, rfl, r2, zs, rfl, .inl (s2.seq hz), _, rfl, r, xs, rfl, .inl (s2.seq hS), rfl, _, rfl, ite2 (fun c2 => ?_) (fun c2 => ?_)⟩
        · have ne : zs.length ≠ lens.length := fun z => by
            rw [hlen, z, decide_eq_true rfl] at c2
            cases c2
          refine ⟨_, rfl, raise_at (by omega) (by omega) ?_⟩
          have fb : firstBad lens.length lens = some i := by
            unfold firstBad
            rw [List.findIdx?_eq_some_iff_getElem]
            obtain ⟨hlt, el⟩ := List.getElem?_eq_some_iff.mp ek
            refine ⟨hlt, ?_, fun j hj => ?_⟩
            · rw [el]
              exact decide_eq_true ne
            · obtain ⟨hlt2, el2⟩ := List.getElem?_eq_some_iff.mp (before j hj)
              rw [el2]
              simp
          intro d H' s3 nd ed
          exact q1 e i fb d H' (s2.trans s3) (s2.free nd) ed
        · have ee : zs.length = lens.length := Classical.byContradiction fun z => c2 (by
            rw [hlen, decide_eq_false (fun y => z (by have := V.int.inj y; omega))]
            rfl)
          refine ⟨_, _, rfl, s2, fun j hj => ?_⟩
          by_cases hji : j < i
          · exact before j hji
          · have : j = i := by omega
            subst this
            rw [ek, ee]
      · rintro σ H' ⟨y1, y2, rfl, sm, before⟩
        refine q2 e ?_ H' sm
        unfold firstBad
        rw [List.findIdx?_eq_none_iff]
        intro k hk
        obtain ⟨j, hj, ej⟩ := List.mem_iff_getElem.mp hk
        obtain ⟨hlt2, el2⟩ := List.getElem?_eq_some_iff.mp (before j (by omega))
        rw [← ej, el2]
        simp
end
end Nv

set_option maxRecDepth 100000
set_option maxHeartbeats 4000000
namespace Nv
open PySem PySem.Spec PyProof.Rows L2 LamX
/-! _law_asked -/
def eAsked (C : Addr) (Q : VK) : XK := fun cls d H' => cls = .ref C ∧ ∃ (dd : Addr) (i : Int), d = some dd ∧ H' dd = some (.xd (atOf i)) ∧ ∀ p, H' p = none → Q (.ref p) (upd H' p (.tup [.str "no", .str "BadTable", .int i]))
def TAsked (C : Addr) : (XK → Hp → VK → Prop) → Hp → VK → Prop := fun tl H Q => tl (eAsked C Q) H fun v H' => [V.str "told", v].length ≤ sizeLine ∧ ∀ p, H' p = none → Q (.ref p) (upd H' p (.tup [.str "told", v]))
section
variable {X : Cx} {CN C CT CX fN fI : Addr}
theorem asked_gives {g : Addr} {cdg : Value} {q : Str} (R : Errs X.K X.mg CN C CT CX fN fI) :
    GivesTo X ["_law_ask", "e"] "_law_asked" (defScope sAsked) g cdg (defBody sAsked) "_law_ask" q (TAsked C) := by
  intro f c' s H Q tl act hc h
  refine ⟨_, pss_one (ps_try_named (X := (cxOf C8.CX0 X.prog X.w X.K X.mg X.base ["_law_ask", "e"] "_law_asked" (defScope sAsked) g cdg X.A X.stack s H C8.E0).nox)
      (cl := [([.ref CT], 1, fun a cls d => tRet (tTup (tCons (tC (.str "no")) (tCons (tXf a cls d C "word" (tVar 1)) (tCons (tXf a cls d C "flaw" (tVar 1)) tNil))))), ([.ref C, .ref CX], 1, fun a cls d => tRet (tTup (tCons (tC (.str "no")) (tCons (tXf a cls d C "word" (tVar 1)) (tCons (tXf a cls d C "at" (tVar 1)) tNil)))))])
      (tb := fun W D σ H => ∃ Ech : XK, (∀ cls d σ' H', Ech cls d H' → σ'.length = 2 → W cls d σ' H') ∧ σ = [some (.ref f), none] ∧ H c' = some (CodeO c' q) ∧ tl Ech H fun v H' => [V.str "told", v].length ≤ sizeLine ∧ ∀ p, H' p = none → D.rt (.ref p) (upd H' p (.tup [.str "told", v])))
      rfl rfl scAsked.nd (fun W pn xe tk _ => ?_)
      (.one rfl rfl ⟨by rfl, by decide, .inl R.gT⟩ (fun a oe cls d pn hz hf => pss_one (ps_ret (pe_tup (pa_cons pe_str (pa_cons (pe_xf R.xf R.word hz hf (pv 1)) (pa_cons (pe_xf R.xf R.flaw hz hf (pv 1)) pa_nil))))))
        (.two rfl rfl (by rfl) (by decide) R.gC (by rfl) (by decide) R.gX (fun a oe cls d pn hz hf => pss_one (ps_ret (pe_tup (pa_cons pe_str (pa_cons (pe_xf R.xf R.word hz hf (pv 1)) (pa_cons (pe_xf R.xf R.at_ hz hf (pv 1)) pa_nil)))))) .stop))), ?_⟩
  · refine ⟨fun pins s' σ H' D I h' => ?_⟩
    obtain ⟨Ech, hW, h1, h2, h3⟩ := h'
    have tk' : Takes ((cxOf C8.CX0 X.prog X.w X.K X.mg X.base ["_law_ask", "e"] "_law_asked" (defScope sAsked) g cdg X.A X.stack s H C8.E0).tr pn xe) (fun cls d σ H => σ.length = 2 → W cls d σ H) := fun u s2 z => by
      obtain ⟨a, B, sI, pins2, σ2, H2, cls, d, e, J, nb, up, sky, na, os, ag, w⟩ := z
      exact tk u s2 ⟨a, B, sI, pins2, σ2, H2, cls, d, e, J, nb, up, sky, na, os, ag, w J.len⟩
    have hp := fun p1 p2 => act _ pn xe Ech p1 p2 tk' hW
    refine (pss_one (ps_ret (pe_tup (pa_cons pe_str (pa_cons (hp _ _) pa_nil))))).run pins s' σ H' D I ?_
    subst h1
    exact ⟨rfl, h2, h3⟩
  · refine ⟨eAsked C Q, fun cls d σ' H' hE hl => ?_, rfl, hc, h⟩
    obtain ⟨rfl, dd, i, rfl, hd, hq⟩ := hE
    refine ⟨false, R.miss, (fun z => nomatch z), fun _ => ⟨true, R.hit, fun _ a na => ?_, (fun z => nomatch z)⟩⟩
    have hs : (σ'.set 1 (some (V.ref a)))[1]? = some (some (V.ref a)) := by
      rw [List.getElem?_set_self (by omega)]
    exact ⟨_, hs, rfl, rfl, dd, atOf i, .str "BadTable", rfl, hd, rfl, _, hs, rfl, rfl, dd, atOf i, .int i, rfl, hd, rfl, (by show 3 ≤ sizeLine; decide), fun p hp => hq p hp⟩
end
/-! Units -/
def retE : List Stmt → Expr
  | [.Return (some e) _] => e
  | _ => .Constant .none 0 ⟨0, 0, 0, 0⟩
def lcScope : Expr → Scope
  | .ListComp _ _ sc _ => sc
  | _ => { kind := .function, names := [], isGenerator := false, isCoroutine := false }
/-- a comprehension within a comprehension that reads x alone of those around -/
theorem blk_nest {N : List Str} {sc sc0 scope : Scope} {own : List (Str × Nat)} (h : BlkOk N sc0 scope own) (x : Str) (hx : (scope.names.all fun y => !decide (y.2 = .free) || decide (y.1 = x)) = true) (hl : sc.names.lookup x = some .cell ∨ sc.names.lookup x = some .free) : BlkOk N sc scope own :=
  ⟨h.kind, h.uniq, h.ix, fun y hy e => by
    have z := List.all_eq_true.mp hx y hy
    rw [Bool.or_eq_true, Bool.not_eq_true', decide_eq_false_iff_not, decide_eq_true_eq] at z
    rcases z with z | z
    · exact absurd e z
    · rw [z]
      exact hl, h.own⟩
/-- row i of a unit of size n; its list is new since H0 -/
def RowU (K : PySem.W.Frag) (H0 H : Hp) (v : V) (i n : Nat) : Prop := ∃ (r : Addr) (xs : List V), v = .ref r ∧ H0 r = none ∧ H r = some (.lst xs) ∧ xs.length = n ∧ ∀ (j : Nat) (x : V), xs[j]? = some x → ∃ p, x = .ref p ∧ SqT K H p [.int (if i = j then 1 else 0), .int 1]
def UnitAt (K : PySem.W.Frag) (H0 H : Hp) (p : Addr) (n : Nat) : Prop := ∃ rs : List V, H p = some (.lst rs) ∧ rs.length = n ∧ ∀ (i : Nat) (v : V), rs[i]? = some v → RowU K H0 H v i n
def spUnit (K : PySem.W.Frag) : Sp := fun vs H Q _ => ∃ n : Nat, vs = [.int n] ∧ n ≤ 1000 ∧ ∀ (p : Addr) (H' : Hp), Same H H' → H p = none → UnitAt K H H' p n → Q (.ref p) H'
abbrev sUnit : Stmt := topS 26
abbrev sLUnit : Stmt := topS 37
theorem scUnit : FnScope ["size", "row", "column"] ["size"] (defScope sUnit) := ⟨rfl, rfl, rfl, by decide +kernel, rfl, by decide +kernel, by decide +kernel⟩
theorem scLUnit : FnScope ["_law_size", "_law_row", "_law_column"] ["_law_size"] (defScope sLUnit) := ⟨rfl, rfl, rfl, by decide +kernel, rfl, by decide +kernel, by decide +kernel⟩
theorem sqT_lst {K : PySem.W.Frag} {H H' : Hp} {D p : Addr} {xs zs : List V} (hD : H D = some (.lst xs)) (g : Grow D H H') (h : SqT K H p zs) : SqT K H' p zs := by
  rcases h with (h | ⟨o, h⟩) | h
  · exact .inl (.inl (g _ _ (fun z => by rw [z, hD] at h; cases h) h))
  · exact .inl (.inr ⟨o, g _ _ (fun z => by rw [z, hD] at h; cases h) h⟩)
  · exact .inr h
theorem RowU.grow {K : PySem.W.Frag} {H0 H H' : Hp} {D : Addr} {ys : List V} {v : V} {i n : Nat} (hD : H D = some (.lst ys)) (g : Grow D H H') (nv : v ≠ .ref D) (h : RowU K H0 H v i n) : RowU K H0 H' v i n := by
  obtain ⟨r, xs, rfl, h0, h1, h2, h3⟩ := h
  refine ⟨r, xs, rfl, h0, g _ _ (fun z => nv (by rw [z])) h1, h2, fun j x hx => ?_⟩
  obtain ⟨p, e, hp⟩ := h3 j x hx
  exact ⟨p, e, sqT_lst hD g hp⟩
theorem RowU.same {K : PySem.W.Frag} {H0 H H' : Hp} {v : V} {i n : Nat} (s : Same H H') (h : RowU K H0 H v i n) : RowU K H0 H' v i n := by
  obtain ⟨r, xs, rfl, h0, h1, h2, h3⟩ := h
  refine ⟨r, xs, rfl, h0, s _ _ h1, h2, fun j x hx => ?_⟩
  obtain ⟨p, e, hp⟩ := h3 j x hx
  exact ⟨p, e, seqT s hp⟩
theorem upd_grow {H : Hp} {D : Addr} {o : HO} : Grow D H (upd H D o) := fun a x n h => by rw [upd_ne n]; exact h
/-- a comprehension of comprehensions that makes a unit: elt tells at i, j a pair -/
theorem unit_read {K : PySem.W.Frag} {n : Nat} {H : Hp} {Q : VK} {σ : L2.St} {te : TE} (hn : n ≤ 1000) (hσ : σ = [some (.int n), none, none])
    (elt : ∀ (i j : Nat) (H' : Hp) (Q' : VK), i < n → j < n → (∀ (p : Addr) (H2 : Hp), Same H' H2 → SqT K H2 p [.int (if i = j then 1 else 0), .int 1] → Q' (.ref p) H2) → te [some (.int n), some (.int (0 + (i : Int))), some (.int (0 + (j : Int)))] H' Q')
    (q : ∀ (p : Addr) (H' : Hp), Same H H' → H p = none → UnitAt K H H' p n → Q (.ref p) H') :
    tLc (iRng1 (tCons (tVar 0) tNil)) (gName 1) tYes (tLc (iRng1 (tCons (tVar 0) tNil)) (gName 2) tYes te [2]) [1] σ H Q := by
  subst hσ
  refine ⟨_, rfl, (n : Int), rfl, by omega, by omega, fun D hD => ?_⟩
  have en : ((n : Int)).toNat = n := by omega
  rw [en]
  refine lc_range (lo := 0) (n := n) (fun i H' => Same H H' ∧ ∃ rs : List V, rs.length = i ∧ H' D = some (.lst rs) ∧ ∀ (k : Nat) (v : V), rs[k]? = some v → RowU K H H' v k n ∧ v ≠ .ref D) ⟨same_new hD, [], rfl, upd_same, fun k v hv => by cases hv⟩ (fun i Hs hi hP => ?_) (fun H' hP => ?_)
  · obtain ⟨s1, rs, hrs, eD, hr⟩ := hP
    refine ⟨rfl, yes_if ?_⟩
    refine ⟨_, rfl, (n : Int), rfl, by omega, by omega, fun D2 hD2 => ?_⟩
    rw [en]
    have nD : D ≠ D2 := ne_of_none eD hD2
    refine lc_range (lo := 0) (n := n) (fun j H' => Same Hs H' ∧ ∃ xs : List V, xs.length = j ∧ H' D2 = some (.lst xs) ∧ ∀ (k : Nat) (x : V), xs[k]? = some x → ∃ p, x = .ref p ∧ SqT K H' p [.int (if i = k then 1 else 0), .int 1]) ⟨same_new hD2, [], rfl, upd_same, fun k v hv => by cases hv⟩ (fun j Hj hj hP => ?_) (fun H' hP => ?_)
    · obtain ⟨s2, xs, hxs, e2, hx⟩ := hP
      refine ⟨rfl, yes_if ?_⟩
      refine elt i j Hj _ hi hj (fun p H2 s3 hp => ?_)
      have e3 := s3 _ _ e2
      refine ⟨xs, e3, small1000 (by omega), fun a o ha => ?_, xs ++ [.ref p], by rw [List.length_append, hxs]; rfl, upd_same, fun k x hk => ?_⟩
      · rw [upd_ne (ne_of_none ha hD2)]
        exact s3 _ _ (s2 _ _ ha)
      · by_cases hkj : k < xs.length
        · rw [List.getElem?_append_left hkj] at hk
          obtain ⟨p', e', h'⟩ := hx k x hk
          exact ⟨p', e', sqT_lst e3 upd_grow (seqT s3 h')⟩
        · rw [List.getElem?_append_right (by omega)] at hk
          have : k = xs.length := by
            cases hd : k - xs.length with
            | zero => omega
            | succ m => rw [hd] at hk; cases hk
          subst this
          rw [Nat.sub_self] at hk
          cases hk
          rw [hxs]
          exact ⟨p, rfl, sqT_lst e3 upd_grow hp⟩
    · obtain ⟨s2, xs, hxs, e2, hx⟩ := hP
      have eD' := s2 _ _ eD
      refine ⟨rs, eD', small1000 (by omega), fun a o ha => ?_, rs ++ [.ref D2], by rw [List.length_append, hrs]; rfl, upd_same, fun k v hk => ?_⟩
      · rw [upd_ne (ne_of_none ha hD)]
        exact s2 _ _ (s1 _ _ ha)
      · by_cases hkj : k < rs.length
        · rw [List.getElem?_append_left hkj] at hk
          obtain ⟨h1, h2⟩ := hr k v hk
          exact ⟨(h1.same s2).grow eD' upd_grow h2, h2⟩
        · rw [List.getElem?_append_right (by omega)] at hk
          have : k = rs.length := by
            cases hd : k - rs.length with
            | zero => omega
            | succ m => rw [hd] at hk; cases hk
          subst this
          rw [Nat.sub_self] at hk
          cases hk
          have nv : V.ref D2 ≠ V.ref D := fun z => nD (V.ref.inj z).symm
          rw [hrs]
          exact ⟨RowU.grow eD' upd_grow nv ⟨D2, xs, rfl, s1.free hD2, e2, hxs, hx⟩, nv⟩
  · obtain ⟨s1, rs, hrs, eD, hr⟩ := hP
    exact q D H' s1 hD ⟨rs, eD, hrs, fun i v hv => (hr i v hv).1⟩
section
variable {P : Program} {w : World} {K : PySem.W.Frag} {mg : Str → Option Value} {base : Heap}
theorem ok_unit {f o1 o0 : Addr} {fd : FuncData} {k : Nat} (F : Fun K "unit" "unit" sUnit f fd) (T : Blt mg) (g1 : mg "ONE" = some (.ref o1)) (g0 : mg "NOUGHT" = some (.ref o0)) (h1 : ∀ H, SqT K H o1 [.int 1, .int 1]) (h0 : ∀ H, SqT K H o0 [.int 0, .int 1]) :
    FnOk P w K mg base CX0 (k + 1) f fd ["size"] (spUnit K) := by
  refine F.ok scUnit (fun vs H Q E h => ?_) (fun cdv A outer s H vs Q E hr h => ?_)
  · obtain ⟨n, rfl, _⟩ := h
    rfl
  · obtain ⟨n, rfl, hn, q⟩ := h
    refine ⟨_, pss_one (ps_ret (pe_lc (own := [("row", 1)]) (g := gName 1) (tt := tYes) rfl scUnit.nd (pi_range1 (by rfl) T.rng (pa_cons (pv 0) pa_nil)) (blkOk_by (N := ["size", "row", "column"]) (sc := defScope sUnit) (by decide +kernel))
      (fun _ _ _ _ _ => pg_name (i := 1) scUnit.nd rfl (Or.inr rfl)) (fun _ _ _ _ _ => pts_nil)
      (fun _ _ _ _ _ => pe_lc (own := [("column", 2)]) (g := gName 2) (tt := tYes) rfl scUnit.nd (pi_range1 (by rfl) T.rng (pa_cons (pv 0) pa_nil)) (blk_nest (blkOk_by (N := ["size", "row", "column"]) (sc := lcScope (retE (defBody sUnit))) (by decide +kernel)) "row" (by decide +kernel) (.inl rfl))
        (fun _ _ _ _ _ => pg_name (i := 2) scUnit.nd rfl (Or.inl rfl)) (fun _ _ _ _ _ => pts_nil)
        (fun _ _ _ _ _ => pe_ifExp (pt_cmpR op_eq (pv 1) (pv 2) (nomark _)) (pe_glob (v := .ref o1) (by rfl) g1 rfl) (pe_glob (v := .ref o0) (by rfl) g0 rfl))))), ?_⟩
    refine unit_read hn rfl (fun i j H' Q' hi hj qq => ?_) q
    refine ⟨_, rfl, _, rfl, rfl, _, rfl, ite2 (fun c => ?_) (fun c => ?_)⟩
    · have e : i = j := by have := V.int.inj (of_decide_eq_true c); omega
      refine qq o1 H' (Same.refl _) ?_
      rw [if_pos e]
      exact h1 H'
    · have e : i ≠ j := fun z => c (by rw [z]; exact decide_eq_true rfl)
      refine qq o0 H' (Same.refl _) ?_
      rw [if_neg e]
      exact h0 H'
theorem ok_law_unit {f : Addr} {fd : FuncData} {k : Nat} (F : Fun K "_law_unit" "_law_unit" sLUnit f fd) (T : Blt mg) : FnOk P w K mg base CX0 (k + 1) f fd ["_law_size"] (spUnit K) := by
  refine F.ok scLUnit (fun vs H Q E h => ?_) (fun cdv A outer s H vs Q E hr h => ?_)
  · obtain ⟨n, rfl, _⟩ := h
    rfl
  · obtain ⟨n, rfl, hn, q⟩ := h
    refine ⟨_, pss_one (ps_ret (pe_lc (own := [("_law_row", 1)]) (g := gName 1) (tt := tYes) rfl scLUnit.nd (pi_range1 (by rfl) T.rng (pa_cons (pv 0) pa_nil)) (blkOk_by (N := ["_law_size", "_law_row", "_law_column"]) (sc := defScope sLUnit) (by decide +kernel))
      (fun _ _ _ _ _ => pg_name (i := 1) scLUnit.nd rfl (Or.inr rfl)) (fun _ _ _ _ _ => pts_nil)
      (fun _ _ _ _ _ => pe_lc (own := [("_law_column", 2)]) (g := gName 2) (tt := tYes) rfl scLUnit.nd (pi_range1 (by rfl) T.rng (pa_cons (pv 0) pa_nil)) (blk_nest (blkOk_by (N := ["_law_size", "_law_row", "_law_column"]) (sc := lcScope (retE (defBody sLUnit))) (by decide +kernel)) "_law_row" (by decide +kernel) (.inl rfl))
        (fun _ _ _ _ _ => pg_name (i := 2) scLUnit.nd rfl (Or.inl rfl)) (fun _ _ _ _ _ => pts_nil)
        (fun _ _ _ _ _ => pe_tup (pa_cons (pe_callTy call_int1 (by rfl) T.int (by decide +kernel) (pa_cons (pe_cmpR op_eq (pv 1) (pv 2) (nomark _)) pa_nil)) (pa_cons pe_int pa_nil)))))), ?_⟩
    refine unit_read hn rfl (fun i j H' Q' hi hj qq => ?_) q
    refine ⟨_, rfl, _, rfl, rfl, .inr ⟨_, rfl, (by show 2 ≤ sizeLine; decide), fun p hp => ?_⟩⟩
    refine qq p _ (same_new hp) ?_
    by_cases e : i = j
    · subst e
      rw [if_pos rfl, decide_eq_true rfl]
      exact SqT.of upd_same
    · rw [if_neg e, decide_eq_false (fun z => e (by have := V.int.inj z; omega))]
      exact SqT.of upd_same
end
end Nv

set_option maxRecDepth 100000
set_option maxHeartbeats 4000000
namespace Nv
open PySem PySem.Spec PyProof.Rows L2 LamX
/-! Rows of pairs of numbers: R holds the rows' lists, these hold the pairs' tuples. -/
abbrev Pr := Int × Int
def ShV (H : Hp) (v : V) (x : Pr) : Prop := ∃ p, v = .ref p ∧ H p = some (.tup [.int x.1, .int x.2])
/-- a row beside the addresses b and R -/
def RowV (b R : Addr) (H : Hp) (v : V) (xs : List Pr) : Prop := ∃ (r : Addr) (ps : List V), v = .ref r ∧ r ≠ b ∧ r ≠ R ∧ H r = some (.lst ps) ∧ Paired (ShV H) ps xs
def Rows (b R : Addr) (H : Hp) (xss : List (List Pr)) : Prop := ∃ rs : List V, H R = some (.lst rs) ∧ R ≠ b ∧ Paired (RowV b R H) rs xss
theorem Paired.imp {α β : Type} {R S : α → β → Prop} (h : ∀ a b, R a b → S a b) : ∀ {xs : List α} {ys : List β}, Paired R xs ys → Paired S xs ys
  | _, _, .nil => .nil
  | _, _, .cons a r => .cons (h _ _ a) (Paired.imp h r)
theorem Paired.snoc {α β : Type} {R : α → β → Prop} {x : α} {y : β} (h : R x y) : ∀ {xs : List α} {ys : List β}, Paired R xs ys → Paired R (xs ++ [x]) (ys ++ [y])
  | _, _, .nil => .cons h .nil
  | _, _, .cons a r => .cons a (Paired.snoc h r)
theorem Paired.drop1 {α β : Type} {R : α → β → Prop} : ∀ {xs : List α} {ys : List β}, Paired R xs ys → Paired R (xs.drop 1) (ys.drop 1)
  | _, _, .nil => .nil
  | _, _, .cons _ r => r
theorem Paired.set {α β : Type} {R : α → β → Prop} {x : α} {y : β} (h : R x y) : ∀ {xs : List α} {ys : List β} (i : Nat), Paired R xs ys → Paired R (xs.set i x) (ys.set i y)
  | _, _, _, .nil => .nil
  | _, _, 0, .cons _ r => .cons h r
  | _, _, i + 1, .cons a r => .cons a (Paired.set h i r)
theorem ShV.grow {H H' : Hp} {D : Addr} {ys : List V} (hD : H D = some (.lst ys)) (g : Grow D H H') {v : V} {x : Pr} (h : ShV H v x) : ShV H' v x := by
  obtain ⟨p, e, hp⟩ := h
  exact ⟨p, e, g _ _ (fun z => by rw [z, hD] at hp; cases hp) hp⟩
theorem ShV.same {H H' : Hp} (s : Same H H') {v : V} {x : Pr} (h : ShV H v x) : ShV H' v x := by
  obtain ⟨p, e, hp⟩ := h
  exact ⟨p, e, s _ _ hp⟩
theorem RowV.same {b R : Addr} {H H' : Hp} (s : Same H H') {v : V} {xs : List Pr} (h : RowV b R H v xs) : RowV b R H' v xs := by
  obtain ⟨r, ps, e, n1, n2, h1, h2⟩ := h
  exact ⟨r, ps, e, n1, n2, s _ _ h1, Paired.imp (fun _ _ => ShV.same s) h2⟩
/-- D: b or R -/
theorem RowV.grow {b R D : Addr} {H H' : Hp} {ys : List V} (hD : H D = some (.lst ys)) (hd : D = b ∨ D = R) (g : Grow D H H') {v : V} {xs : List Pr} (h : RowV b R H v xs) : RowV b R H' v xs := by
  obtain ⟨r, ps, e, n1, n2, h1, h2⟩ := h
  exact ⟨r, ps, e, n1, n2, g _ _ (by rcases hd with z | z <;> rw [z] <;> assumption) h1, Paired.imp (fun _ _ => ShV.grow hD g) h2⟩
theorem Rows.same {b R : Addr} {H H' : Hp} (s : Same H H') {xss : List (List Pr)} (h : Rows b R H xss) : Rows b R H' xss := by
  obtain ⟨rs, h1, n, h2⟩ := h
  exact ⟨rs, s _ _ h1, n, Paired.imp (fun _ _ => RowV.same s) h2⟩
theorem Rows.grow {l b R : Addr} {H H' : Hp} (B : Bag l b H) (g : Grow b H H') {xss : List (List Pr)} (h : Rows b R H xss) : Rows b R H' xss := by
  obtain ⟨rs, h1, n, h2⟩ := h
  obtain ⟨ns, _, _, ⟨i, j, s, m, hb, _⟩⟩ := B
  exact ⟨rs, g _ _ n h1, n, Paired.imp (fun _ _ => RowV.grow hb (.inl rfl) g) h2⟩
def dataOf (xss : List (List Pr)) : PyData := .list (xss.map fun xs => .list (xs.map fun x => .tuple [.int x.1, .int x.2]))
theorem dp_sh {K : PySem.W.Frag} {H : Hp} : ∀ {ps : List V} {xs : List Pr}, Paired (ShV H) ps xs → DpAll K H ps (xs.map fun x => .tuple [.int x.1, .int x.2])
  | _, _, .nil => .nil
  | _, _, .cons h r => by
    obtain ⟨p, rfl, hp⟩ := h
    exact .cons (.tup (SqT.of hp) (.cons (.int _) (.cons (.int _) .nil))) (dp_sh r)
theorem dp_rows {K : PySem.W.Frag} {b R : Addr} {H : Hp} : ∀ {rs : List V} {xss : List (List Pr)}, Paired (RowV b R H) rs xss → DpAll K H rs (xss.map fun xs => .list (xs.map fun x => .tuple [.int x.1, .int x.2]))
  | _, _, .nil => .nil
  | _, _, .cons h r => by
    obtain ⟨p, ps, rfl, _, _, hp, hs⟩ := h
    exact .cons (.lst (SqL.of hp) (dp_sh hs)) (dp_rows r)
theorem Rows.dp {K : PySem.W.Frag} {b R : Addr} {H : Hp} {xss : List (List Pr)} (h : Rows b R H xss) : Dp K H (.ref R) (dataOf xss) := by
  obtain ⟨rs, h1, _, h2⟩ := h
  exact .lst (SqL.of h1) (dp_rows h2)
theorem lay_sh : ∀ xs : List Pr, PyData.canLayAll0 (xs.map fun x => PyData.tuple [.int x.1, .int x.2]) = true
  | [] => by simp [PyData.canLayAll0]
  | x :: xs => by simp [PyData.canLayAll0, PyData.canLay0, lay_sh xs]
theorem lay_rows : ∀ xss : List (List Pr), PyData.canLayAll0 (xss.map fun xs => PyData.list (xs.map fun x => PyData.tuple [.int x.1, .int x.2])) = true
  | [] => by simp [PyData.canLayAll0]
  | x :: xs => by
    have h1 := lay_rows xs
    have h2 := lay_sh x
    simp [PyData.canLayAll0, PyData.canLay0, h1, h2]
theorem deep_sh : ∀ xs : List Pr, PyData.depthAll (xs.map fun x => PyData.tuple [.int x.1, .int x.2]) ≤ 2
  | [] => by simp [PyData.depthAll]
  | x :: xs => by
    have := deep_sh xs
    simp only [List.map_cons, PyData.depthAll, PyData.depth]
    omega
theorem deep_rows : ∀ xss : List (List Pr), PyData.depthAll (xss.map fun xs => PyData.list (xs.map fun x => PyData.tuple [.int x.1, .int x.2])) ≤ 3
  | [] => by simp [PyData.depthAll]
  | x :: xs => by
    have h1 := deep_rows xs
    have h2 := deep_sh x
    simp only [List.map_cons, PyData.depthAll, PyData.depth]
    omega
theorem data_shaped (xss : List (List Pr)) : SeqAt.shaped (dataOf xss) = true := by
  unfold SeqAt.shaped dataOf
  have h1 := lay_rows xss
  have h2 := deep_rows xss
  simp only [PyData.canLay0, PyData.depth, Bool.and_eq_true, decide_eq_true_eq]
  exact ⟨h1, decide_eq_true (by omega)⟩
theorem data_same (xss : List (List Pr)) : PyData.eqv (dataOf xss) (dataOf xss) = true := SeqAt.eqv_refl _ (SeqAt.canLay_of_shaped (data_shaped xss))
/-! the law's grid of drawn shares -/
abbrev sGrid : Stmt := topS 38
abbrev nGrid : List Str := ["_law_bag_here", "_law_size", "_law_row", "_law_column"]
theorem scGrid : FnScope nGrid ["_law_bag_here", "_law_size"] (defScope sGrid) := ⟨rfl, rfl, rfl, by decide +kernel, rfl, by decide +kernel, by decide +kernel⟩
def spGrid : Sp := fun vs H Q _ => ∃ (l b : Addr) (n : Nat), vs = [.ref b, .int n] ∧ n ≤ 1000 ∧ Bag l b H ∧ ∀ (R : Addr) (xss : List (List Pr)) (H' : Hp), H R = none → Rows b R H' xss → xss.length = n → (∀ xs ∈ xss, xs.length = n) → Bag l b H' → Grow b H H' → Q (.ref R) H'
/-- what two lists of a heap are about -/
theorem grow_two {b D : Addr} {H H1 H2 : Hp} (g : Grow b H H1) (hD : H D = none) (e : ∀ a, a ≠ D → H2 a = H1 a) : Grow b H H2 := fun a o n h => by
  rw [e a (ne_of_none h hD)]
  exact g a o n h
section
variable {P : Program} {w : World} {K : PySem.W.Frag} {mg : Str → Option Value} {base : Heap}
theorem ok_grid {f : Addr} {fd : FuncData} (F : Fun K "_law_grid" "_law_grid" sGrid f fd) (T : Blt mg) (GL : C8.Cal P w K mg base 3 "_law_light" spDraw []) : FnOk P w K mg base CX0 4 f fd ["_law_bag_here", "_law_size"] spGrid := by
  refine F.ok scGrid (fun vs H Q E h => ?_) (fun cdv A outer s H vs Q E hr h => ?_)
  · obtain ⟨l, b, n, rfl, _⟩ := h
    rfl
  · obtain ⟨l, b, n, rfl, hn, B, q⟩ := h
    refine ⟨_, pss_one (ps_ret (pe_lc (own := [("_law_row", 2)]) (g := gName 2) (tt := tYes) rfl scGrid.nd (pi_range1 (by rfl) T.rng (pa_cons (pv 1) pa_nil)) (blkOk_by (N := nGrid) (sc := defScope sGrid) (by decide +kernel))
      (fun _ _ _ _ _ => pg_name (i := 2) scGrid.nd rfl (Or.inl rfl)) (fun _ _ _ _ _ => pts_nil)
      (fun _ _ _ _ _ => pe_lc (own := [("_law_column", 3)]) (g := gName 3) (tt := tYes) rfl scGrid.nd (pi_range1 (by rfl) T.rng (pa_cons (pv 1) pa_nil)) (blk_nest (blkOk_by (N := nGrid) (sc := lcScope (retE (defBody sGrid))) (by decide +kernel)) "_law_bag_here" (by decide +kernel) (by first | exact .inl rfl | exact .inr rfl))
        (fun _ _ _ _ _ => pg_name (i := 3) scGrid.nd rfl (Or.inl rfl)) (fun _ _ _ _ _ => pts_nil)
        (fun _ _ _ _ _ => C8.pe_c GL hr (by decide) (by rfl) (pa_cons (pv 0) pa_nil))))), ?_⟩
    refine ⟨_, rfl, (n : Int), rfl, by omega, by omega, fun D hD => ?_⟩
    have en : ((n : Int)).toNat = n := by omega
    rw [en]
    have nDb := B.ne hD
    have nDl := B.neL hD
    refine lc_range (lo := 0) (n := n) (fun i H' => Bag l b H' ∧ Grow b H H' ∧ ∃ (rs : List V) (xss : List (List Pr)), rs.length = i ∧ H' D = some (.lst rs) ∧ Paired (RowV b D H') rs xss ∧ ∀ xs ∈ xss, xs.length = n) ⟨B.same (same_new hD), Same.grow (same_new hD), [], [], rfl, upd_same, .nil, (fun xs hx => by cases hx)⟩ (fun i Hs hi hP => ?_) (fun H' hP => ?_)
    · obtain ⟨B1, g1, rs, xss, hrs, eD, hr1, hx1⟩ := hP
      refine ⟨rfl, yes_if ?_⟩
      refine ⟨_, rfl, (n : Int), rfl, by omega, by omega, fun D2 hD2 => ?_⟩
      rw [en]
      have nD : D ≠ D2 := ne_of_none eD hD2
      have nb2 := B1.ne hD2
      have nl2 := B1.neL hD2
      refine lc_range (lo := 0) (n := n) (fun j H' => Bag l b H' ∧ Grow b Hs H' ∧ ∃ (ps : List V) (xs : List Pr), ps.length = j ∧ H' D2 = some (.lst ps) ∧ Paired (ShV H') ps xs) ⟨B1.same (same_new hD2), Same.grow (same_new hD2), [], [], rfl, upd_same, .nil⟩ (fun j Hj hj hP => ?_) (fun H' hP => ?_)
      · obtain ⟨B2, g2, ps, xs, hps, e2, hp2⟩ := hP
        refine ⟨rfl, yes_if ?_⟩
        refine ⟨_, rfl, l, b, rfl, B2, fun p t d H3 dr B3 g3 np ep => ?_⟩
        have e3 := g3 _ _ nb2 e2
        obtain ⟨_, _, _, ⟨_, _, _, _, hb, _⟩⟩ := B2
        refine ⟨ps, e3, small1000 (by omega), B3.beside nb2 nl2, ?_, ps ++ [.ref p], xs ++ [(t, d)], by rw [List.length_append, hps]; rfl, upd_same, ?_⟩
        · exact grow_two (g2.trans g3) hD2 (fun a ha => upd_ne ha)
        · exact Paired.snoc (ShV.grow e3 upd_grow ⟨p, rfl, ep⟩) (Paired.imp (fun _ _ z => ShV.grow e3 upd_grow (ShV.grow hb g3 z)) hp2)
      · obtain ⟨B2, g2, ps, xs, hps, e2, hp2⟩ := hP
        have eD' := g2 _ _ nDb eD
        obtain ⟨_, _, _, ⟨_, _, _, _, hb, _⟩⟩ := B1
        refine ⟨rs, eD', small1000 (by omega), B2.beside nDb nDl, grow_two (g1.trans g2) hD (fun a ha => upd_ne ha), rs ++ [.ref D2], xss ++ [xs], by rw [List.length_append, hrs]; rfl, upd_same, ?_, ?_⟩
        · exact Paired.snoc (RowV.grow eD' (.inr rfl) upd_grow ⟨D2, ps, rfl, nb2, nD.symm, e2, hp2⟩) (Paired.imp (fun _ _ z => RowV.grow eD' (.inr rfl) upd_grow (RowV.grow hb (.inl rfl) g2 z)) hr1)
        · intro ys hys
          rcases List.mem_append.mp hys with z | z
          · exact hx1 ys z
          · rw [List.mem_singleton.mp z, ← Paired.length hp2]
            exact hps
    · obtain ⟨B1, g1, rs, xss, hrs, eD, hr1, hx1⟩ := hP
      exact q D xss H' hD ⟨rs, eD, nDb, hr1⟩ (by rw [← Paired.length hr1]; exact hrs) hx1 B1 g1
end
end Nv

set_option maxRecDepth 100000
set_option maxHeartbeats 8000000
namespace Nv
open PySem PySem.Spec PyProof.Rows L2 LamX
theorem row_twin {K : PySem.W.Frag} {A1 A2 H : Hp} {u v : V} {i n : Nat} (hn : n ≤ 1000) (a : RowU K A1 H u i n) (b : RowU K A2 H v i n) : Twin K H 2 u v := by
  obtain ⟨r, xs, rfl, _, h1, l1, c1⟩ := a
  obtain ⟨r2, ys, rfl, _, h2, l2, c2⟩ := b
  refine .inr ⟨r, r2, xs, ys, rfl, rfl, .inl ⟨SqL.of h1, SqL.of h2⟩, by omega, by omega, fun j x y hx hy => ?_⟩
  obtain ⟨p, rfl, hp⟩ := c1 j x hx
  obtain ⟨p2, rfl, hp2⟩ := c2 j y hy
  exact .inr ⟨p, p2, _, _, rfl, rfl, .inr ⟨hp, hp2⟩, rfl, (by show 2 ≤ 1000; decide), paired_at (.cons (Twin.one (Scal.int _) 0) (.cons (Twin.one (Scal.int _) 0) .nil))⟩
theorem unit_twin {K : PySem.W.Frag} {A1 A2 H : Hp} {p q : Addr} {n : Nat} (hn : n ≤ 1000) (a : UnitAt K A1 H p n) (b : UnitAt K A2 H q n) : Twin K H 3 (.ref p) (.ref q) := by
  obtain ⟨xs, h1, l1, c1⟩ := a
  obtain ⟨ys, h2, l2, c2⟩ := b
  exact .inr ⟨p, q, xs, ys, rfl, rfl, .inl ⟨SqL.of h1, SqL.of h2⟩, by omega, by omega, fun i u v hu hv => row_twin hn (c1 i u hu) (c2 i v hv)⟩
theorem UnitAt.same {K : PySem.W.Frag} {A H H' : Hp} {p : Addr} {n : Nat} (s : Same H H') (a : UnitAt K A H p n) : UnitAt K A H' p n := by
  obtain ⟨xs, h1, l1, c1⟩ := a
  exact ⟨xs, s _ _ h1, l1, fun i v hv => (c1 i v hv).same s⟩
/-! which rows are bad -/
def badIx (n : Nat) (lens : List Nat) (i : Nat) : List Nat := (List.range i).filter fun k => decide (lens.getD k 0 ≠ n)
theorem bad_head (n : Nat) (lens : List Nat) : (badIx n lens lens.length).head? = firstBad n lens := by
  unfold badIx firstBad
  rw [List.head?_filter]
  cases h : List.findIdx? (fun k => decide (k ≠ n)) lens with
  | none =>
    rw [List.find?_range_eq_none]
    rw [List.findIdx?_eq_none_iff] at h
    intro i hi
    have e : lens.getD i 0 = lens[i] := by rw [List.getD_eq_getElem?_getD, List.getElem?_eq_getElem hi]; rfl
    have := h lens[i] (List.getElem_mem hi)
    rw [e, this]
    rfl
  | some i =>
    rw [List.findIdx?_eq_some_iff_getElem] at h
    obtain ⟨hi, h1, h2⟩ := h
    rw [List.find?_range_eq_some]
    have e : ∀ j (hj : j < lens.length), lens.getD j 0 = lens[j] := fun j hj => by rw [List.getD_eq_getElem?_getD, List.getElem?_eq_getElem hj]; rfl
    refine ⟨by rw [e i hi]; exact h1, List.mem_range.mpr hi, fun j hj => ?_⟩
    rw [e j (by omega)]
    have := h2 j hj
    simpa using this
theorem badIx_succ (n : Nat) (lens : List Nat) (i : Nat) : badIx n lens (i + 1) = if lens.getD i 0 ≠ n then badIx n lens i ++ [i] else badIx n lens i := by
  unfold badIx
  rw [List.range_succ, List.filter_append]
  by_cases h : lens.getD i 0 ≠ n
  · rw [if_pos h, List.filter_cons_of_pos (p := fun k => decide (lens.getD k 0 ≠ n)) (decide_eq_true h)]
    rfl
  · rw [if_neg h, List.filter_cons_of_neg (p := fun k => decide (lens.getD k 0 ≠ n)) (fun z => h (of_decide_eq_true z))]
    exact List.append_nil _
theorem badIx_len (n : Nat) (lens : List Nat) (i : Nat) : (badIx n lens i).length ≤ i := by
  unfold badIx
  exact Nat.le_trans (List.length_filter_le _ _) (by rw [List.length_range]; exact Nat.le_refl _)
def ixD (bs : List Nat) : PyData := .list (bs.map fun (i : Nat) => .int (i : Int))
theorem dp_ix {K : PySem.W.Frag} {H : Hp} : ∀ bs : List Nat, DpAll K H (bs.map fun (i : Nat) => V.int (i : Int)) (bs.map fun (i : Nat) => PyData.int (i : Int))
  | [] => .nil
  | b :: bs => .cons (.int _) (dp_ix bs)
theorem ix_shaped : ∀ bs : List Nat, SeqAt.shaped (ixD bs) = true := fun bs => by
  have h1 : PyData.canLayAll0 (bs.map fun (i : Nat) => PyData.int (i : Int)) = true := by
    induction bs with
    | nil => simp [PyData.canLayAll0]
    | cons b bs ih => simp [PyData.canLayAll0, PyData.canLay0, ih]
  have h2 : PyData.depthAll (bs.map fun (i : Nat) => PyData.int (i : Int)) ≤ 0 := by
    induction bs with
    | nil => simp [PyData.depthAll]
    | cons b bs ih =>
      have h3 : PyData.canLayAll0 (bs.map fun (i : Nat) => PyData.int (i : Int)) = true := by
        simp [PyData.canLayAll0] at h1
        simpa using h1.2
      have := ih h3
      simp only [List.map_cons, PyData.depthAll, PyData.depth]
      omega
  unfold SeqAt.shaped ixD
  simp only [PyData.canLay0, PyData.depth, Bool.and_eq_true]
  exact ⟨h1, decide_eq_true (by omega)⟩
theorem ix_eq (bs : List Nat) : PyData.eqv (ixD bs) (ixD []) = bs.isEmpty := by
  cases bs with
  | nil => rfl
  | cons b bs => rfl
/-! The law. -/
abbrev sLaw : Stmt := topS 39
abbrev nLaw : List Str := ["_law_script", "_law_bag_here", "_law_size", "_law_first", "_law_turn", "_law_rows", "_law_k", "_law_at", "_law_bad", "_law_found", "_law_handed", "_law_row"]
theorem scLaw : FnScope nLaw ["_law_script"] (defScope sLaw) := ⟨rfl, rfl, rfl, by decide +kernel, rfl, by decide +kernel, by decide +kernel⟩
def qLam : Str := "law.<locals>.<lambda>"
def spLaw (K : PySem.W.Frag) (Pt : Addr) : Sp := fun vs H Q _ => ∃ (a : Addr) (ns : List Int), vs = [.ref a] ∧ SqL K H a (ns.map V.int) ∧ Tabs [(Pt, qLam)] H ∧ ∀ H', Q (.bl true) H'
structure CalX (P : Program) (w : World) (K : PySem.W.Frag) (mg : Str → Option Value) (base : Heap) (k : Nat) (x : Str) (sp : Sp) (dvs : List V) : Prop where
  ex : ∃ (f : Addr) (fd : FuncData) (ps : List Str) (ds : List Value), FnOk P w K mg base (L2.CX P w) k f fd ps sp ∧ mg x = some (.ref f) ∧ PySem.W.keepIn K (.ref f) = true ∧ Binds K fd ps ds ∧ Vals dvs ds
theorem pe_cxE {X : Cx} {k j : Nat} {x : Str} {sp : Sp} {dvs : List V} {e : Expr} {es : List Expr} {p pos : Pos} {t : TA} {E : XK} (c : CalX X.prog X.w X.K X.mg X.base k x sp dvs) (hr : Room j X.A) (hk : k ≤ j) (hx : Passes (L2.CX X.prog X.w) X E) (hg : Gl X x) (ha : PA X (e :: es) t)
    (hdb : (x == ("__debug__" : Str)) = false := by decide) (he : starEach (e :: es) X.env = (false, eval e X.env) :: starEach es X.env := by rfl) (hpl : (backTo pos (starEach es X.env)).any (·.1) = false := by rfl) :
    PE X (.Call (.Name x p) (e :: es) [] pos) (tCall sp dvs E t) := by
  obtain ⟨f, fd, ps, ds, F, hm, kp, b, d⟩ := c.ex
  exact pe_call F (hr.mono hk) hg hm kp b d hx ha hdb he hpl
structure Calls (P : Program) (w : World) (K : PySem.W.Frag) (mg : Str → Option Value) (base : Heap) (C : Addr) : Prop where
  need : CalX P w K mg base 4 "need_table" (spNeed K C) []
  unit : C8.Cal P w K mg base 1 "unit" (spUnit K) []
  lunit : C8.Cal P w K mg base 1 "_law_unit" (spUnit K) []
  grid : C8.Cal P w K mg base 4 "_law_grid" spGrid []
  pull : C8.Cal P w K mg base 1 "_law_pull" spPull []
  pick : C8.Cal P w K mg base 2 "_law_of" spOf []
  bag : C8.Cal P w K mg base 1 "_law_bag" (spBag K) []
  same3 : C8.Cal P w K mg base 4 "_law_same" (spSame K 3) []
section
variable {P : Program} {w : World} {K : PySem.W.Frag} {mg : Str → Option Value} {base : Heap} {CN C CT CX fN fI : Addr}
theorem ok_law {f fT c Pt : Addr} {fdT : FuncData} {oc doc pm ct kV : Value} {od an : Option Addr} {osl : Array (Option Value)} {tM : Tok}
    (lk : K.lookup f = some ⟨oc, od, .func (PySem.W.fnOf "law" "law" (defArgs sLaw) (defBody sLaw) (defScope sLaw) .none kV doc pm an (.ref c) ct), osl⟩) (hcd : PySem.W.codeIn K (.ref c) "law" = true)
    (G : Calls P w K mg base C) (B : Blt mg) (R : Errs K mg CN C CT CX fN fI) (gM : mg "MOST_SIZE" = some (.int 4 tM)) (FT : Fun K "_law_asked" "_law_asked" sAsked fT fdT) (gT : mg "_law_asked" = some (.ref fT)) (TB : TabB base mg c Pt) :
    FnOk P w K mg base CX0 9 f (PySem.W.fnOf "law" "law" (defArgs sLaw) (defBody sLaw) (defScope sLaw) .none kV doc pm an (.ref c) ct) ["_law_script"] (spLaw K Pt) := by
  have bT := FT.binds (ps := ["_law_ask"]) fun _ _ _ _ _ _ us hl => match us, hl with | [_], _ => rfl
  obtain ⟨ocT, odT, kVT, docT, pmT, anT, cdT, ctT, oslT, rfl, lkT, hcT⟩ := FT.ex
  refine fn_of lk hcd scLaw (fun vs H Q E h => ?_) (fun A outer s H vs Q E hr h => ?_)
  · obtain ⟨a, ns, rfl, _⟩ := h
    rfl
  · obtain ⟨a, ns, rfl, hS, hT, q⟩ := h
    suffices hh : ∃ t, PSs (cxOf CX0 P w K mg base nLaw "law" (defScope sLaw) f (.ref c) A outer s H E).nox (defBody sLaw) t ∧ t { nx := fun _ H' => Q .non H', rt := Q } (L2.start nLaw [.ref a]) H by
      obtain ⟨t, h1, h2⟩ := hh
      exact ⟨t, h1.nox, h2⟩
    refine ⟨_, pss_cons (ps_set (i := 1) scLaw.nd rfl (.inl rfl) (C8.pe_c G.bag hr (by decide) (by rfl) (pa_cons (pv 0) pa_nil)))
      (pss_cons (ps_set (i := 2) scLaw.nd rfl (.inl rfl) (C8.pe_c G.pick hr (by decide) (by rfl) (pa_cons (pv 1) (pa_cons (pe_lst (pa_cons pe_int (pa_cons pe_int (pa_cons (pe_op op_add pe_int (C8.pe_c G.pull hr (by decide) (by rfl) (pa_cons (pv 1) (pa_cons pe_int pa_nil)))) pa_nil)))) pa_nil))))
      (pss_cons (ps_set (i := 3) scLaw.nd rfl (.inl rfl) (C8.pe_c G.unit hr (by decide) (by rfl) (pa_cons (pv 2) pa_nil)))
      (pss_cons (ps_asg (pe_tup (pa_cons pe_int (pa_cons pe_int pa_nil))) (pg_sub (pe_ix ix_list (pv 3) pe_int (fun _ _ => rfl)) pe_int set_list))
      (pss_cons (ps_if (PW.pt (pw_or (pt_not (pt_val (C8.pe_c G.same3 hr (by decide) (by rfl) (pa_cons (C8.pe_c G.unit hr (by decide) (by rfl) (pa_cons (pv 2) pa_nil)) (pa_cons (C8.pe_c G.lunit hr (by decide) (by rfl) (pa_cons (pv 2) pa_nil)) pa_nil)))))
          (pw_or1 (pt_cmpR op_ne (pe_glob (v := .int 4) (by rfl) gM ⟨_, rfl⟩) pe_int (nomark _))))) (pss_one (ps_ret pe_bl)) pss_nil)
      (pss_cons (ps_for PassesOwn.never rfl (pi_range1 (by rfl) B.rng (pa_cons pe_int pa_nil)) (pg_name (i := 4) scLaw.nd rfl (.inl rfl))
        (pss_cons (ps_set (i := 5) scLaw.nd rfl (.inr rfl) (C8.pe_c G.grid hr (by decide) (by rfl) (pa_cons (pv 1) (pa_cons (pe_op op_add pe_int (C8.pe_c G.pull hr (by decide) (by rfl) (pa_cons (pv 1) (pa_cons pe_int pa_nil)))) pa_nil))))
        (pss_cons (ps_for PassesOwn.never rfl (pi_range1 (by rfl) B.rng (pa_cons (C8.pe_c G.pull hr (by decide) (by rfl) (pa_cons (pv 1) (pa_cons pe_int pa_nil))) pa_nil)) (pg_name (i := 6) scLaw.nd rfl (.inl rfl))
          (pss_cons (ps_set (i := 7) scLaw.nd rfl (.inl rfl) (C8.pe_c G.pull hr (by decide) (by rfl) (pa_cons (pv 1) (pa_cons (pe_callB call_len_seq (by rfl) B.len PySem.boot_len (pa_cons (pv 5) pa_nil)) pa_nil))))
          (pss_one (ps_asg (pe_ifExp (pt_cmpR op_eq (C8.pe_c G.pull hr (by decide) (by rfl) (pa_cons (pv 1) (pa_cons pe_int pa_nil))) pe_int (nomark _)) (pe_slice sl_list (pe_ix ix_list (pv 5) (pv 7) (fun _ _ => rfl)) (po_some pe_int) po_none)
            (pe_op op_cat (pe_ix ix_list (pv 5) (pv 7) (fun _ _ => rfl)) (pe_lst (pa_cons (pe_tup (pa_cons pe_int (pa_cons pe_int pa_nil))) pa_nil)))) (pg_sub (pv 5) (pv 7) set_list)))))
        (pss_cons (ps_setLc (i := 8) (own := [("_law_at", 7)]) (g := gName 7) rfl scLaw.nd rfl rfl (sw_true rfl rfl rfl (by decide +kernel)) (pi_range1 (by rfl) B.rng (pa_cons (pe_callB call_len_seq (by rfl) B.len PySem.boot_len (pa_cons (pv 5) pa_nil)) pa_nil)) (blkOk_by (N := nLaw) (sc := defScope sLaw) (by decide +kernel))
            (fun _ _ _ _ _ => pg_name (i := 7) scLaw.nd rfl (Or.inl rfl)) (fun _ _ _ _ _ => pts_one (pt_cmpR op_ne (pe_callB (r := fun xs H Q => ∃ p ys, xs = [.ref p] ∧ (SqL K H p ys ∨ SqT K H p ys) ∧ Q (.int ys.length) H) call_len_seq (by rfl) B.len PySem.boot_len (pa_cons (pe_ix (r := rIxL K) ix_list (pv 5) (pv 7) (fun _ _ => rfl)) pa_nil)) (pe_callB (r := fun xs H Q => ∃ p ys, xs = [.ref p] ∧ (SqL K H p ys ∨ SqT K H p ys) ∧ Q (.int ys.length) H) call_len_seq (by rfl) B.len PySem.boot_len (pa_cons (pv 5) pa_nil)) (nomark _)))
            (fun _ _ _ _ _ => pv 7))
        (pss_cons (ps_set (i := 10) scLaw.nd rfl (.inr rfl) (pe_lc (own := [("_law_row", 11)]) (g := gName 11) (tt := tYes) rfl scLaw.nd (pi_list (pv 5)) (blkOk_by (N := nLaw) (sc := defScope sLaw) (by decide +kernel))
            (fun _ _ _ _ _ => pg_name (i := 11) scLaw.nd rfl (Or.inl rfl)) (fun _ _ _ _ _ => pts_nil)
            (fun _ _ _ _ _ => pe_callTy (r := fun xs H Q => ∃ p ys, xs = [.ref p] ∧ (SqL K H p ys ∨ SqT K H p ys) ∧ ∀ l, H l = none → Q (.ref l) (upd H l (.lst ys))) call_list_of (by rfl) B.lst (by decide +kernel) (pa_cons (pv 11) pa_nil))))
        (pss_cons (ps_set (i := 9) scLaw.nd rfl (.inl rfl) (pe_lamcall (T := [(Pt, qLam)]) (k := 5) (by rfl) gT FT.kp lkT hcT bT scAsked rfl (.inl rfl) (asked_gives R) TB rfl (List.mem_singleton.mpr (by rfl)) (fun p hp _ => by rw [List.mem_singleton.mp hp]; rfl) (hr.mono (by decide)) (lamS_by (sc := defScope sLaw) (by decide +kernel)) rfl (fun _ _ _ _ _ => rfl)
              (fun A outer s H E f c' hr2 => pe_cxE G.need hr2 (by decide) (passes_call (takes_of rfl rfl rfl rfl) (fun _ _ _ _ z => z)) (by rfl) (pa_cons (pv 10) pa_nil))))
        (pss_one (ps_if (PW.pt (pw_or (pt_not (pt_val (C8.pe_c G.same3 hr (by decide) (by rfl) (pa_cons (pv 9) (pa_cons (pe_ifExp (pt_cmpR (op_eqD hr.units) (pv 8) (pe_lst pa_nil) (nomark _)) (pe_tup (pa_cons pe_str (pa_cons pe_non pa_nil))) (pe_tup (pa_cons pe_str (pa_cons pe_str (pa_cons (pe_ix ix_list (pv 8) pe_int (fun _ _ => rfl)) pa_nil))))) pa_nil)))))
          (pw_or1 (pt_cmpR (op_neD hr.units) (pv 10) (pv 5) (nomark _))))) (pss_one (ps_ret pe_bl)) pss_nil))))))))
      (pss_one (ps_ret (pe_cmpR (op_eqD hr.units) (pe_lamcall (T := [(Pt, qLam)]) (k := 5) (by rfl) gT FT.kp lkT hcT bT scAsked rfl (.inl rfl) (asked_gives R) TB rfl (List.mem_singleton.mpr (by rfl)) (fun p hp _ => by rw [List.mem_singleton.mp hp]; rfl) (hr.mono (by decide)) (lamS_by (sc := defScope sLaw) (by decide +kernel)) rfl (fun _ _ _ _ _ => rfl)
              (fun A outer s H E f c' hr2 => pe_cxE G.need hr2 (by decide) (passes_call (takes_of rfl rfl rfl rfl) (fun _ _ _ _ z => z)) (by rfl) (pa_cons (pe_lst pa_nil) pa_nil))) (pe_tup (pa_cons pe_str (pa_cons pe_str (pa_cons pe_int pa_nil)))) (nomark _))))))))), ?_⟩
    -- the bag, the size
    refine ⟨_, rfl, a, ns, rfl, hS, fun l b H1 s1 nb nl B1 => ?_⟩
    have O1 : Ok l b [(Pt, qLam)] H1 := ⟨B1, hT.ext s1⟩
    refine ⟨_, rfl, _, rfl, l, b, 40, rfl, by decide, fit8 (n := 6) (by decide) (by decide), O1.bag, fun r1 H2 r10 r11 B2 t2 => ?_⟩
    have O2 := O1.grow t2.grow B2
    refine ⟨1, r1, rfl, rfl, (by show 3 ≤ sizeLine; decide), fun o no => ?_⟩
    have O3 := O2.same (same_new (o := .lst [.int 1, .int 2, .int (1 + r1)]) no)
    refine ⟨l, b, o, _, rfl, O2.bag.ne no, upd_same, (by show 0 < 3; decide), (by show 3 ≤ 1000; decide), O3.bag, fun v H4 hv B4 t4 => ?_⟩
    have O4 := O3.grow t4.grow B4
    obtain ⟨n, rfl, n0, n1⟩ : ∃ n : Nat, v = .int (n : Int) ∧ 1 ≤ n ∧ n ≤ 1000 := by
      rcases List.mem_cons.mp hv with e | hv
      · exact ⟨1, e, by decide, by decide⟩
      · rcases List.mem_cons.mp hv with e | hv
        · exact ⟨2, e, by decide, by decide⟩
        · rcases List.mem_cons.mp hv with e | hv
          · refine ⟨(1 + r1).toNat, ?_, by omega, by omega⟩
            rw [e]
            exact congrArg V.int (by omega)
          · cases hv
    -- a unit that is changed
    refine ⟨_, rfl, n, rfl, n1, fun p5 H5 s5 np5 u5 => ?_⟩
    obtain ⟨rs5, e5, l5, c5⟩ := u5
    have O5 := O4.same s5
    refine ⟨(by show 2 ≤ sizeLine; decide), fun t6 nt6 => ?_⟩
    have O6 := O5.same (same_new (o := .tup [.int 5, .int 1]) nt6)
    have s6 := same_new (o := .tup [.int 5, .int 1]) nt6
    obtain ⟨r0, xs0, f0, w0, g0, m0, _⟩ := c5 0 rs5[0] (List.getElem?_eq_getElem (by omega))
    have at5 : atI rs5 0 = some (.ref r0) := by
      rw [← f0]
      exact atI_nat (j := 0) (List.getElem?_eq_getElem (by omega))
    have g0' := s6 _ _ g0
    refine ⟨_, rfl, p5, rs5, 0, .ref r0, rfl, rfl, SqL.of (s6 _ _ e5), at5, r0, xs0, 0, 0, rfl, rfl, g0', ?_, ?_⟩
    · unfold ixN
      rw [if_pos (by decide), if_pos (by omega)]
      rfl
    have O7 : Ok l b [(Pt, qLam)] (upd (upd H5 t6 (.tup [.int 5, .int 1])) r0 (.lst (xs0.set 0 (.ref t6)))) := ⟨O6.bag.beside (O4.bag.ne w0) (O4.bag.neL w0), tabs_lst g0' O6.tab upd_grow⟩
    generalize upd (upd H5 t6 (.tup [.int 5, .int 1])) r0 (.lst (xs0.set 0 (.ref t6))) = H7 at O7 ⊢
    -- the program's unit and the law's
    refine ⟨_, rfl, n, rfl, n1, fun p8 H8 s8 np8 u8 => ?_⟩
    refine ⟨_, rfl, n, rfl, n1, fun p9 H9 s9 np9 u9 => ?_⟩
    refine ⟨.ref p8, .ref p9, rfl, unit_twin n1 (u8.same s9) u9, fun H10 s10 => ⟨_, rfl, iteF ?_⟩⟩
    have O10 := O7.same (Same.trans s8 (Same.trans s9 s10))
    refine ⟨rfl, _, rfl, ?_⟩
    rw [decide_eq_true rfl]
    refine iteF ?_
    refine ⟨5, rfl, by decide, by decide, for_range (lo := 0) (n := (5 : Int).toNat) (fun i σ H' => ∃ y2 y3 y4 y5 y6 y7 y8 y9 y10 y11, σ = [some (.ref a), some (.ref b), y2, y3, y4, y5, y6, y7, y8, y9, y10, y11] ∧ Ok l b [(Pt, qLam)] H') ⟨_, _, _, _, _, _, _, _, _, _, rfl, O10⟩ ?_ ?_⟩
    · clear O10 s10 s9 s8 u9 u8 O7 O6 s6 O5 s5 c5 e5 g0' g0
      rintro i σ H0 hi ⟨y2, y3, y4, y5, y6, y7, y8, y9, y10, y11, rfl, O0⟩
      -- rows
      refine ⟨_, rfl, _, rfl, l, b, 4, rfl, by decide, fit8 (n := 6) (by decide) (by decide), O0.bag, fun q1 I1 q10 q11 B1 t1 => ?_⟩
      have O1 := O0.grow t1.grow B1
      refine ⟨1, q1, rfl, rfl, l, b, (1 + q1).toNat, ?_, by omega, O1.bag, fun Rw xss I2 nR hR hl1 hl2 B2 g2 => ?_⟩
      · exact congrArg (fun z : Int => [V.ref b, V.int z]) (by omega)
      have O2 := O1.grow g2 B2
      have nRl := O1.bag.neL nR
      generalize hm : (1 + q1).toNat = m at hl1 hl2
      have m1 : 1 ≤ m := by omega
      have m4 : m ≤ 4 := by omega
      -- rows made longer or shorter
      refine ⟨_, rfl, l, b, 3, rfl, by decide, fit8 (n := 6) (by decide) (by decide), O2.bag, fun q3 I3 q30 q31 B3 t3 => ?_⟩
      have O3 := O2.grow t3.grow B3
      have hR3 := hR.grow O2.bag t3.grow
      refine ⟨q3, rfl, by omega, by omega, for_range (lo := 0) (n := q3.toNat) (fun k σ H' => ∃ z6 z7 xss, σ = [some (.ref a), some (.ref b), y2, y3, some (.int (0 + (i : Int))), some (.ref Rw), z6, z7, y8, y9, y10, y11] ∧ Ok l b [(Pt, qLam)] H' ∧ Rows b Rw H' xss ∧ xss.length = m ∧ ∀ xs ∈ xss, xs.length ≤ 4 + k) ⟨_, _, xss, rfl, O3, hR3, hl1, fun xs hx => by rw [hl2 xs hx]; omega⟩ ?_ ?_⟩
      · rintro k σ J0 hk ⟨z6, z7, yss, rfl, P0, hY, hy1, hy2⟩
        obtain ⟨rs, eR, nRb, hrs⟩ := hY
        have hrl : rs.length = m := (Paired.length hrs).trans hy1
        refine ⟨_, rfl, _, rfl, Rw, rs, rfl, .inl (SqL.of eR), l, b, (rs.length : Int), rfl, by omega, small_fit (by omega), P0.bag, fun q4 J1 q40 q41 B4 t4 => ?_⟩
        have P1 := P0.grow t4.grow B4
        refine ⟨_, rfl, l, b, 2, rfl, by decide, fit8 (n := 6) (by decide) (by decide), P1.bag, fun q5 J2 q50 q51 B5 t5 => ?_⟩
        have P2 := P1.grow t5.grow B5
        have hY2 : Rows b Rw J2 yss := Rows.grow P1.bag t5.grow (Rows.grow P0.bag t4.grow ⟨rs, eR, nRb, hrs⟩)
        obtain ⟨rs2, eR2, _, hrs2⟩ := hY2
        have hrl2 : rs2.length = m := (Paired.length hrs2).trans hy1
        have hat : q4.toNat < rs2.length := by omega
        obtain ⟨ys, hys, r, ps, er, nrb, nrR, hr, hps⟩ := paired_get hrs2 (List.getElem?_eq_getElem hat)
        have hat2 : atI rs2 q4 = some (.ref r) := by
          rw [at_in q40 hat, er]
        have hixn : ixN rs2.length q4 = some q4.toNat := by
          unfold ixN
          rw [if_pos q40, if_pos (by omega)]
        have hmem : ys ∈ yss := List.mem_of_getElem? hys
        have hpl : ps.length = ys.length := Paired.length hps
        have hyl := hy2 ys hmem
        -- a new row stands in the place
        have fin : ∀ (J3 : Hp) (nr : Addr) (ps' : List V) (ys' : List Pr), Same J2 J3 → J2 nr = none → J3 nr = some (.lst ps') → Paired (ShV J3) ps' ys' → ys'.length ≤ 4 + (k + 1) →
            ∃ z6 z7 xss, [some (V.ref a), some (V.ref b), y2, y3, some (V.int (0 + (i : Int))), some (V.ref Rw), some (V.int (0 + (k : Int))), some (V.int q4), y8, y9, y10, y11] = [some (.ref a), some (.ref b), y2, y3, some (.int (0 + (i : Int))), some (.ref Rw), z6, z7, y8, y9, y10, y11] ∧
              Ok l b [(Pt, qLam)] (upd J3 Rw (.lst (rs2.set q4.toNat (.ref nr)))) ∧ Rows b Rw (upd J3 Rw (.lst (rs2.set q4.toNat (.ref nr)))) xss ∧ xss.length = m ∧ ∀ xs ∈ xss, xs.length ≤ 4 + (k + 1) := fun J3 nr ps' ys' sm hnr enr hp' hy' => by
          have eR3 := sm _ _ eR2
          have P3 := P2.same sm
          have nrb' := P2.bag.ne hnr
          have nrR' : nr ≠ Rw := fun z => by
            rw [z, eR2] at hnr
            cases hnr
          refine ⟨_, _, yss.set q4.toNat ys', rfl, ⟨P3.bag.beside nRb nRl, tabs_lst eR3 P3.tab upd_grow⟩, ⟨_, upd_same, nRb, ?_⟩, by rw [List.length_set]; exact hy1, fun xs hx => ?_⟩
          · exact Paired.set (RowV.grow eR3 (.inr rfl) upd_grow ⟨nr, ps', rfl, nrb', nrR', enr, hp'⟩) _ (Paired.imp (fun _ _ z => RowV.grow eR3 (.inr rfl) upd_grow (RowV.same sm z)) hrs2)
          · rcases List.mem_or_eq_of_mem_set hx with z | z
            · have := hy2 xs z
              omega
            · rw [z]
              exact hy'
        refine ⟨rfl, _, rfl, ite2 (fun c => ?_) (fun c => ?_)⟩
        · refine ⟨_, rfl, _, rfl, Rw, rs2, q4, .ref r, rfl, rfl, SqL.of eR2, hat2, 1, rfl, r, ps, rfl, SqL.of hr, fun nr hnr => ?_⟩
          have sm := same_new (o := .lst (cutV ps (some 1) none)) hnr
          refine ⟨_, rfl, _, rfl, Rw, rs2, q4, q4.toNat, rfl, rfl, sm _ _ eR2, hixn, ?_⟩
          have ecut : cutV ps (some 1) none = ps.drop 1 := by
            unfold cutV
            rw [show HT.sIx ps.length 0 (some 1) = min 1 ps.length from HT.sIx_nat ps.length 0 1, HT.sIx_none]
            cases ps with
            | nil => rfl
            | cons x r =>
              rw [show min 1 (x :: r).length = 1 by rw [List.length_cons]; omega]
              show List.take ((x :: r).length - 1) r = r
              rw [List.length_cons, Nat.add_sub_cancel]
              exact List.take_length
          refine fin _ nr (cutV ps (some 1) none) (ys.drop 1) sm hnr upd_same ?_ (by rw [List.length_drop]; omega)
          rw [ecut] at sm ⊢
          exact Paired.imp (fun _ _ => ShV.same sm) (Paired.drop1 hps)
        · refine ⟨_, rfl, _, rfl, Rw, rs2, q4, .ref r, rfl, rfl, SqL.of eR2, hat2, (by show 2 ≤ sizeLine; decide), fun tp ntp => ?_⟩
          have sm1 := same_new (o := .tup [.int 1, .int 1]) ntp
          refine ⟨(by show 1 ≤ sizeLine; decide), fun ol nol => ?_⟩
          have sm2 := Same.trans sm1 (same_new (o := .lst [.ref tp]) nol)
          refine ⟨r, ol, ps, [.ref tp], rfl, rfl, sm2 _ _ hr, upd_same, ?_, fun nr hnr => ?_⟩
          · rw [sizeLine_eq]
            show ps.length + 1 ≤ 16777216
            omega
          have sm3 := Same.trans sm2 (same_new (o := .lst (ps ++ [.ref tp])) hnr)
          refine ⟨_, rfl, _, rfl, Rw, rs2, q4, q4.toNat, rfl, rfl, sm3 _ _ eR2, hixn, ?_⟩
          have etp := Same.trans (same_new (o := .lst [.ref tp]) nol) (same_new (o := .lst (ps ++ [.ref tp])) hnr) tp _ upd_same
          exact fin _ nr (ps ++ [.ref tp]) (ys ++ [(1, 1)]) sm3 (sm2.free hnr) upd_same (Paired.snoc ⟨tp, rfl, etp⟩ (Paired.imp (fun _ _ => ShV.same sm3) hps)) (by rw [List.length_append]; show ys.length + 1 ≤ _; omega)
      · rintro σ J0 ⟨z6, z7, yss, rfl, P0, hY, hy1, hy2⟩
        obtain ⟨rs, eR, nRb, hrs⟩ := id hY
        have hrl : rs.length = m := (Paired.length hrs).trans hy1
        generalize hlens : yss.map List.length = lens
        have hll : lens.length = m := by rw [← hlens, List.length_map]; exact hy1
        -- bad
        refine ⟨_, rfl, Rw, rs, rfl, .inl (SqL.of eR), (rs.length : Int), rfl, by omega, by omega, fun D hD => ?_⟩
        have enn : ((rs.length : Int)).toNat = m := by omega
        rw [enn]
        refine lc_range (lo := 0) (n := m) (fun i H' => Same J0 H' ∧ H' D = some (.lst ((badIx m lens i).map fun (k : Nat) => V.int (k : Int)))) ⟨same_new hD, upd_same⟩ (fun j Hj hj hP => ?_) (fun J1 hP => ?_)
        · obtain ⟨sj, eD⟩ := hP
          obtain ⟨ys, hys, r, ps, er, nrb, nrR, hr, hps⟩ := paired_get hrs (List.getElem?_eq_getElem (show j < rs.length by omega))
          have hat : atI rs (0 + (j : Int)) = some (.ref r) := by
            rw [Int.zero_add, ← er]
            exact atI_nat (List.getElem?_eq_getElem (by omega))
          have hln : lens.getD j 0 = ps.length := by
            rw [List.getD_eq_getElem?_getD, ← hlens, List.getElem?_map, hys, Paired.length hps]
            rfl
          refine ⟨rfl, ?_⟩
          refine ⟨_, rfl, _, rfl, Rw, rs, _, .ref r, rfl, rfl, SqL.of (sj _ _ eR), hat, r, ps, rfl, .inl (SqL.of (sj _ _ hr)), _, rfl, Rw, rs, rfl, .inl (SqL.of (sj _ _ eR)), rfl, _, rfl, ite2 (fun c => ?_) (fun c => ?_)⟩
          · have ne : lens.getD j 0 ≠ m := fun z => by
              rw [show (ps.length : Int) = (rs.length : Int) by omega, decide_eq_true rfl] at c
              cases c
            refine ⟨_, rfl, _, eD, ?_, ?_, ?_⟩
            · rw [List.length_map]
              exact small1000 (Nat.le_trans (badIx_len m lens j) (by omega))
            · exact fun z o hz => by
                rw [upd_ne (ne_of_none hz hD)]
                exact sj _ _ hz
            · rw [upd_same, badIx_succ, if_pos ne, List.map_append, Int.zero_add]
              rfl
          · have ee : lens.getD j 0 = m := Classical.byContradiction fun z => c (by
              rw [decide_eq_false (fun y => z (by have := V.int.inj y; omega))]
              rfl)
            refine ⟨sj, ?_⟩
            rw [badIx_succ, if_neg (fun z => z ee)]
            exact eD
        · obtain ⟨sj, eD⟩ := hP
          have hbad := bad_head m lens
          rw [hll] at hbad
          generalize badIx m lens m = bs at eD hbad
          have P1 := P0.same sj
          have hY1 := hY.same sj
          have eR1 := sj _ _ eR
          have hrs1 := Paired.imp (fun _ _ z => RowV.same sj z) hrs
          clear hrs eR hY P0 hD
          -- handed
          refine ⟨_, rfl, Rw, rfl, ⟨_, SqL.of eR1⟩, fun D2 hD2 => ?_⟩
          have n2b := P1.bag.ne hD2
          refine lc_list (K := K) (a := Rw) (xs := rs) (fun i H' => Same J1 H' ∧ ∃ hs : List V, hs.length = i ∧ H' D2 = some (.lst hs) ∧ Paired (RowV b D2 H') hs (yss.take i)) ⟨same_new hD2, [], rfl, upd_same, .nil⟩ (fun i H' _ hP => SqL.of (hP.1 _ _ eR1)) (fun j x Hj hx hP => ?_) (fun J2 hP => ?_)
          · obtain ⟨s2, hs, hhs, e2, hp2⟩ := hP
            obtain ⟨ys, hys, r, ps, rfl, nrb, nrR, hr, hps⟩ := paired_get hrs1 hx
            refine ⟨rfl, yes_if ?_⟩
            refine ⟨_, rfl, r, ps, rfl, .inl (SqL.of (s2 _ _ hr)), fun l2 hl2 => ?_⟩
            have s3 := same_new (o := .lst ps) hl2
            have e3 := s3 _ _ e2
            have n22 : l2 ≠ D2 := fun z => by
              rw [z, e2] at hl2
              cases hl2
            have nl2b : l2 ≠ b := (P1.bag.same s2).ne hl2
            refine ⟨hs, e3, ?_, fun z o hz => ?_, hs ++ [.ref l2], by rw [List.length_append, hhs]; rfl, upd_same, ?_⟩
            · have : j < rs.length := (List.getElem?_eq_some_iff.mp hx).1
              exact small1000 (by omega)
            · rw [upd_ne (ne_of_none hz hD2)]
              exact s3 _ _ (s2 _ _ hz)
            · rw [List.take_add_one, hys]
              refine Paired.snoc ?_ (Paired.imp (fun _ _ z => RowV.grow e3 (.inr rfl) upd_grow (RowV.same s3 z)) hp2)
              exact RowV.grow e3 (.inr rfl) upd_grow ⟨l2, ps, rfl, nl2b, n22, upd_same, Paired.imp (fun _ _ z => ShV.same s3 (ShV.same s2 z)) hps⟩
          · obtain ⟨s2, hs, hhs, e2, hp2⟩ := hP
            rw [List.take_of_length_le (by omega)] at hp2
            have P2 := P1.same s2
            have hY2 := hY1.same s2
            have hZ2 : Rows b D2 J2 yss := ⟨hs, e2, n2b, hp2⟩
            replace eD := s2 _ _ eD
            clear hrs1 eR1 hY1 P1
            -- need_table(handed)
            refine ⟨P2.tab, fun J3 ex T3 => ?_⟩
            have P3 := P2.ext ex T3
            have exL : ∀ {z : Addr} {xs : List V}, J2 z = some (.lst xs) → J3 z = some (.lst xs) := fun h => ex _ _ h (fun _ z => nomatch z)
            have exS : ∀ {v : V} {x : Pr}, ShV J2 v x → ShV J3 v x := fun ⟨p, e, h⟩ => ⟨p, e, ex _ _ h (fun _ z => nomatch z)⟩
            have exR : ∀ {Q : Addr} {v : V} {x : List Pr}, RowV b Q J2 v x → RowV b Q J3 v x := fun ⟨r, ps, e, n1, n2, h1, h2⟩ => ⟨r, ps, e, n1, n2, exL h1, Paired.imp (fun _ _ => exS) h2⟩
            have exW : ∀ {Q : Addr}, Rows b Q J2 yss → Rows b Q J3 yss := fun ⟨rs, h1, n, h2⟩ => ⟨rs, exL h1, n, Paired.imp (fun _ _ => exR) h2⟩
            replace hY2 := exW hY2
            replace hZ2 := exW hZ2
            replace eD := exL eD
            obtain ⟨hs3, e3, _, hp3⟩ := id hZ2
            have long : ∀ {hs : List V} {zss : List (List Pr)}, Paired (RowV b D2 J3) hs zss → Paired (Long K J3) hs (zss.map List.length) := fun h => by
              induction h with
              | nil => exact .nil
              | cons h _ ih =>
                obtain ⟨r, ps, e, _, _, h1, h2⟩ := h
                exact .cons ⟨r, ps, e, SqL.of h1, Paired.length h2⟩ ih
            have long3 := long hp3
            rw [hlens] at long3
            -- the comparison's second part, and the turn's end
            refine ⟨_, rfl, D2, hs3, lens, rfl, SqL.of e3, long3, by omega, fun z => absurd z (by omega), fun _ i hi => ?_, fun _ hno J4 s4 => ?_⟩
            · intro d J4 s4 nd ed
              refine ⟨rfl, d, i, rfl, ed, fun fo nf => ?_⟩
              rw [hll] at hi
              rw [hi] at hbad
              obtain ⟨rest, rfl⟩ : ∃ rest, bs = i :: rest := by
                cases bs with
                | nil => cases hbad
                | cons x r => cases hbad; exact ⟨r, rfl⟩
              have s5 := same_new (o := .tup [.str "no", .str "BadTable", .int (i : Int)]) nf
              have ef : (upd J4 fo (.tup [.str "no", .str "BadTable", .int (i : Int)])) fo = _ := upd_same
              generalize upd J4 fo (.tup [.str "no", .str "BadTable", .int (i : Int)]) = J5 at s5 ef ⊢
              have s45 := Same.trans s4 s5
              refine ⟨_, rfl, _, rfl, Nat.zero_le _, fun e ne => ?_⟩
              have s6 := same_new (o := .lst []) ne
              have s46 := Same.trans s45 s6
              refine ⟨ixD (i :: rest), ixD [], .lst (SqL.of (s46 _ _ eD)) (dp_ix _), .lst (SqL.of upd_same) .nil, ix_shaped _, ix_shaped _, _, rfl, ?_⟩
              rw [ix_eq]
              refine iteF ?_
              refine ⟨_, rfl, D, _, 0, _, rfl, rfl, SqL.of (s46 _ _ eD), atI_nat (j := 0) rfl, (by show 3 ≤ sizeLine; decide), fun du nd2 => ?_⟩
              have s7 := same_new (o := .tup [.str "no", .str "BadTable", .int (i : Int)]) nd2
              refine ⟨.ref fo, .ref du, rfl, (twin_all (n := 0) (.inr ⟨SqT.of (s7 _ _ (s6 _ _ ef)), SqT.of upd_same⟩) (by show 3 ≤ 1000; decide) (.cons (Twin.one (Scal.str _) 0) (.cons (Twin.one (Scal.str _) 0) (.cons (Twin.one (Scal.int _) 0) .nil)))).up.up, fun J8 s8 => ⟨_, rfl, iteF ?_⟩⟩
              have s48 := Same.trans s46 (Same.trans s7 s8)
              refine ⟨_, rfl, _, rfl, dataOf yss, dataOf yss, (hZ2.same s48).dp, (hY2.same s48).dp, data_shaped _, data_shaped _, _, rfl, ?_⟩
              rw [data_same]
              refine iteF ?_
              exact ⟨_, _, _, _, _, _, _, _, _, _, rfl, P3.same s48⟩
            · refine ⟨(by show 2 ≤ sizeLine; decide), fun fo nf => ?_⟩
              rw [hll] at hno
              rw [hno] at hbad
              obtain rfl : bs = [] := by
                cases bs with
                | nil => rfl
                | cons x r => cases hbad
              have s5 := same_new (o := .tup [.str "told", .non]) nf
              have ef : (upd J4 fo (.tup [.str "told", .non])) fo = _ := upd_same
              generalize upd J4 fo (.tup [.str "told", .non]) = J5 at s5 ef ⊢
              have s45 := Same.trans s4 s5
              refine ⟨_, rfl, _, rfl, Nat.zero_le _, fun e ne => ?_⟩
              have s6 := same_new (o := .lst []) ne
              have s46 := Same.trans s45 s6
              refine ⟨ixD [], ixD [], .lst (SqL.of (s46 _ _ eD)) (dp_ix _), .lst (SqL.of upd_same) .nil, ix_shaped _, ix_shaped _, _, rfl, ?_⟩
              rw [ix_eq]
              refine iteT ?_
              refine ⟨(by show 2 ≤ sizeLine; decide), fun du nd2 => ?_⟩
              have s7 := same_new (o := .tup [.str "told", .non]) nd2
              refine ⟨.ref fo, .ref du, rfl, (twin_all (n := 0) (.inr ⟨SqT.of (s7 _ _ (s6 _ _ ef)), SqT.of upd_same⟩) (by show 2 ≤ 1000; decide) (.cons (Twin.one (Scal.str _) 0) (.cons (Twin.one Scal.non 0) .nil))).up.up, fun J8 s8 => ⟨_, rfl, iteF ?_⟩⟩
              have s48 := Same.trans s46 (Same.trans s7 s8)
              refine ⟨_, rfl, _, rfl, dataOf yss, dataOf yss, (hZ2.same s48).dp, (hY2.same s48).dp, data_shaped _, data_shaped _, _, rfl, ?_⟩
              rw [data_same]
              refine iteF ?_
              exact ⟨_, _, _, _, _, _, _, _, _, _, rfl, P3.same s48⟩
    · rintro σ H' ⟨y2, y3, y4, y5, y6, y7, y8, y9, y10, y11, rfl, O0⟩
      -- need_table([])
      refine ⟨O0.tab, fun J1 ex T1 => ?_⟩
      refine ⟨Nat.zero_le _, fun e ne => ?_⟩
      refine ⟨e, [], [], rfl, SqL.of upd_same, .nil, Nat.zero_le _, fun _ d J2 s2 nd ed => ?_, fun z => absurd rfl z, fun z => absurd rfl z⟩
      refine ⟨rfl, d, 0, rfl, ed, fun p np => ?_⟩
      refine ⟨(by show 3 ≤ sizeLine; decide), fun p2 np2 => ?_⟩
      have dp : ∀ z : Addr, (upd (upd J2 p (.tup [.str "no", .str "BadTable", .int 0])) p2 (.tup [.str "no", .str "BadTable", .int 0])) z = some (.tup [.str "no", .str "BadTable", .int 0]) → Dp K (upd (upd J2 p (.tup [.str "no", .str "BadTable", .int 0])) p2 (.tup [.str "no", .str "BadTable", .int 0])) (.ref z) (.tuple [.str "no", .str "BadTable", .int 0]) :=
        fun z hz => .tup (SqT.of hz) (.cons (.str _) (.cons (.str _) (.cons (.int _) .nil)))
      refine ⟨.tuple [.str "no", .str "BadTable", .int 0], .tuple [.str "no", .str "BadTable", .int 0], dp p (by rw [upd_ne (ne_of_none upd_same np2), upd_same]), dp p2 upd_same, by decide +kernel, by decide +kernel, ?_⟩
      rw [SeqAt.eqv_refl _ (by decide +kernel)]
      exact q _
end
end Nv

set_option maxRecDepth 100000
set_option maxHeartbeats 4000000
namespace Nv
open PySem PySem.Spec PyProof.Rows L2 LamX
/-- a def as the top has left it, under its own name -/
structure DefAt (K : PySem.W.Frag) (x : Str) (st : Stmt) (f : Addr) : Prop where
  ns : PySem.W.nsIn K mainGlobals x = some (some (.ref f))
  ex : ∃ (oc : Value) (od : Option Addr) (kV doc pm : Value) (an : Option Addr) (cdv ct : Value) (osl : Array (Option Value)), K.lookup f = some ⟨oc, od, .func (PySem.W.fnOf x x (defArgs st) (defBody st) (defScope st) .none kV doc pm an cdv ct), osl⟩ ∧ PySem.W.codeIn K cdv x = true
  kp : PySem.W.keepIn K (.ref f) = true
theorem DefAt.fn {K : PySem.W.Frag} {x : Str} {st : Stmt} {f : Addr} (D : DefAt K x st f) : ∃ fd, Fun K x x st f fd := by
  obtain ⟨oc, od, kV, doc, pm, an, cdv, ct, osl, l, c⟩ := D.ex
  exact ⟨_, fun_mk l c D.kp⟩
/-- what of a code object's fields a lambda's making asks -/
def codeOk (vs : Array Value) (c P : Addr) : Bool := (match (vs[11]? : Option Value) with | some (.ref Q) => Q == P | _ => false) && (match vs.getD 18 .none with | .str _ _ => true | _ => false) && (match vs.getD 7 .none with | .int _ _ => true | _ => false) &&
  (match vs.getD 9 .none with | .bool _ => true | _ => false) && (match vs.getD 10 .none with | .int _ _ => true | _ => false) && c != P
theorem codeHd_at {K : PySem.W.Frag} {c P : Addr} {d : Option Addr} {vs : Array Value} {sl : Array (Option Value)} (l : K.lookup c = some ⟨.type "code", d, .fields vs, sl⟩) (h : codeOk vs c P = true) : PySem.W.codeHdIn K c P = true := by
  unfold PySem.W.codeHdIn
  rw [l]
  exact h
theorem exm_at {K : PySem.W.Frag} {C D : Addr} {b : Bool} (h1 : PySem.W.subIn K (.ref D) (.type "BaseException") = some true) (h2 : PySem.W.isClsIn K D = true) (h3 : PySem.W.typeIn K (.ref D) = some (.type "type")) (h4 : PySem.W.subIn K (.ref C) (.ref D) = some b) : PySem.W.exmOne K (.ref C) (.ref D) = some b := by
  have e2 : ((PySem.W.clsIn K D).isSome && PySem.W.typeIn K (.ref D) == some (.type "type")) = true := by
    have h2' : (PySem.W.clsIn K D).isSome = true := h2
    rw [h2', h3]
    rfl
  unfold PySem.W.exmOne
  rw [h1, if_pos (show ((some true : Option Bool) == some true) = true from rfl)]
  show (if ((PySem.W.clsIn K D).isSome && PySem.W.typeIn K (.ref D) == some (.type "type")) = true then PySem.W.subIn K (.ref C) (.ref D) else none) = some b
  rw [if_pos e2, h4]
/-- a pair of numbers of the top -/
theorem pairK {K : PySem.W.Frag} {a : Addr} {oT : Obj} {u1 u2 : Value} {z : Nat} {i j : Int} (t : K.lookup a = some oT) (c : oT.cls = .type "tuple") (d : oT.data = .seq [u1, u2].toArray z) (v1 : L2.RelV (.int i) u1) (v2 : L2.RelV (.int j) u2) (H : Hp) : SqT K H a [.int i, .int j] :=
  .inr ⟨oT, _, z, t, c, d, (by show 2 ≤ sizeLine; decide), .cons v1 (.cons v2 .nil)⟩
section
variable {P : Program} {w : World} {K : PySem.W.Frag} {mg : Str → Option Value} {base : Heap}
theorem cal {k : Nat} {x : Str} {f : Addr} {fd : FuncData} {ps : List Str} {sp : Sp} (G : FnOk P w K mg base CX0 k f fd ps sp) (hm : mg x = some (.ref f)) (kp : PySem.W.keepIn K (.ref f) = true) (b : Binds K fd ps []) : C8.Cal P w K mg base k x sp [] := ⟨f, fd, ps, [], G, hm, kp, b, .nil⟩
theorem all_mk {l : PySem.W.OpenLaw} {h : Heap} {fa f0 f1 f2 f3 f4 f5 f6 f7 f8 f9 f10 f11 CN C CT CX fN fI c Pt o1 o0 : Addr} (X : K.In h) (G : h.Ns mainGlobals mg) (hfa : mg "law" = some (.ref fa))
    (D0 : DefAt K "unit" sUnit f0) (D1 : DefAt K "need_table" sNeed f1) (D2 : DefAt K "_law_bag" sBag f2) (D3 : DefAt K "_law_pull" sPull f3) (D4 : DefAt K "_law_of" sOf f4) (D5 : DefAt K "_law_same" sSame f5) (D6 : DefAt K "_law_asked" sAsked f6) (D7 : DefAt K "_law_gcd" sLGcd f7) (D8 : DefAt K "_law_fr" sLFr f8) (D9 : DefAt K "_law_light" sLight f9) (D10 : DefAt K "_law_unit" sLUnit f10) (D11 : DefAt K "_law_grid" sGrid f11)
    {ocL docL pmL ctL kVL : Value} {odL anL : Option Addr} {oslL : Array (Option Value)} {fL : Addr} (aL : PySem.W.nsIn K mainGlobals "law" = some (some (.ref fL)))
    (lL : K.lookup fL = some ⟨ocL, odL, .func (PySem.W.fnOf "law" "law" (defArgs sLaw) (defBody sLaw) (defScope sLaw) .none kVL docL pmL anL (.ref c) ctL), oslL⟩) (cL : PySem.W.codeIn K (.ref c) "law" = true)
    {dC : Option Addr} {vsC : Array Value} {slC : Array (Option Value)} (lC : K.lookup c = some ⟨.type "code", dC, .fields vsC, slC⟩) (tL : h.get? Pt = some { cls := .none, data := .fields #[] }) (hC : codeOk vsC c Pt = true) (nL : K.lookup Pt = none)
    {ocN docN pmN ctN kVN cdN : Value} {odN anN : Option Addr} {oslN : Array (Option Value)} {TN : Addr} {oTN : Obj} {uN1 uN2 : Value} {zN : Nat} {ocI docI pmI ctI kVI cdI : Value} {odI anI : Option Addr} {oslI : Array (Option Value)}
    (R3 : PySem.W.nsIn K mainGlobals "BadTable" = some (some (.ref C))) (R4 : PySem.W.nsIn K mainGlobals "NeverError" = some (some (.ref CN))) (R30 : PySem.W.nsIn K mainGlobals "BadTerm" = some (some (.ref CT))) (R31 : PySem.W.nsIn K mainGlobals "BadText" = some (some (.ref CX)))
    (R5 : PySem.W.findIn K (.ref C) "__init__" = some (some (.ref fI))) (R9 : PySem.W.findCls K (.ref CN) (.type "type") "__init__" = some (.val (.ref fN)))
    (lN : K.lookup fN = some ⟨ocN, odN, .func (PySem.W.fnOf "__init__" "NeverError.__init__" (defArgs sNE) (defBody sNE) (defScope sNE) (.ref TN) kVN docN pmN anN cdN ctN), oslN⟩) (cN : PySem.W.codeIn K cdN "NeverError.__init__" = true)
    (tN : K.lookup TN = some oTN) (dN : oTN.data = .seq [uN1, uN2].toArray zN) (vN1 : L2.RelV (.str "NeverError") uN1) (vN2 : L2.RelV (.str "refused") uN2)
    (lI : K.lookup fI = some ⟨ocI, odI, .func (PySem.W.fnOf "__init__" "BadTable.__init__" (defArgs sBT) (defBody sBT) (defScope sBT) .none kVI docI pmI anI cdI ctI), oslI⟩) (cI : PySem.W.codeIn K cdI "BadTable.__init__" = true) (kI : PySem.W.keepIn K (.ref fI) = true)
    (R0 : OexC K C) (R1 : XfC K C) (R2 : PySem.W.findIn K (.ref C) "word" = some none) (R20 : PySem.W.findIn K (.ref C) "at" = some none) (R21 : PySem.W.findIn K (.ref C) "flaw" = some none)
    (R6 : PySem.W.typeIn K (.ref fI) = some (.type "function")) (R7 : PySem.W.readsIn K CN (.type "type") = true)
    (R8 : PySem.W.specialIn K (.ref CN) "__getattribute__" = some (some (.builtin "type.__getattribute__"))) (R10 : PySem.W.keepIn K (.ref fN) = true)
    (S1 : PySem.W.subIn K (.ref CT) (.type "BaseException") = some true) (S2 : PySem.W.isClsIn K CT = true) (S3 : PySem.W.typeIn K (.ref CT) = some (.type "type")) (S4 : PySem.W.subIn K (.ref C) (.ref CT) = some false)
    (S5 : PySem.W.subIn K (.ref C) (.type "BaseException") = some true) (S6 : PySem.W.isClsIn K C = true) (S7 : PySem.W.typeIn K (.ref C) = some (.type "type")) (S8 : PySem.W.subIn K (.ref C) (.ref C) = some true)
    (S9 : PySem.W.subIn K (.ref CX) (.type "BaseException") = some true) (S10 : PySem.W.isClsIn K CX = true) (S11 : PySem.W.typeIn K (.ref CX) = some (.type "type")) (S12 : PySem.W.subIn K (.ref C) (.ref CX) = some false)
    (R12 : PySem.W.findCls K (.type "ValueError") (.type "type") "__init__" = some (.val (.builtin "ValueError.__init__"))) (R14 : PySem.W.nsIn K mainGlobals "ValueError" = some none) (R15 : PySem.W.nsIn K mainGlobals "enumerate" = some none)
    {tM : Tok} (M0 : PySem.W.nsIn K mainGlobals "MOST_SIZE" = some (some (.int 4 tM))) (M1 : PySem.W.nsIn K mainGlobals "ONE" = some (some (.ref o1))) (M2 : PySem.W.nsIn K mainGlobals "NOUGHT" = some (some (.ref o0)))
    {oT1 oT0 : Obj} {u1 u2 u3 u4 : Value} {z1 z0 : Nat} (M3 : K.lookup o1 = some oT1) (M4 : oT1.cls = .type "tuple") (M5 : oT1.data = .seq [u1, u2].toArray z1) (M6 : L2.RelV (.int 1) u1) (M7 : L2.RelV (.int 1) u2)
    (M8 : K.lookup o0 = some oT0) (M9 : oT0.cls = .type "tuple") (M10 : oT0.data = .seq [u3, u4].toArray z0) (M11 : L2.RelV (.int 0) u3) (M12 : L2.RelV (.int 1) u4)
    (B0 : PySem.W.nsIn K mainGlobals "isinstance" = some none) (B1 : PySem.W.nsIn K mainGlobals "list" = some none) (B2 : PySem.W.nsIn K mainGlobals "tuple" = some none) (B3 : PySem.W.nsIn K mainGlobals "len" = some none) (B4 : PySem.W.nsIn K mainGlobals "all" = some none) (B5 : PySem.W.nsIn K mainGlobals "range" = some none) (B6 : PySem.W.nsIn K mainGlobals "bool" = some none) (B7 : PySem.W.nsIn K mainGlobals "int" = some none) (B8 : PySem.W.nsIn K mainGlobals "str" = some none) (B9 : PySem.W.nsIn K mainGlobals "abs" = some none) : LawAtS l w K CX0 9 63 "_law_script" mg fa h := by
  have e := hfa.symm.trans (PySem.W.mg_of X G aL)
  cases e
  have T : Blt mg := ⟨PySem.W.mg_none_of X G B0, PySem.W.mg_none_of X G B1, PySem.W.mg_none_of X G B2, PySem.W.mg_none_of X G B3, PySem.W.mg_none_of X G B4, PySem.W.mg_none_of X G B5, PySem.W.mg_none_of X G B6, PySem.W.mg_none_of X G B7, PySem.W.mg_none_of X G B8, PySem.W.mg_none_of X G B9⟩
  have hit : PySem.W.exmAny K (.ref C) [.ref C, .ref CX] = some true := by
    unfold PySem.W.exmAny
    rw [exm_at S5 S6 S7 S8]
    unfold PySem.W.exmAny
    rw [exm_at S9 S10 S11 S12]
    rfl
  have R : Errs K mg CN C CT CX fN fI := { oex := R0, xf := R1, word := R2, at_ := R20, flaw := R21, gC := PySem.W.mg_of X G R3, gN := PySem.W.mg_of X G R4, gT := PySem.W.mg_of X G R30, gX := PySem.W.mg_of X G R31, iC := R5, tI := R6, rd := ⟨R7, R8⟩, cv := ⟨R9, rfl⟩, kp := R10, miss := exm_at S1 S2 S3 S4, hit := hit }
  obtain ⟨fd0, F0⟩ := D0.fn
  have b0 := F0.binds (ps := ["size"]) fun _ _ _ _ _ _ us hl => match us, hl with | [_], _ => rfl
  have g0 := PySem.W.mg_of X G D0.ns
  obtain ⟨fd1, F1⟩ := D1.fn
  have b1 := F1.binds (ps := ["rows"]) fun _ _ _ _ _ _ us hl => match us, hl with | [_], _ => rfl
  have g1 := PySem.W.mg_of X G D1.ns
  obtain ⟨fd2, F2⟩ := D2.fn
  have b2 := F2.binds (ps := ["_law_script"]) fun _ _ _ _ _ _ us hl => match us, hl with | [_], _ => rfl
  have g2 := PySem.W.mg_of X G D2.ns
  obtain ⟨fd3, F3⟩ := D3.fn
  have b3 := F3.binds (ps := ["_law_bag_here", "_law_sides"]) fun _ _ _ _ _ _ us hl => match us, hl with | [_, _], _ => rfl
  have g3 := PySem.W.mg_of X G D3.ns
  obtain ⟨fd4, F4⟩ := D4.fn
  have b4 := F4.binds (ps := ["_law_bag_here", "_law_some"]) fun _ _ _ _ _ _ us hl => match us, hl with | [_, _], _ => rfl
  have g4 := PySem.W.mg_of X G D4.ns
  obtain ⟨fd5, F5⟩ := D5.fn
  have b5 := F5.binds (ps := ["_law_found", "_law_due"]) fun _ _ _ _ _ _ us hl => match us, hl with | [_, _], _ => rfl
  have g5 := PySem.W.mg_of X G D5.ns
  obtain ⟨fd6, F6⟩ := D6.fn
  have b6 := F6.binds (ps := ["_law_ask"]) fun _ _ _ _ _ _ us hl => match us, hl with | [_], _ => rfl
  have g6 := PySem.W.mg_of X G D6.ns
  obtain ⟨fd7, F7⟩ := D7.fn
  have b7 := F7.binds (ps := ["_law_one", "_law_other"]) fun _ _ _ _ _ _ us hl => match us, hl with | [_, _], _ => rfl
  have g7 := PySem.W.mg_of X G D7.ns
  obtain ⟨fd8, F8⟩ := D8.fn
  have b8 := F8.binds (ps := ["_law_top", "_law_bottom"]) fun _ _ _ _ _ _ us hl => match us, hl with | [_, _], _ => rfl
  have g8 := PySem.W.mg_of X G D8.ns
  obtain ⟨fd9, F9⟩ := D9.fn
  have b9 := F9.binds (ps := ["_law_bag_here"]) fun _ _ _ _ _ _ us hl => match us, hl with | [_], _ => rfl
  have g9 := PySem.W.mg_of X G D9.ns
  obtain ⟨fd10, F10⟩ := D10.fn
  have b10 := F10.binds (ps := ["_law_size"]) fun _ _ _ _ _ _ us hl => match us, hl with | [_], _ => rfl
  have g10 := PySem.W.mg_of X G D10.ns
  obtain ⟨fd11, F11⟩ := D11.fn
  have b11 := F11.binds (ps := ["_law_bag_here", "_law_size"]) fun _ _ _ _ _ _ us hl => match us, hl with | [_, _], _ => rfl
  have g11 := PySem.W.mg_of X G D11.ns
  have FN : FunD K "__init__" "NeverError.__init__" (defArgs sNE) (defBody sNE) (defScope sNE) [.str "NeverError", .str "refused"] [] fN _ := ⟨⟨ocN, odN, _, kVN, docN, pmN, anN, cdN, ctN, oslN, rfl, lN, cN, .inr ⟨by simp, TN, oTN, [uN1, uN2], zN, rfl, tN, dN, .cons vN1 (.cons vN2 .nil)⟩, .inl rfl⟩, R10⟩
  have FI : Fun K "__init__" "BadTable.__init__" sBT fI _ := fun_mk lI cI kI
  have bI := FI.binds (ps := ["self", "at"]) fun _ _ _ _ _ _ us hl => match us, hl with | [_, _], _ => rfl
  obtain ⟨dsN, vN, bN⟩ := FN.binds1 (ps := ["self", "word", "message"]) 3 2 (by simp) rfl fun T kV doc pm an cdv ct us its hu hi => match us, hu, its, hi with
    | [_, _, _], _, [_, _], _ => ⟨_, rfl, rfl⟩
  cases vN
  refine ⟨PySem.W.fnOf "law" "law" (defArgs sLaw) (defBody sLaw) (defScope sLaw) .none kVL docL pmL anL (.ref c) ctL, [(c, Pt)], spLaw K Pt, fun p hp => ?_, fun p hp => ?_, fun p hp => ?_, fun s v => .of_eq rfl, fun H a ns hl hb hT hS => ⟨a, ns, rfl, hS, fun p hp => ?_, fun _ => rfl⟩, fun base _ _ hTB => ?_⟩
  · rw [List.mem_singleton.mp hp]
    exact tL
  · rw [List.mem_singleton.mp hp]
    exact nL
  · rw [List.mem_singleton.mp hp]
    exact PySem.W.codeHd_of_K X (codeHd_at lC hC)
  · rw [List.mem_singleton.mp hp]
    exact TabS.nil (hT (c, Pt) (List.mem_singleton.mpr rfl))
  · have cLG := cal (ok_law_gcd (P := l.prog) (w := w) (base := base) (k := 0) F7 T.abs) g7 F7.kp b7
    have GN : FnOk l.prog w K mg base CX0 1 fN _ _ _ := ok_NE (k := 0) FN (PySem.W.mg_none_of X G R14) R12
    have GI := ok_BT FI R GN bN
    have GD := ok_need F1 R GI bI T (PySem.W.mg_none_of X G R15)
    have cP := cal (ok_pull (P := l.prog) (w := w) (base := base) (k := 0) F3 T.len) g3 F3.kp b3
    have cF := cal (ok_law_fr F8 cLG) g8 F8.kp b8
    have cL' := cal (ok_light F9 cF cP) g9 F9.kp b9
    have GC : Calls l.prog w K mg base C := {
      need := ⟨_, _, _, _, GD, g1, F1.kp, b1, .nil⟩
      unit := cal (ok_unit (k := 0) F0 T (PySem.W.mg_of X G M1) (PySem.W.mg_of X G M2) (pairK M3 M4 M5 M6 M7) (pairK M8 M9 M10 M11 M12)) g0 F0.kp b0
      lunit := cal (ok_law_unit (k := 0) F10 T) g10 F10.kp b10
      grid := cal (ok_grid F11 T cL') g11 F11.kp b11
      pull := cP
      pick := cal (ok_of F4 cP T.len) g4 F4.kp b4
      bag := cal (ok_bag (k := 0) F2 T.lst) g2 F2.kp b2
      same3 := cal (ok_same F5 g5 b5 T 3) g5 F5.kp b5 }
    exact ok_law lL cL GC T R (PySem.W.mg_of X G M0) F6 g6 (hTB (c, Pt) (List.mem_singleton.mpr rfl))
end
end Nv

open PySem PySem.W PyProof.Rows
set_option maxRecDepth 100000 in
set_option maxHeartbeats 0 in
theorem PySem.Challenge.cw_nevernought_k03_tables_and_what_is_none_holds : PySem.Challenge.rw_nevernought_k03_tables_and_what_is_none.Holds := by
  w_on; o_law; k_head; (case hw => w_witness2)
  k_fill
  refine LamX.walk_ofTs (l := PySem.Challenge.rw_nevernought_k03_tables_and_what_is_none) (n := 63) (k := 9) (x := "_law_script") (CX := fun _ => L2.CX0) rfl (by decide) rfl ⟨rfl, by decide, by decide⟩ (fun w h Y => PySem.W.km_in_of Y) ?F (fun _ _ _ _ _ z => z)
  case F =>
    intro w mg fa h Y KX G hmg
    refine' Nv.all_mk KX G hmg ?D0 ?D1 ?D2 ?D3 ?D4 ?D5 ?D6 ?D7 ?D8 ?D9 ?D10 ?D11 ?aL ?lL ?cL ?lC ?tL ?hC ?nL ?R3 ?R4 ?R30 ?R31 ?R5 ?R9 ?lN ?cN ?tN ?dN ?vN1 ?vN2 ?lI ?cI ?kI ?R0 ?R1 ?R2 ?R20 ?R21 ?R6 ?R7 ?R8 ?R10 ?S1 ?S2 ?S3 ?S4 ?S5 ?S6 ?S7 ?S8 ?S9 ?S10 ?S11 ?S12 ?R12 ?R14 ?R15 ?M0 ?M1 ?M2 ?M3 ?M4 ?M5 ?M6 ?M7 ?M8 ?M9 ?M10 ?M11 ?M12 ?B0 ?B1 ?B2 ?B3 ?B4 ?B5 ?B6 ?B7 ?B8 ?B9
    (case D0 => exact ⟨by k_is, ⟨_, _, _, _, _, _, _, _, _, by k_is, by k_is⟩, by k_is⟩)
    (case D1 => exact ⟨by k_is, ⟨_, _, _, _, _, _, _, _, _, by k_is, by k_is⟩, by k_is⟩)
    (case D2 => exact ⟨by k_is, ⟨_, _, _, _, _, _, _, _, _, by k_is, by k_is⟩, by k_is⟩)
    (case D3 => exact ⟨by k_is, ⟨_, _, _, _, _, _, _, _, _, by k_is, by k_is⟩, by k_is⟩)
    (case D4 => exact ⟨by k_is, ⟨_, _, _, _, _, _, _, _, _, by k_is, by k_is⟩, by k_is⟩)
    (case D5 => exact ⟨by k_is, ⟨_, _, _, _, _, _, _, _, _, by k_is, by k_is⟩, by k_is⟩)
    (case D6 => exact ⟨by k_is, ⟨_, _, _, _, _, _, _, _, _, by k_is, by k_is⟩, by k_is⟩)
    (case D7 => exact ⟨by k_is, ⟨_, _, _, _, _, _, _, _, _, by k_is, by k_is⟩, by k_is⟩)
    (case D8 => exact ⟨by k_is, ⟨_, _, _, _, _, _, _, _, _, by k_is, by k_is⟩, by k_is⟩)
    (case D9 => exact ⟨by k_is, ⟨_, _, _, _, _, _, _, _, _, by k_is, by k_is⟩, by k_is⟩)
    (case D10 => exact ⟨by k_is, ⟨_, _, _, _, _, _, _, _, _, by k_is, by k_is⟩, by k_is⟩)
    (case D11 => exact ⟨by k_is, ⟨_, _, _, _, _, _, _, _, _, by k_is, by k_is⟩, by k_is⟩)
    (case aL => k_is)
    (case lL => k_is)
    (case cL => k_is)
    (case lC => k_is)
    (case tL => exact PySem.W.km_tabs_of Y _ (List.mem_singleton.mpr rfl))
    (case hC => rfl)
    (case nL => kernel_rfl)
    (case R3 => k_is)
    (case R4 => k_is)
    (case R30 => k_is)
    (case R31 => k_is)
    (case R5 => k_is)
    (case R9 => k_is)
    (case lN => k_is)
    (case cN => k_is)
    (case tN => k_is)
    (case dN => rfl)
    (case vN1 => exact ⟨_, rfl⟩)
    (case vN2 => exact ⟨_, rfl⟩)
    (case lI => k_is)
    (case cI => k_is)
    (case kI => k_is)
    (case R0 => exact ⟨⟨_, _, _, _, _, _, _, _, _, _, _, _, _, _, _, by k_is, by decide +kernel⟩, by k_is, by k_is, by k_is, by k_is⟩)
    (case R1 => exact ⟨by k_is, by k_is, by k_is, by k_is⟩)
    (case R2 => k_is)
    (case R20 => k_is)
    (case R21 => k_is)
    (case R6 => k_is)
    (case R7 => k_is)
    (case R8 => k_is)
    (case R10 => k_is)
    (case S1 => k_is)
    (case S2 => k_is)
    (case S3 => k_is)
    (case S4 => k_is)
    (case S5 => k_is)
    (case S6 => k_is)
    (case S7 => k_is)
    (case S8 => k_is)
    (case S9 => k_is)
    (case S10 => k_is)
    (case S11 => k_is)
    (case S12 => k_is)
    (case R12 => k_is)
    (case R14 => k_is)
    (case R15 => k_is)
    (case M0 => k_is)
    (case M1 => k_is)
    (case M2 => k_is)
    (case M3 => k_is)
    (case M4 => rfl)
    (case M5 => rfl)
    (case M6 => exact ⟨_, rfl⟩)
    (case M7 => exact ⟨_, rfl⟩)
    (case M8 => k_is)
    (case M9 => rfl)
    (case M10 => rfl)
    (case M11 => exact ⟨_, rfl⟩)
    (case M12 => exact ⟨_, rfl⟩)
    (case B0 => k_is)
    (case B1 => k_is)
    (case B2 => k_is)
    (case B3 => k_is)
    (case B4 => k_is)
    (case B5 => k_is)
    (case B6 => k_is)
    (case B7 => k_is)
    (case B8 => k_is)
    (case B9 => k_is)

