import PyProof.Rows.All
import Wide.All
import OpenK.AllK
import Wide.FinOn
import PySem.Challenge.RW_rootbags_k70_residues_that_are_refused
import HandS.ExcInit
import HandS.ExcOwn
import HandS.HotCalls
import HandS.Lambda
import HandS.ClsMeth
import HandS.Defaults
import HandS.Words
import HandS.ExcField
import HandS.Iter
import HandS.Zip
import HandS.IsInst
import HandS.Wide
import HandS.WordsExc
import HandS.EndTab
import HandS.More
import HandS.Codes
import HandS.StrMore
import HandS.WideBits
import HandS.Style
import KE.GoesRaise
import HandS.Conv
import HandS.Rev
import HandS.OwnEq
import HandS.SlotsOwn
import HandS.Property
import HandS.Star
import PyProof.InstNe
import KE.KStateDown
import HandS.Base
import HandS.Call
import HandS.Ends
import HandS.Head0
import HandS.Head1
import HandS.Head2
import HandS.HeadEnd
import HandS.HeadHook1
import HandS.HeadHook2
import HandS.HeadHook3
import HandS.HeadHook4
import HandS.HeadWalk
import HandS.Walk
import HandS.CallLocal
import HandS.NoneIn
set_option Elab.async false
set_option linter.all false
set_option maxRecDepth 100000
set_option maxHeartbeats 2000000
namespace RB
open PySem PySem.Spec PyProof.Rows L2

/-! ## errors of the program: made without arguments -/
section
variable {X : Cx}
/-- the class at C is called: its instance is made, its own __init__ runs -/
theorem exc_call {CX : CXT} {C fI : Addr} {k : Nat} {fd : FuncData} {ps : List Str} {sp : Sp} {pins : List (Addr × Obj)} {σ : L2.St} {H : Hp} {s : Shared} {Q : XK} (T : OexC X.K C)
    (iC : PySem.W.findIn X.K (.ref C) "__init__" = some (some (.ref fI))) (tI : PySem.W.typeIn X.K (.ref fI) = some (.type "function"))
    (F1 : FnOk X.prog X.w X.K X.mg X.base CX k fI fd ps sp) (hr : Room (k + 1) X.A) (hb : L2.Binds X.K fd ps []) (hx : Passes CX X (fun _ _ _ => False)) (I : Inv X pins σ H s)
    (h : ∀ a, H a = none → sp [.ref a] (upd H a (exo a C none)) (fun v H2 => v = .non ∧ ∃ (d : Addr) (fs : List (Str × V)), H2 a = some (exo a C (some d)) ∧ H2 d = some (exd d fs) ∧ H d = none ∧ Q (.ref C) (some d) (upd (del H2 a) d (.xd fs))) (fun _ _ _ => False)) :
    wpAny (model X.prog X.w) X.A (call (.ref C) []) (MkP X pins σ Q) X.xe s := by
  obtain ⟨nm, q, N, bs, bm, sn, sub, ab, col, dd, k0, k1, k2, k3, k5, hC, hbm⟩ := T.cls
  obtain ⟨hp, g, dr, tk, os⟩ := s
  let e : Addr := hp.objs.size + 1
  have he : hp.objs.size ≤ e := Nat.le_succ _
  have hp2 := h e (I.hok.fresh he)
  let h2 : Heap := (hp.push (PySem.W.kdv_tup [])).push (PySem.HandSPX.excO C hp.objs.size)
  have kk : ∀ b o, hp.get? b = some o → h2.get? b = some o := fun b o z => Heap.get?_push_of_some _ (Heap.get?_push_of_some _ z)
  have hget : h2.get? e = some (PySem.HandSPX.excO C hp.objs.size) := by
    show ((hp.push (PySem.W.kdv_tup [])).push (PySem.HandSPX.excO C hp.objs.size)).get? (hp.objs.size + 1) = _
    heap_get
  have J : Inv X pins σ (upd H e (exo e C none)) ⟨h2, g, dr, tk, os⟩ := I.laid (t' := tk) (a := e) (o := exo e C none) (h' := h2) kk he (exo_ok hget)
  have rv : Vals [V.ref e] [Value.ref e] := .cons rfl .nil
  have hl : ([Value.ref e] ++ []).length = ps.length := F1.len _ _ _ _ hp2
  refine wpAny_call (PySem.HandSPX.call_own F.excBase_ValueError (fun Y => PySem.HandSPX.refsVE_contains Y bm hbm) (I.kIn _ _ hC) (PySem.W.looks_findIn I.kIn iC) (fun self => PySem.W.bind_fn I.kIn self tI) (Nat.zero_le _) ?_)
  have b0 := hb ⟨h2, g, dr, tk, os⟩ [Value.ref e] J.kIn hl
  rw [List.append_nil] at b0
  refine codeAny_mono (F1.run _ X.stack _ _ ⟨[Value.ref e], []⟩ [Value.ref e] _ _ (fun _ _ _ => False) (hr.make C [] []) (J.env0.make C [] []) b0 rv hp2) fun r s' hq => ?_
  cases r with
  | error er => exact hx pins σ _ _ er s' J hq
  | ok fl =>
    cases fl with
    | ret u =>
      obtain ⟨v, H2, os2, bare2, un2, hok2, rv2, ev, d, fs, ea, ed, hd1, q2⟩ := hq
      subst ev
      obtain ⟨hh, g2, d2, t2, os'⟩ := s'
      exact ⟨rv2, mk_end (raises_own T.exC T.tyC) I he kk un2 hok2 os2 bare2 ea ed hd1 q2⟩
    | next => exact hq.elim
    | brk => exact hq.elim
    | cont => exact hq.elim
/-- an error of the program that takes no argument: what its class and its __init__ must have -/
structure Err0 (P : Program) (w : World) (K : PySem.W.Frag) (mg : Str → Option Value) (base : Heap) (k : Nat) (x code : Str) (C : Addr) : Prop where
  oex : OexC K C
  gC : mg x = some (.ref C)
  ini : ∃ (fI : Addr) (fd : FuncData) (ps : List Str), PySem.W.findIn K (.ref C) "__init__" = some (some (.ref fI)) ∧ PySem.W.typeIn K (.ref fI) = some (.type "function") ∧ L2.Binds K fd ps [] ∧
    FnOk P w K mg base CX0 k fI fd ps (fun vs H Q _ => ∃ a, vs = [.ref a] ∧ H a = some (exo a C none) ∧ ∀ dx, H dx = none → dx ≠ a → Q .non (upd (upd H dx (exd dx [("code", .str code)])) a (exo a C (some dx))))
/-- its reading: the error's own dict is new -/
def tErr0 (C : Addr) (code : Str) : L2.St → Hp → XK → Prop := fun _ H Q => ∀ d, H d = none → Q (.ref C) (some d) (upd H d (.xd [("code", .str code)]))
theorem pmk0 {k : Nat} {x code : Str} {C : Addr} {p pos : Pos} (T : Err0 X.prog X.w X.K X.mg X.base k x code C) (hr : Room (k + 1) X.A) (hg : Gl X x) (hdb : (x == ("__debug__" : Str)) = false := by decide) :
    PMk X (.Call (.Name x p) [] [] pos) (tErr0 C code) := by
  intro pins s σ H Q I h
  obtain ⟨fI, fd, ps, iC, tI, hb, F1⟩ := T.ini
  refine wpAny_Call_Name_kw (ld_glob I hg T.gC ?_ hdb)
  refine PySem.W.callWith_K0 I.kIn T.oex.kC (exc_call T.oex iC tI F1 hr hb pass0 I fun a na => ?_)
  refine ⟨a, rfl, upd_same, fun dx ndx dne => ⟨rfl, dx, [("code", .str code)], upd_same, ?_, ?_, ?_⟩⟩
  · rw [upd_ne dne, upd_same]
  · rw [upd_ne dne] at ndx
    exact ndx
  · have hd : H dx = none := by
      rw [upd_ne dne] at ndx
      exact ndx
    have e : upd (del (upd (upd (upd H a (exo a C none)) dx (exd dx [("code", .str code)])) a (exo a C (some dx))) a) dx (.xd [("code", .str code)]) = upd H dx (.xd [("code", .str code)]) := by
      funext b
      by_cases hb1 : b = dx
      · rw [hb1, upd_same, upd_same]
      · rw [upd_ne hb1, upd_ne hb1]
        by_cases hb2 : b = a
        · rw [hb2, del_same, na]
        · rw [del_ne hb2, upd_ne hb2, upd_ne hb1, upd_ne hb2]
    rw [e]
    exact h dx hd
end

/-! ## Base.__init__(self, ..) -/
section
variable {X : Cx}
theorem pe_bcall {CX : CXT} {k : Nat} {f B : Addr} {fd : FuncData} {ps : List Str} {sp : Sp} {E : XK} {x m : Str} {q apos pos : Pos} {e : Expr} {es : List Expr} {t : TA} {mc : Value} {pl : Sem Bool}
    (hg : Gl X x) (hm : X.mg x = some (.ref B)) (r : ClX.CRead X.K B mc) (at_ : PySem.W.findCls X.K (.ref B) mc m = some (.val (.ref f))) (kp : PySem.W.keepIn X.K (.ref f) = true)
    (F : FnOk X.prog X.w X.K X.mg X.base CX k f fd ps sp) (hr : Room k X.A) (hb : L2.Binds X.K fd ps []) (hx : Passes CX X E) (ha : PA X (e :: es) t) (hdb : (x == ("__debug__" : Str)) = false := by decide)
    (hst : starEach (e :: es) X.env = (false, eval e X.env) :: starEach es X.env := by rfl) (hpl : (backTo pos (starEach es X.env)).any (·.1) = false := by rfl)
    (ht : eval (.Call (.Attribute (.Name x q) m apos) (e :: es) [] pos) X.env = (do
      let ov ← eval (.Name x q) X.env
      standAt apos.atName
      let (f, first) ← holding [ov] (getMethod ov m pl)
      callWith pos f first (backTo pos (starEach (e :: es) X.env)) (backToKw pos (keywordEach [] X.env))) := by rfl) :
    PE X (.Call (.Attribute (.Name x q) m apos) (e :: es) [] pos) (tCall sp [] E t) := by
  refine ⟨fun pins s σ H Q I h => ?_⟩
  refine PySem.W.methodCall_KW (pl := pl) (ld_glob I hg hm ?_ hdb) ht
  refine PySem.W.method_cls I.kIn r.ga (PySem.W.cls_value I.kIn r.rd at_ rfl ?_)
  refine PySem.W.callWith_K (first := []) (h₀ := X.base) I.ok.mod.kin kp (thn (ha.run pos pins _ σ H _ (I.tok _) h) fun us s2 ⟨vs, H2, I2, r2, q2⟩ => ⟨I2.kIn, ?_⟩) hst hpl
  exact run_fn F hr hb .nil hx I2 r2 q2
end

/-! ## a def that is called while an error is handled: p is the error's object, kept where it stands -/
structure FnP (P : Program) (w : World) (K : PySem.W.Frag) (mg : Str → Option Value) (base : Heap) (k : Nat) (f : Addr) (fd : FuncData) (ps : List Str) (sp : Addr × Obj → Sp) : Prop where
  len : ∀ p vs H Q E, sp p vs H Q E → vs.length = ps.length
  run : ∀ (A : Around) (outer : List Env) (s : Shared) (H : Hp) (us : List Value) (vs : List V) (Q : VK) (p : Addr × Obj), L2H.RoomH k A → L2H.PinOk outer H s p → Env0 P w K mg base A outer s H → BindsTo s fd ⟨us, []⟩ (ps.zip us) → Vals vs us → sp p vs H Q E0 →
    codeAny (model P w) A (.call (.ref f) ⟨us, []⟩) (CR CX0 outer P w H s Q E0) s
theorem fnP_of {P : Program} {w : World} {K : PySem.W.Frag} {mg : Str → Option Value} {base : Heap} {k : Nat} {x : Str} {st : Stmt} {f : Addr} {fd : FuncData} {N ps : List Str} {sp : Addr × Obj → Sp} (F : L2.Fun K x x st f fd) (S : FnScope N ps (defScope st))
    (len : ∀ p vs H Q E, sp p vs H Q E → vs.length = ps.length)
    (hbody : ∀ (cdv : Value) (A : Around) (outer : List Env) (s : Shared) (H : Hp) (vs : List V) (Q : VK) (p : Addr × Obj), sp p vs H Q E0 →
      ∃ t, PSs (L2H.cxH CX0 P w K mg base N x (defScope st) f cdv A outer s H E0 p) (defBody st) t ∧ t { nx := fun _ H' => Q .non H', rt := Q } (L2.start N vs) H) :
    FnP P w K mg base (k + 1) f fd ps sp := by
  obtain ⟨oc, od, kV, doc, pm, an, cdv, ct, osl, rfl, lk, hcd⟩ := F.ex
  refine ⟨len, fun A outer s H us vs Q p hr hpin e0 hb r hsp => ?_⟩
  have hl := len _ _ _ _ _ hsp
  have KX : K.In s.heap := e0.mod.kin.keeps fun b o e => (e0.bs b o e).1
  have lim : s.heap.NoLimit := e0.mod.nolimit.keeps fun b o e => (e0.bs b o e).1
  refine codeAny_call_function hr.depth (KX _ _ lk) rfl S.co S.gen rfl (PySem.W.codeRec_of KX hcd) (hb _ _ _ _ ?_)
  have hkind : ∀ y ∈ ps.zip us, (defScope st).names.lookup y.1 = some .local ∨ ((defScope st).names.lookup y.1 = some .cell ∧ ((cellsFrom (s.heap.objs.size + 1) (defScope st).names []).lookup y.1).isSome = true) := by
    intro y hy
    have hm := (List.of_mem_zip (show (y.1, y.2) ∈ ps.zip us from hy)).1
    exact (S.par y.1 hm).imp (fun q => q) fun q => ⟨q, PySem.W.cellsFrom_some _ _ _ (.inl q)⟩
  refine wpAny_newFunctionEnv_cells S.kind hkind fun env he s1 ic => ?_
  subst he
  refine ⟨lim.keeps ic.toInCall.keep, codeAny_func ?_⟩
  obtain ⟨t, ht, hq⟩ := hbody cdv A outer s H vs Q p hsp
  have J := L2H.inv_startH (CX := CX0) (E := E0) S hpin e0 hl r ic
  refine wpAny_mono (ht.run [] s1 (L2.start N vs) H _ J hq) (fun fl s' hs => ?_) fun e s' hs => hs
  cases fl with
  | ret u => exact let ⟨v, _, H', J', rv, q⟩ := hs; ⟨v, H', J'.os, J'.bare, J'.base, J'.hok, rv, q⟩
  | next => exact let ⟨_, H', J', q⟩ := hs; ⟨V.non, H', J'.os, J'.bare, J'.base, J'.hok, rfl, q⟩
  | brk => exact let ⟨_, _, _, q⟩ := hs; q.elim
  | cont => exact let ⟨_, _, _, q⟩ := hs; q.elim
section
variable {X : Cx}
def tCallP (sp : Addr × Obj → Sp) (p : Addr × Obj) (t : TA) : TE := fun σ H Q => t σ H fun vs H1 => sp p vs H1 Q E0
theorem pe_callP {k : Nat} {f : Addr} {fd : FuncData} {ps : List Str} {sp : Addr × Obj → Sp} {p : Addr × Obj} {x : Str} {q pos : Pos} {e : Expr} {es : List Expr} {t : TA} (F : FnP X.prog X.w X.K X.mg X.base k f fd ps sp) (hr : L2H.RoomH k X.A) (hp : p ∈ X.pn)
    (hg : Gl X x) (hm : X.mg x = some (.ref f)) (hk : PySem.W.keepIn X.K (.ref f) = true) (hb : L2.Binds X.K fd ps []) (ha : PA X (e :: es) t) (hdb : (x == ("__debug__" : Str)) = false := by decide)
    (he : starEach (e :: es) X.env = (false, eval e X.env) :: starEach es X.env := by rfl) (hpl : (backTo pos (starEach es X.env)).any (·.1) = false := by rfl) :
    PE X (.Call (.Name x q) (e :: es) [] pos) (tCallP sp p t) := by
  refine ⟨fun pins s σ H Q I h => ?_⟩
  refine wpAny_Call_Name_kw (ld_glob I hg hm ?_ hdb)
  refine PySem.W.callWith_K (h₀ := X.base) I.ok.mod.kin hk (thn (ha.run pos pins s σ H _ I h) fun us s1 ⟨vs, H1, I1, r, q⟩ => ⟨I1.kIn, ?_⟩) he hpl
  have hl : (us ++ []).length = ps.length := by
    rw [List.append_nil, ← r.length]
    exact F.len _ _ _ _ _ q
  have b := hb s1 us I1.kIn hl
  rw [List.append_nil] at b
  obtain ⟨p1, p2, p3, p4, p5⟩ := I1.pin p (List.mem_append_left _ hp)
  have pin : L2H.PinOk X.stack H1 s1 p := ⟨p1, p2, fun z => (List.mem_cons.mp (I1.stkSub p.1 z)).elim p3 p4, p5⟩
  refine wpAny_call (codeAny_mono (F.run X.A X.stack s1 H1 us vs Q p hr pin I1.env0 b r q) fun r s' hq => ?_)
  cases r with
  | error e => exact (show False from hq).elim
  | ok fl =>
    cases fl with
    | ret u => exact I1.after hq
    | next => exact False.elim hq
    | brk => exact False.elim hq
    | cont => exact False.elim hq
/-- err.n, err the handled error p -/
def tXP (p : Addr × Obj) (n : Str) (te : TE) : TE := fun σ H Q => te σ H fun x H1 => x = .ref p.1 ∧ ∃ (dd : Addr) (fs : List (Str × V)) (v : V), p.2.dict = some dd ∧ H1 dd = some (.xd fs) ∧ fs.lookup n = some v ∧ Q v H1
theorem pe_xp {p : Addr × Obj} {C : Addr} {n : Str} {e : Expr} {te : TE} {pos : Pos} (T : XfC X.K C) (hno : PySem.W.findIn X.K (.ref C) n = some none) (hp : p ∈ X.pn) (hc : p.2.cls = .ref C) (hf : ∃ vs, p.2.data = .fields vs) (he : PE X e te)
    (hb : attributeBase e n X.env (eval e X.env) = eval e X.env := by rfl) : PE X (.Attribute e n pos) (tXP p n te) := by
  refine ⟨fun pins s σ H Q I h => ?_⟩
  refine attr_of hb (thn (he.run pins s σ H _ I h) fun u s1 ⟨x, H1, I1, rx, ex, dd, fs, v, ed, hx, l, q⟩ => ?_)
  subst ex
  cases (show u = Value.ref p.1 from rx)
  obtain ⟨mA, hns, rel⟩ := (show ObjOk X.prog X.w H1 s1.heap dd (.xd fs) from I1.hok dd _ hx)
  obtain ⟨od, ho, hl⟩ := lookIn_ns hns
  have rv := rel n
  rw [l] at rv
  obtain ⟨u, hu, ru⟩ := RelO.some_of rv
  obtain ⟨vs, hd⟩ := hf
  have at_ : PySem.W.InstAt s1.heap p.1 p.2 C (some od) := ⟨(I1.pin p (List.mem_append_left _ hp)).1, hc, by unfold PySem.W.notCls; rw [hd] <;> rfl, by rw [ed]; exact ho⟩
  exact HandSPX.exc_get I1.kIn at_ T.ga T.gg T.exC (PySem.W.findObj_own T.hdC hno rfl (by rw [hl, hu])) (handed_of ru) ⟨v, H1, I1.tok _, ru, q⟩
end

/-! ## try .. with several clauses that name the error, all by one name -/
abbrev Suites := List (Value × (Addr → Value → Option Addr → TS))
/-- what is wanted behind a suite, once the name is gone again -/
def gone (i : Nat) (D : Ends) : Ends := { nx := fun σ H => D.nx (σ.set i none) H, rt := D.rt, bk := fun σ H => D.bk (σ.set i none) H, ct := fun σ H => D.ct (σ.set i none) H }
def wNamed (K : PySem.W.Frag) (m i : Nat) (D : Ends) : Suites → WX
  | [] => fun _ _ _ _ => False
  | (c, ts) :: r => fun cls d σ H => ∃ b, PySem.W.exmOne K cls c = some b ∧ (b = true → ∀ a, H a = none → σ.length = m → ts a cls d (gone i D) (σ.set i (some (.ref a))) H) ∧ (b = false → wNamed K m i D r cls d σ H)
inductive Named (X : Cx) (n : Str) : List ExceptHandler → Suites → Prop
  | nil : Named X n [] []
  | cons {x : Str} {c : Value} {ts : Addr → Value → Option Addr → TS} {b₀ : Stmt} {su : List Stmt} {np pos' : Pos} {hds : List ExceptHandler} {l : Suites} (hc : Names X x c)
      (hsu : ∀ (a : Addr) (oe : Obj) (cls : Value) (d : Option Addr) (pn : List (Addr × Obj)), Zc cls d oe → (∃ vs, oe.data = .fields vs) → PSs (X.suite a ((a, oe) :: pn)) (b₀ :: su) (ts a cls d)) (r : Named X n hds l) :
      Named X n (.ExceptHandler (some (.Name x np)) (some n) (b₀ :: su) pos' :: hds) ((c, ts) :: l)
section
variable {X : Cx} {n : Str} {i : Nat} {pins : List (Addr × Obj)} {D : Ends}
/-- a suite has run: the name is gone, the error is let go -/
theorem suite_end {a : Addr} {q : Addr × Obj} {pos' : Pos} {f : Flow} {s6 : Shared} (ok : X.Ok) (hN : X.N.Nodup) (hi : X.N[i]? = some n) (hln : X.env.kindOf n = some .local) (h : SP (X.suite a (q :: (X.pn ++ pins))) [] (gone i D) f s6) :
    wpAny (model X.prog X.w) X.A (do bindName X.env n .none; unbindBehindTheSuite X.env n pos') (fun _ s7 => SP X pins D f s7) X.xe s6 := by
  cases f with
  | next => exact let ⟨σ6, H6, S6, q6⟩ := h; gone_ok (S6.unsuite ok) hN hi hln fun s7 J7 => ⟨_, _, J7, q6⟩
  | brk => exact let ⟨σ6, H6, S6, q6⟩ := h; gone_ok (S6.unsuite ok) hN hi hln fun s7 J7 => ⟨_, _, J7, q6⟩
  | cont => exact let ⟨σ6, H6, S6, q6⟩ := h; gone_ok (S6.unsuite ok) hN hi hln fun s7 J7 => ⟨_, _, J7, q6⟩
  | ret u => exact let ⟨v6, σ6, H6, S6, r6, q6⟩ := h; gone_ok (S6.unsuite ok) hN hi hln fun s7 J7 => ⟨_, _, _, J7, r6, q6⟩
/-- the clauses are asked, one after another; the error at a stands on the ground -/
theorem clauses {B : Heap} {a : Addr} {cls : Value} {d : Option Addr} {σ : L2.St} {H : Hp} {sI s' : Shared} (ok : X.Ok) (hs : X.stack = X.env :: X.outer) (hf : X.env.frame = some X.env.locals) (hN : X.N.Nodup) (hi : X.N[i]? = some n) (hln : X.env.kindOf n = some .local)
    (J : Inv X pins σ H sI) (nb : ∀ b o, sI.heap.get? b = some o → b ∉ frs X.stack → B.get? b = some o) (up : sI.heap.UpToSlots s'.heap) (os : s'.os = sI.os) (ag : AllBare s'.gens) (na : H a = none) (fl : HandSPX.FlyingZ B (X.env :: X.outer) a (Zc cls d) s'.heap) :
    ∀ {hds : List ExceptHandler} {l : Suites}, Named X n hds l → wNamed X.K X.N.length i D l cls d σ H → wpAny (model X.prog X.w) X.A (handleBy (.ref a) X.env hds) (SP X pins D) X.xe s' := by
  have ground : ∀ h, HandSPX.FlyingZ B (X.env :: X.outer) a (Zc cls d) h → s'.heap.UpToSlots h → ∃ oe : Obj, Inv (X.suite a ((a, oe) :: (X.pn ++ pins))) [] σ H { s' with heap := h } ∧ Inv X pins σ H { s' with heap := h } ∧ h.get? a = some oe ∧ Zc cls d oe ∧ ∃ vs, oe.data = .fields vs := by
    intro h fl1 up1
    have J1 : Inv X pins σ H { s' with heap := h } := J.landed nb fl1.1 (up.trans up1) os ag
    obtain ⟨oe, vs, he, hz, hd⟩ := fl1.there
    have nfr : a ∉ frs (X.env :: X.outer) := fun hm => by
      obtain ⟨_, o', e', hnf⟩ := fl1.2.2.1.mem hm
      rw [he] at e'
      cases e'
      exact hnf _ hd
    have nL : a ≠ X.env.locals := fun z => nfr (List.mem_filterMap.mpr ⟨X.env, List.mem_cons_self, by rw [hf, z]⟩)
    have nF : a ∉ X.fs := fun hm => by
      obtain ⟨e, he, q⟩ := List.mem_filterMap.mp hm
      exact nfr (List.mem_filterMap.mpr ⟨e, List.mem_cons_of_mem _ he, q⟩)
    exact ⟨oe, J1.suite he hd na nL nF, J1, he, hz, vs, hd⟩
  intro hds l hk
  induction hk with
  | nil => exact fun z => z.elim
  | @cons x c ts b₀ su np pos' hds2 l2 hc hsu r ih =>
    intro w
    obtain ⟨b, hb1, hyes, hno⟩ := w
    obtain ⟨oe3, S3, J3, he3, hz3, _⟩ := ground s'.heap fl (Heap.UpToSlots.refl _)
    refine wpAny_handleBy_cons (codeAny_handlers_test ?_) (by intro q; cases q)
    have LT : PySem.W.Looks (model X.prog X.w) s'.heap (typeOf (.ref a)) cls := fun A Q E s k q => wpAny_typeOf_ref (k _ _ he3) (by rw [hz3.1]; exact q)
    have LM := PySem.W.exm_one (M := model X.prog X.w) J3.kIn LT hb1
    have test : ∀ {Q : Value → Shared → Prop} {E : Value → Shared → Prop}, Q c s' → wpAny (model X.prog X.w) (X.A.mark (some (.ref a))) (eval (.Name x np) X.env) Q E s' := fun {Q E} q => by
      obtain ⟨hg, hdbg, hm | ⟨hm, hv, hnn⟩⟩ := hc
      · exact ld_glob (X := X.suite a ((a, oe3) :: (X.pn ++ pins))) S3 hg hm q hdbg
      · exact ld_blt (X := X.suite a ((a, oe3) :: (X.pn ++ pins))) S3 hg hm hv q hnn hdbg
    refine test (LM.here ?_)
    cases b with
    | true =>
      refine codeAny_handlers_suite_as ?_
      refine HandSPX.lands_againZ fl fun h4 fl4 up4 => ?_
      obtain ⟨oe4, S4, _, _, hz4, hd4⟩ := ground h4 fl4 up4
      refine store_ok (X := X.suite a ((a, oe4) :: (X.pn ++ pins))) (v := .ref a) S4 hN hi (.inl hln) rfl (fun s5 S5 => ?_) (.inr hln)
      exact wpAny_mono ((hsu a oe4 cls d (X.pn ++ pins) hz4 hd4).run [] s5 _ H _ S5 (hyes rfl a na J.len)) (fun f s6 hsp => suite_end ok hN hi hln hsp) (fun _ _ z => z.elim)
    | false => exact ih (hno rfl)
theorem ps_named {body : List Stmt} {h₀ : ExceptHandler} {hds : List ExceptHandler} {l : Suites} {pos : Pos} {tb : WX → TS} (hs : X.stack = X.env :: X.outer) (hf : X.env.frame = some X.env.locals) (hN : X.N.Nodup) (hi : X.N[i]? = some n) (hln : X.env.kindOf n = some .local)
    (hb : ∀ (W : WX) (pn : List (Addr × Obj)) (xe : Value → Shared → Prop), Takes (X.tr pn xe) W → PSs (X.tr pn xe) body (tb W)) (hh : Named X n (h₀ :: hds) l) :
    PS X (.Try body (h₀ :: hds) [] [] pos) (fun D σ H => tb (wNamed X.K X.N.length i D l) D σ H) := by
  refine ⟨fun pins s σ H D I h => ?_⟩
  have ok := I.ok
  refine wpAny_Try_except ?_
  refine wpAny_mono ((hb (wNamed X.K X.N.length i D l) (X.pn ++ pins) _ (fun u s' xx => ?_)).run [] s σ H D (I.toTry _) h) (fun f s1 hsp => ?_) (fun e s1 he => he)
  · obtain ⟨a, B, sI, pins', σ', H', cls, d, rfl, J', nb, up, sky, na, os, ag, w⟩ := xx
    have sky' : Sky B (X.env :: X.outer) a (Zc cls d) X.env.locals s'.heap := hs ▸ sky
    have hfr : X.A.frames = some (X.env :: X.outer) := ok.frames.trans (congrArg some hs)
    refine Sky.land Zc.steady hfr hf sky' fun h3 fl3 up3 => ?_
    exact clauses (s' := { s' with heap := h3 }) ok hs hf hN hi hln (J'.ofTry ok) nb (up.trans up3) os ag na fl3 hh w
  · cases f with
    | next => exact let ⟨σ', H', J', q⟩ := hsp; wpAny_execs_nil ⟨σ', H', J'.ofTry ok, q⟩
    | brk => exact let ⟨σ', H', J', q⟩ := hsp; ⟨σ', H', J'.ofTry ok, q⟩
    | cont => exact let ⟨σ', H', J', q⟩ := hsp; ⟨σ', H', J'.ofTry ok, q⟩
    | ret u => exact let ⟨v, σ', H', J', r, q⟩ := hsp; ⟨v, σ', H', J'.ofTry ok, r, q⟩
end

/-! ## numbers -/
/-- the greatest common divisor stays over a step of Euclid, whatever the rest is -/
theorem gcd_step (a b q : Int) : Int.gcd b (a - b * q) = Int.gcd a b := by
  rw [Int.gcd_comm a b]
  exact Int.gcd_sub_mul_left_right ..
theorem fmod_sub (a b : Int) : a.fmod b = a - b * a.fdiv b := by
  have h := Int.mul_fdiv_add_fmod a b
  omega
theorem gcd_fmod (a b : Int) : Int.gcd b (a.fmod b) = Int.gcd a b := by
  rw [fmod_sub]
  exact gcd_step a b _
theorem natAbs_fmod_lt (a b : Int) (h : b ≠ 0) : (a.fmod b).natAbs < b.natAbs := by
  by_cases hb : 0 < b
  · have h1 := Int.fmod_nonneg_of_pos a hb
    have h2 := Int.fmod_lt_of_pos a hb
    omega
  · have hn : 0 < -b := by omega
    have e : a.fmod b = -((-a).fmod (-b)) := by
      have := Int.neg_fmod_neg a b
      omega
    have h1 := Int.fmod_nonneg_of_pos (-a) hn
    have h2 := Int.fmod_lt_of_pos (-a) hn
    omega
theorem log2_mono {a b : Nat} (h : a ≤ b) : a.log2 ≤ b.log2 := by
  by_cases ha : a = 0
  · subst ha
    simp [Nat.log2_zero]
  · exact (Nat.le_log2 (by omega)).mpr (Nat.le_trans (Nat.log2_self_le ha) h)
theorem log2_lt {n k : Nat} (h : n < 2 ^ k) (hk : 0 < k) : n.log2 < k := PySem.Flt.log2_lt_of hk h
section
variable {X : Cx}
/-- // by a divisor of any sign, below 2 ^ 9000 -/
def CDivX (_ j : Int) : Prop := j ≠ 0 ∧ j.natAbs.log2 < 9000
theorem op_fdivX : OpR X (binaryOp .FloorDiv) (rI CDivX fun i j => .int (i.fdiv j)) := opI fun _ _ _ _ _ _ _ hc q => floordiv_int hc.1 q (.inl (PyProof.noPylong_of_log2 hc.2))
end

theorem lineN {n : Nat} (h : n ≤ 1000) : n ≤ sizeLine := Nat.le_of_lt (small1000 h)
/-! ## heaps -/
/-- all but r is as it was -/
def Fst (r : Addr) (H H' : Hp) : Prop := ∀ c rest, H r = some (.lst (c :: rest)) → ∃ rest', H' r = some (.lst (c :: rest'))
structure But (r : Addr) (H H' : Hp) : Prop where
  fn : ∀ b, b ≠ r → H' b = H b
  fst : Fst r H H'
instance {r : Addr} {H H' : Hp} : CoeFun (But r H H') fun _ => ∀ b, b ≠ r → H' b = H b := ⟨But.fn⟩
theorem Fst.trans {r : Addr} {H H1 H2 : Hp} (a : Fst r H H1) (b : Fst r H1 H2) : Fst r H H2 := fun c rest e => by
  obtain ⟨r1, e1⟩ := a c rest e
  exact b c r1 e1
theorem But.refl (r : Addr) (H : Hp) : But r H H := ⟨fun _ _ => rfl, fun c rest e => ⟨rest, e⟩⟩
theorem But.trans {r : Addr} {H H1 H2 : Hp} (a : But r H H1) (b : But r H1 H2) : But r H H2 := ⟨fun c hc => (b.fn c hc).trans (a.fn c hc), a.fst.trans b.fst⟩
theorem But.upd {r : Addr} {H : Hp} {c : V} {l l' : List V} (h : H r = some (.lst (c :: l))) : But r H (upd H r (.lst (c :: l'))) := ⟨fun _ hb => upd_ne hb, fun c2 rest e => by
  rw [h] at e
  cases e
  exact ⟨l', upd_same⟩⟩
theorem upd_new {H : Hp} {p : Addr} {o : HO} (h : H p = none) : Same H (upd H p o) := fun b x e => by
  rw [upd_ne (ne_of_none e h)]
  exact e
theorem SqL.cutInts (ns : List Int) (lo hi : Option Int) : ∃ ms : List Int, cutV (ns.map V.int) lo hi = ms.map V.int ∧ ms.length ≤ ns.length := by
  refine ⟨(ns.drop (HT.sIx (ns.map V.int).length 0 lo)).take (HT.sIx (ns.map V.int).length (ns.map V.int).length hi - HT.sIx (ns.map V.int).length 0 lo), ?_, ?_⟩
  · unfold cutV
    rw [← List.map_drop, ← List.map_take]
  · rw [List.length_take, List.length_drop]
    omega

/-! ## the law's draws: a list of four, the script's numbers, a place, what is left of a great number, a seed -/
def RngAt (H : Hp) (r c : Addr) (i b s : Int) : Prop := H r = some (.lst [.ref c, .int i, .int b, .int s]) ∧ (∃ cells : List Int, H c = some (.lst (cells.map V.int)) ∧ cells.length ≤ sizeLine) ∧ 0 ≤ i ∧ 0 ≤ b ∧ 0 ≤ s ∧ s < 2147483647
def RngOk (H : Hp) (r : Addr) : Prop := ∃ c i b s, RngAt H r c i b s
theorem RngAt.ne {H : Hp} {r c : Addr} {i b s : Int} (h : RngAt H r c i b s) : c ≠ r := by
  obtain ⟨h1, ⟨cells, h2, _⟩, _⟩ := h
  refine ne_of h2 h1 fun z => ?_
  have z2 : cells.map V.int = [.ref c, .int i, .int b, .int s] := HO.lst.inj z
  cases cells with
  | nil => cases z2
  | cons y l =>
    have z3 := (List.cons.inj z2).1
    cases z3
theorem RngAt.put {H : Hp} {r c : Addr} {i b s : Int} (h : RngAt H r c i b s) {i' b' s' : Int} (h1 : 0 ≤ i') (h2 : 0 ≤ b') (h3 : 0 ≤ s') (h4 : s' < 2147483647) : RngAt (upd H r (.lst [.ref c, .int i', .int b', .int s'])) r c i' b' s' := by
  obtain ⟨cells, e, l⟩ := h.2.1
  refine ⟨upd_same, ⟨cells, ?_, l⟩, h1, h2, h3, h4⟩
  rw [upd_ne h.ne]
  exact e
theorem RngOk.keep {H H' : Hp} {r : Addr} (h : RngOk H r) (k : ∀ b o, H b = some o → (∀ ps, o ≠ .tbl ps) → H' b = some o) : RngOk H' r := by
  obtain ⟨c, i, b, s, h1, ⟨cells, h2, l⟩, hh⟩ := h
  exact ⟨c, i, b, s, k _ _ h1 (fun _ z => nomatch z), ⟨cells, k _ _ h2 (fun _ z => nomatch z), l⟩, hh⟩
theorem RngOk.same {H H' : Hp} {r : Addr} (h : RngOk H r) (k : Same H H') : RngOk H' r := h.keep fun b o e _ => k b o e
section
variable {P : Program} {w : World} {K : PySem.W.Frag} {mg : Str → Option Value} {base : Heap}
/-! ### shared_factor, and the law's own -/
def spGcd : Sp := fun vs H Q _ => ∃ a b : Int, vs = [.int a, .int b] ∧ Q (.int (Int.gcd a b)) H
def spDraws (K : PySem.W.Frag) : Sp := fun vs H Q _ => ∃ (a : Addr) (ns : List Int), vs = [.ref a] ∧ SqL K H a (ns.map V.int) ∧ ns.length ≤ 1000 ∧ ∀ H' r, Same H H' → H r = none → RngOk H' r → Q (.ref r) H'
def spDraw : Sp := fun vs H Q _ => ∃ (r : Addr) (n : Int), vs = [.ref r, .int n] ∧ RngOk H r ∧ 0 < n ∧ n.natAbs.log2 < 9000 ∧ ∀ v H', 0 ≤ v → v < n → RngOk H' r → But r H H' → Q (.int v) H'
def spPick (K : PySem.W.Frag) : Sp := fun vs H Q _ => ∃ (r t : Addr) (xs : List V), vs = [.ref r, .ref t] ∧ RngOk H r ∧ SqL K H t xs ∧ t ≠ r ∧ 0 < xs.length ∧ xs.length ≤ 1000 ∧ ∀ (v : V) (i : Nat) (H' : Hp), xs[i]? = some v → RngOk H' r → But r H H' → Q v H'
end
/-! ## _law_same: data of the same kinds and values -/
/-- data as the law compares it -/
inductive Dat where
  | non | bl (b : Bool) | int (i : Int) | str (x : Str) | lst (ds : List Dat) | tup (ds : List Dat)
/-- how deep it is -/
def Dat.deep : Dat → Nat
  | .lst ds => 1 + deeps ds
  | .tup ds => 1 + deeps ds
  | _ => 0
where deeps : List Dat → Nat
  | [] => 0
  | d :: r => max d.deep (deeps r)
mutual
/-- at v stands the datum d -/
inductive At (K : PySem.W.Frag) (H : Hp) : V → Dat → Prop
  | non : At K H .non .non
  | bl (b : Bool) : At K H (.bl b) (.bl b)
  | int (i : Int) : At K H (.int i) (.int i)
  | str (x : Str) : At K H (.str x) (.str x)
  | lst {a : Addr} {xs : List V} {ds : List Dat} : H a = some (.lst xs) → xs.length ≤ 100000 → AtAll K H xs ds → At K H (.ref a) (.lst ds)
  | tup {a : Addr} {xs : List V} {ds : List Dat} : H a = some (.tup xs) → xs.length ≤ 100000 → AtAll K H xs ds → At K H (.ref a) (.tup ds)
inductive AtAll (K : PySem.W.Frag) (H : Hp) : List V → List Dat → Prop
  | nil : AtAll K H [] []
  | cons {v : V} {vs : List V} {d : Dat} {ds : List Dat} : At K H v d → AtAll K H vs ds → AtAll K H (v :: vs) (d :: ds)
end
theorem AtAll.length {K : PySem.W.Frag} {H : Hp} : ∀ {xs : List V} {ds : List Dat}, AtAll K H xs ds → xs.length = ds.length
  | _, _, .nil => rfl
  | _, _, .cons _ t => congrArg Nat.succ (AtAll.length t)
theorem AtAll.get {K : PySem.W.Frag} {H : Hp} : ∀ {xs : List V} {ds : List Dat} {i : Nat} {x : V} {d : Dat}, AtAll K H xs ds → xs[i]? = some x → ds[i]? = some d → At K H x d
  | _, _, _, _, _, .nil, e, _ => by simp at e
  | _, _, 0, _, _, .cons a _, e, e2 => by
    simp at e e2
    subst e
    subst e2
    exact a
  | _, _, i + 1, _, _, .cons _ t, e, e2 => AtAll.get (i := i) t (by simpa using e) (by simpa using e2)
mutual
theorem At.same {K : PySem.W.Frag} {H H' : Hp} (s : Same H H') : ∀ {v : V} {d : Dat}, At K H v d → At K H' v d
  | _, _, .non => .non
  | _, _, .bl b => .bl b
  | _, _, .int i => .int i
  | _, _, .str x => .str x
  | _, _, .lst e l a => .lst (s _ _ e) l (AtAll.same s a)
  | _, _, .tup e l a => .tup (s _ _ e) l (AtAll.same s a)
theorem AtAll.same {K : PySem.W.Frag} {H H' : Hp} (s : Same H H') : ∀ {xs : List V} {ds : List Dat}, AtAll K H xs ds → AtAll K H' xs ds
  | _, _, .nil => .nil
  | _, _, .cons a t => .cons (At.same s a) (AtAll.same s t)
end
theorem deeps_mem {ds : List Dat} {d : Dat} (h : d ∈ ds) : d.deep ≤ Dat.deep.deeps ds := by
  induction ds with
  | nil => cases h
  | cons x r ih =>
    show d.deep ≤ max x.deep (Dat.deep.deeps r)
    rcases List.mem_cons.mp h with e | e
    · subst e
      exact Nat.le_max_left _ _
    · exact Nat.le_trans (ih e) (Nat.le_max_right _ _)

/-- the built-in class of a datum -/
def Dat.ty : Dat → String
  | .non => "NoneType" | .bl _ => "bool" | .int _ => "int" | .str _ => "str" | .lst _ => "list" | .tup _ => "tuple"
theorem At.ty {K : PySem.W.Frag} {H : Hp} {v : V} {d : Dat} (h : At K H v d) : TyX K H v (.type d.ty) := by
  cases h with
  | non => exact .base .non
  | bl b => exact .base (.bl b)
  | int i => exact .base (.int i)
  | str x => exact .base (.str x)
  | lst e _ _ => exact .base (.lst e)
  | tup e _ _ => exact .base (.tup e)
def Dat.isL : Dat → Bool
  | .lst _ => true
  | _ => false
theorem kit_list {K : PySem.W.Frag} (d : Dat) : PySem.W.kitOne K (.type d.ty) (.type "list") = some d.isL := by
  cases d with
  | non => exact kit_ty (a := "NoneType") (b := "list") (r := false) (by decide +kernel)
  | bl b => exact kit_ty (a := "bool") (b := "list") (r := false) (by decide +kernel)
  | int i => exact kit_ty (a := "int") (b := "list") (r := false) (by decide +kernel)
  | str x => exact kit_ty (a := "str") (b := "list") (r := false) (by decide +kernel)
  | lst ds => exact kit_ty (a := "list") (b := "list") (r := true) (by decide +kernel)
  | tup ds => exact kit_ty (a := "tuple") (b := "list") (r := false) (by decide +kernel)
def Dat.isT : Dat → Bool
  | .tup _ => true
  | _ => false
theorem kit_tuple {K : PySem.W.Frag} (d : Dat) : PySem.W.kitOne K (.type d.ty) (.type "tuple") = some d.isT := by
  cases d with
  | non => exact kit_ty (a := "NoneType") (b := "tuple") (r := false) (by decide +kernel)
  | bl b => exact kit_ty (a := "bool") (b := "tuple") (r := false) (by decide +kernel)
  | int i => exact kit_ty (a := "int") (b := "tuple") (r := false) (by decide +kernel)
  | str x => exact kit_ty (a := "str") (b := "tuple") (r := false) (by decide +kernel)
  | lst ds => exact kit_ty (a := "list") (b := "tuple") (r := false) (by decide +kernel)
  | tup ds => exact kit_ty (a := "tuple") (b := "tuple") (r := true) (by decide +kernel)
def Dat.isB : Dat → Bool
  | .bl _ => true
  | _ => false
theorem kit_bool {K : PySem.W.Frag} (d : Dat) : PySem.W.kitOne K (.type d.ty) (.type "bool") = some d.isB := by
  cases d with
  | non => exact kit_ty (a := "NoneType") (b := "bool") (r := false) (by decide +kernel)
  | bl b => exact kit_ty (a := "bool") (b := "bool") (r := true) (by decide +kernel)
  | int i => exact kit_ty (a := "int") (b := "bool") (r := false) (by decide +kernel)
  | str x => exact kit_ty (a := "str") (b := "bool") (r := false) (by decide +kernel)
  | lst ds => exact kit_ty (a := "list") (b := "bool") (r := false) (by decide +kernel)
  | tup ds => exact kit_ty (a := "tuple") (b := "bool") (r := false) (by decide +kernel)
def Dat.isI : Dat → Bool
  | .bl _ => true
  | .int _ => true
  | _ => false
theorem kit_int {K : PySem.W.Frag} (d : Dat) : PySem.W.kitOne K (.type d.ty) (.type "int") = some d.isI := by
  cases d with
  | non => exact kit_ty (a := "NoneType") (b := "int") (r := false) (by decide +kernel)
  | bl b => exact kit_ty (a := "bool") (b := "int") (r := true) (by decide +kernel)
  | int i => exact kit_ty (a := "int") (b := "int") (r := true) (by decide +kernel)
  | str x => exact kit_ty (a := "str") (b := "int") (r := false) (by decide +kernel)
  | lst ds => exact kit_ty (a := "list") (b := "int") (r := false) (by decide +kernel)
  | tup ds => exact kit_ty (a := "tuple") (b := "int") (r := false) (by decide +kernel)
def Dat.isS : Dat → Bool
  | .str _ => true
  | _ => false
theorem kit_str {K : PySem.W.Frag} (d : Dat) : PySem.W.kitOne K (.type d.ty) (.type "str") = some d.isS := by
  cases d with
  | non => exact kit_ty (a := "NoneType") (b := "str") (r := false) (by decide +kernel)
  | bl b => exact kit_ty (a := "bool") (b := "str") (r := false) (by decide +kernel)
  | int i => exact kit_ty (a := "int") (b := "str") (r := false) (by decide +kernel)
  | str x => exact kit_ty (a := "str") (b := "str") (r := true) (by decide +kernel)
  | lst ds => exact kit_ty (a := "list") (b := "str") (r := false) (by decide +kernel)
  | tup ds => exact kit_ty (a := "tuple") (b := "str") (r := false) (by decide +kernel)
theorem yesI {σ : L2.St} {H : Hp} {A B : Hp → Prop} (h : A H) : tYes σ H (fun b H3 => if b = true then A H3 else B H3) := by
  show (if true = true then A H else B H)
  exact iteT h
/-- two walks side by side, in a comprehension -/
theorem lc_pairs {J : It} {xs ys : List V} {g : TG} {tt : L2.TT} {te : TE} {vs : List Nat} {σ : L2.St} {H1 : Hp} {D : Addr} {Qd : Hp → Prop} (hl : xs.length = ys.length) (Pv : Nat → Hp → Prop) (h0 : Pv 0 (upd H1 D (.lst [])))
    (hgo : ∀ i H, Pv i H → i < xs.length → J.go i H) (hst : ∀ H, Pv xs.length H → J.stop xs.length H)
    (hy : ∀ i H v H', Pv i H → i < xs.length → J.yld i H v H' → ∃ T x y, v = .ref T ∧ H T = none ∧ H' = upd H T (.tup [x, y]) ∧ xs[i]? = some x ∧ ys[i]? = some y)
    (hs : ∀ (i : Nat) (x y : V) (T : Addr) (H : Hp), xs[i]? = some x → ys[i]? = some y → Pv i H → H T = none → g (.ref T) (wipe σ vs) (upd H T (.tup [x, y])) fun σ2 H2 => wipe σ2 vs = wipe σ vs ∧ tt σ2 H2 fun b H3 =>
      if b = true then te σ2 H3 fun z H4 => ∃ acc, H4 D = some (.lst acc) ∧ acc.length < sizeLine ∧ Pv (i + 1) (upd H4 D (.lst (acc ++ [z]))) else Pv (i + 1) H3) (hd : ∀ H, Pv xs.length H → Qd H) :
    ∃ W : Nat → Nat → Hp → Prop, (∃ m, W 0 m (upd H1 D (.lst []))) ∧ ∀ i m H, W i m H →
      (J.stop i H ∧ Qd H) ∨ (J.go i H ∧ ∃ Nx : Hp → Prop, (∀ H', Nx H' → ∃ m', m' < m ∧ W (i + 1) m' H') ∧ ∀ x H', J.yld i H x H' → g x (wipe σ vs) H' fun σ2 H2 => wipe σ2 vs = wipe σ vs ∧ tt σ2 H2 fun b H3 =>
        if b = true then te σ2 H3 fun y H4 => ∃ acc, H4 D = some (.lst acc) ∧ acc.length < sizeLine ∧ Nx (upd H4 D (.lst (acc ++ [y]))) else Nx H3) := by
  refine ⟨fun i m H => m = xs.length - i ∧ i ≤ xs.length ∧ Pv i H, ⟨_, rfl, Nat.zero_le _, h0⟩, fun i m H hW => ?_⟩
  obtain ⟨em, hi, p⟩ := hW
  rcases Nat.lt_or_ge i xs.length with hlt | hge
  · refine .inr ⟨hgo i H p hlt, Pv (i + 1), fun H' p' => ⟨xs.length - (i + 1), by omega, rfl, hlt, p'⟩, fun v H' yl => ?_⟩
    obtain ⟨T, x, y, rfl, hT, rfl, hx, hy'⟩ := hy i H v H' p hlt yl
    exact hs i x y T H hx hy' p hT
  · have e : i = xs.length := by omega
    rw [e] at p ⊢
    exact .inl ⟨hst H p, hd H p⟩
def spSame (K : PySem.W.Frag) (n : Nat) : Sp := fun vs H Q _ => ∃ (v u : V) (d e : Dat), vs = [v, u] ∧ At K H v d ∧ At K H u e ∧ e.deep < n ∧ ∀ (b : Bool) (H' : Hp), (b = true ↔ d = e) → Same H H' → Q (.bl b) H'
theorem all_iff {ds es : List Dat} {bs : List Bool} (h1 : bs.length = ds.length) (h2 : ds.length = es.length) (h : ∀ (j : Nat) (b : Bool), bs[j]? = some b → (b = true ↔ ds[j]? = es[j]?)) : bs.all id = true ↔ ds = es := by
  constructor
  · intro ha
    refine List.ext_getElem? fun j => ?_
    cases e : bs[j]? with
    | none =>
      have := List.getElem?_eq_none_iff.mp e
      rw [List.getElem?_eq_none (by omega), List.getElem?_eq_none (by omega)]
    | some b =>
      refine (h j b e).mp ?_
      have hm : b ∈ bs := List.mem_of_getElem? e
      exact List.all_eq_true.mp ha b hm
  · intro e
    refine List.all_eq_true.mpr fun b hb => ?_
    obtain ⟨j, hj⟩ := List.getElem?_of_mem hb
    exact (h j b hj).mpr (by rw [e])
/-- what a comprehension of such comparisons leaves behind i turns -/
def SameInv (H : Hp) (D : Addr) (ds es : List Dat) (i : Nat) (H' : Hp) : Prop := Same H H' ∧ ∃ bs : List Bool, H' D = some (.lst (bs.map V.bl)) ∧ bs.length = i ∧ ∀ (j : Nat) (b : Bool), bs[j]? = some b → (b = true ↔ ds[j]? = es[j]?)
theorem SameInv.start {H : Hp} {D : Addr} {ds es : List Dat} (h : H D = none) : SameInv H D ds es 0 (upd H D (.lst [])) := ⟨upd_new h, [], upd_same, rfl, fun j b e => by simp at e⟩
theorem SameInv.step {H H1 H2 : Hp} {D T : Addr} {ds es : List Dat} {i : Nat} {x y : V} {b : Bool} (p : SameInv H D ds es i H1) (nD : H D = none) (nT : H1 T = none) (s : Same (upd H1 T (.tup [x, y])) H2) (hb : b = true ↔ ds[i]? = es[i]?) (hi : i < 1000000) :
    ∃ acc, H2 D = some (.lst acc) ∧ acc.length < sizeLine ∧ SameInv H D ds es (i + 1) (upd H2 D (.lst (acc ++ [.bl b]))) := by
  obtain ⟨s0, bs, hD, hl, hbs⟩ := p
  have s1 := (upd_new (o := .tup [x, y]) nT).trans s
  refine ⟨bs.map V.bl, s1 _ _ hD, ?_, fun c o e => ?_, bs ++ [b], ?_, ?_, fun j b' e => ?_⟩
  · rw [List.length_map, hl, sizeLine_eq]
    omega
  · rw [upd_ne (ne_of_none e nD)]
    exact s1 _ _ (s0 _ _ e)
  · rw [upd_same, List.map_append]
    rfl
  · rw [List.length_append, hl]
    rfl
  · rcases Nat.lt_or_ge j bs.length with h | h
    · rw [List.getElem?_append_left h] at e
      exact hbs j b' e
    · rw [List.getElem?_append_right h] at e
      have hj : j - bs.length = 0 := by
        rcases Nat.eq_zero_or_pos (j - bs.length) with z | z
        · exact z
        · rw [List.getElem?_eq_none (by simp; omega)] at e
          cases e
      rw [hj] at e
      have ej : j = i := by omega
      have eb : b = b' := Option.some.inj e
      rw [ej, ← eb]
      exact hb
structure TSame (mg : Str → Option Value) : Prop where
  isi : mg "isinstance" = none
  list : mg "list" = none
  tuple : mg "tuple" = none
  bool : mg "bool" = none
  int : mg "int" = none
  str : mg "str" = none
  len : mg "len" = none
  all : mg "all" = none
  zip : mg "zip" = none
theorem pe_isi {X : Cx} {i : Nat} {x y : Str} {T : String} {p1 p2 p3 p4 : Pos} (hN : X.N[i]? = some x) (hv : Vis X.env.scope x) (g1 : Gl X "isinstance") (m1 : X.mg "isinstance" = none) (g2 : Gl X y) (m2 : X.mg y = none) (hb : bootBuiltins y = some (.type T))
    (hn : y ≠ "__name__" := by decide) (hd : (y == ("__debug__" : Str)) = false := by decide) (hd1 : (x == ("__debug__" : Str)) = false := by decide) (hcd : (x == ("__classdict__" : Str)) = false := by decide)
    (h1 : starEach [.Name x p2, .Name y p3] X.env = (false, eval (.Name x p2) X.env) :: starEach [.Name y p3] X.env := by rfl) (h2 : starEach [.Name y p3] X.env = (false, eval (.Name y p3) X.env) :: starEach [] X.env := by rfl) (h3 : (backTo p4 (starEach [.Name y p3] X.env)).any (·.1) = false := by rfl) :
    PE X (.Call (.Name "isinstance" p1) [.Name x p2, .Name y p3] [] p4) (fun σ H Q => ∃ v d b, σ[i]? = some (some v) ∧ At X.K H v d ∧ PySem.W.kitOne X.K (.type d.ty) (.type T) = some b ∧ Q (.bl b) H) := by
  have hp := pe_callB (pos := p4) (p := p1) call_isi g1 m1 PyProof.Rows.boot_isinstance (pa_cons (pe_var (pos := p2) hN hv hd1 hcd) (pa_cons (pe_bltn (pos := p3) (v := .ty T) g2 m2 hb rfl hn hd) pa_nil h2) h1) (by decide) (by decide) h1 h3
  refine ⟨fun pins s σ H Q I h => ?_⟩
  obtain ⟨v, d, b, hs, a, k, q⟩ := h
  exact hp.run pins s σ H Q I ⟨v, hs, v, .ty T, .type d.ty, .type T, b, rfl, .ty T, a.ty, k, q⟩
/-- an error of the class at C, asked against the class at B -/
theorem exm_by {K : PySem.W.Frag} {C B : Addr} {b : Bool} (h1 : PySem.W.subIn K (.ref B) (.type "BaseException") = some true) (h2 : PySem.W.isClsIn K B = true) (h3 : PySem.W.typeIn K (.ref B) = some (.type "type")) (h4 : PySem.W.subIn K (.ref C) (.ref B) = some b) : PySem.W.exmOne K (.ref C) (.ref B) = some b := by
  have e1 : (PySem.W.subIn K (.ref B) (.type "BaseException") == some true) = true := by rw [h1] <;> rfl
  have e2 : ((PySem.W.clsIn K B).isSome && PySem.W.typeIn K (.ref B) == some (.type "type")) = true := by
    rw [show (PySem.W.clsIn K B).isSome = true from h2, h3] <;> rfl
  show (if _ then (if _ then PySem.W.subIn K (.ref C) (.ref B) else none) else none) = some b
  rw [if_pos e1, if_pos e2]
  exact h4
def spBag (K : PySem.W.Frag) : Sp := fun vs H Q _ => ∃ (a C : Addr) (c : Str), vs = [.ref a, .str c] ∧ OexC K C ∧ PySem.W.findIn K (.ref C) "code" = some none ∧ H a = some (exo a C none) ∧ ∀ dx, H dx = none → dx ≠ a → Q .non (upd (upd H dx (exd dx [("code", .str c)])) a (exo a C (some dx)))
/-- the pair in lowest terms -/
def lowS (n d : Int) : Int := if d < 0 then -(Int.gcd n d : Int) else Int.gcd n d
def spLowest (C : Addr) : Sp := fun vs H Q E => ∃ n d : Int, vs = [.int n, .int d] ∧ d.natAbs.log2 < 9000 ∧ (d = 0 → ∀ x, H x = none → E (.ref C) (some x) (upd H x (.xd [("code", .str "InvalidNumber")]))) ∧
  (d ≠ 0 → ∀ p, H p = none → Q (.ref p) (upd H p (.tup [.int (n.fdiv (lowS n d)), .int (d.fdiv (lowS n d))])))
theorem lowS_ok {n d : Int} (h : d ≠ 0) (hd : d.natAbs.log2 < 9000) : CDivX n (lowS n d) ∧ (lowS n d).natAbs ≤ d.natAbs := by
  have g0 : 0 < Int.gcd n d := Int.gcd_pos_of_ne_zero_right _ h
  have gl : Int.gcd n d ≤ d.natAbs := Nat.le_of_dvd (by omega) (Int.gcd_dvd_natAbs_right n d)
  have e : (lowS n d).natAbs = Int.gcd n d := by
    unfold lowS
    split <;> simp
  refine ⟨⟨?_, ?_⟩, ?_⟩
  · intro z
    rw [z] at e
    simp at e
    omega
  · rw [e]
    exact Nat.lt_of_le_of_lt (log2_mono gl) hd
  · omega
def spLow : Sp := fun vs H Q _ => ∃ n d : Int, vs = [.int n, .int d] ∧ d.natAbs.log2 < 9000 ∧ d ≠ 0 ∧ ∀ p, H p = none → Q (.ref p) (upd H p (.tup [.int (n.fdiv (lowS n d)), .int (d.fdiv (lowS n d))]))
/-! ## what the law reads off an error -/
def errNames : List Str := ["code", "limit", "name", "position", "modulus", "many", "exponent", "road", "order", "place", "line"]
structure XErr (K : PySem.W.Frag) (C : Addr) : Prop where
  xf : XfC K C
  no : ∀ n ∈ errNames, PySem.W.findIn K (.ref C) n = some none
def xerrB (K : PySem.W.Frag) (C : Addr) : Bool := xfB K C && errNames.all fun n => decide (PySem.W.findIn K (.ref C) n = some none)
theorem xerr_by {K : PySem.W.Frag} {C : Addr} (h : xerrB K C = true) : XErr K C := by
  obtain ⟨h1, h2⟩ := Bool.and_eq_true_iff.mp h
  exact ⟨xfB_ok h1, fun n hn => of_decide_eq_true (List.all_eq_true.mp h2 n hn)⟩
def cLimit : List V := [.str "SizeExceeded", .str "DigitsExceeded", .str "NestingTooDeep", .str "TermTooLarge", .str "LimitReached", .str "InvalidLimit"]
def cName : List V := [.str "InvalidName", .str "DuplicateName", .str "NameInUse", .str "CircularName", .str "UnknownName"]
def cPos : List V := [.str "InvalidText", .str "InvalidCommand"]
def cMod : List V := [.str "InvalidModulus", .str "SharedDivisor"]
def cMany : List V := [.str "InvalidChoice", .str "InvalidCount"]
/-- the attribute that goes with a code -/
def fieldOf (c : Str) : Option Str :=
  if inV (.str c) cLimit = true then some "limit" else if inV (.str c) cName = true then some "name" else if inV (.str c) cPos = true then some "position" else if inV (.str c) cMod = true then some "modulus" else if inV (.str c) cMany = true then some "many"
  else if decide (V.str c = V.str "InvalidExponent") = true then some "exponent" else if decide (V.str c = V.str "InvalidRoad") = true then some "road" else if decide (V.str c = V.str "InvalidOrder") = true then some "order" else if decide (V.str c = V.str "InvalidPlace") = true then some "place"
  else if decide (V.str c = V.str "InvalidSnapshot") = true then some "line" else none
def fieldVal (c : Str) (fs : List (Str × V)) : Option V := match fieldOf c with | some f => fs.lookup f | none => some .non
/-- the error p as the law sees it: its class, its attributes fs, its code c, the value v that goes with it -/
structure ErrAt (K : PySem.W.Frag) (H : Hp) (p : Addr × Obj) (C : Addr) (fs : List (Str × V)) (c : Str) (v : V) : Prop where
  x : XErr K C
  cls : p.2.cls = .ref C
  flds : ∃ us, p.2.data = .fields us
  at_ : ∃ dd, p.2.dict = some dd ∧ H dd = some (.xd fs)
  code : fs.lookup ("code" : Str) = some (V.str c)
  val : fieldVal c fs = some v
def spField (K : PySem.W.Frag) : Addr × Obj → Sp := fun p vs H Q _ => ∃ (C : Addr) (fs : List (Str × V)) (c : Str) (v : V), vs = [.ref p.1] ∧ ErrAt K H p C fs c v ∧ ∀ H', Same H H' → Q v H'
/-- an error of the class at C is caught by the law's two clauses -/
def Caught (K : PySem.W.Frag) (B M C : Addr) : Prop := ∃ b, PySem.W.exmOne K (.ref C) (.ref B) = some b ∧ (b = false → PySem.W.exmOne K (.ref C) (.ref M) = some true)
/-- what the law makes of an error of the class cls with the dict d -/
def ErrTo (K : PySem.W.Frag) (B M : Addr) (Q : VK) : XK := fun cls d H => ∃ (C dd : Addr) (fs : List (Str × V)) (c : Str) (v : V), cls = .ref C ∧ d = some dd ∧ H dd = some (.xd fs) ∧ XErr K C ∧ Caught K B M C ∧ fs.lookup ("code" : Str) = some (V.str c) ∧ fieldVal c fs = some v ∧
  ∀ H2 p, Same H H2 → H2 p = none → Q (.ref p) (upd H2 p (.tup [.str c, v]))
def TTry (K : PySem.W.Frag) (B M : Addr) : (XK → Hp → VK → Prop) → Hp → VK → Prop := fun tl H Q => tl (ErrTo K B M Q) H fun v H1 => 2 ≤ sizeLine ∧ ∀ p, H1 p = none → Q (.ref p) (upd H1 p (.tup [.str "value", v]))
/-- the suite: return (e.code, field(e)) -/
def tCaught (K : PySem.W.Frag) (a : Addr) (cls : Value) (d : Option Addr) : TS := fun D σ H => σ[1]? = some (some (.ref a)) ∧ ∃ (C dd : Addr) (fs : List (Str × V)) (c : Str) (v : V), cls = .ref C ∧ d = some dd ∧ H dd = some (.xd fs) ∧ XErr K C ∧ fs.lookup ("code" : Str) = some (V.str c) ∧ fieldVal c fs = some v ∧
  ∀ H2 p, Same H H2 → H2 p = none → D.rt (.ref p) (upd H2 p (.tup [.str c, v]))
theorem suite_caught {X : Cx} {f : Addr} {fd : FuncData} {k : Nat} {p1 p2 p3 p4 p5 p7 p8 : Pos} {k1 : Nat} (FF : FnP X.prog X.w X.K X.mg X.base k f fd ["_law_e"] (spField X.K)) (gF : X.mg "_law_field" = some (.ref f)) (kF : PySem.W.keepIn X.K (.ref f) = true) (bF : L2.Binds X.K fd ["_law_e"] []) (hr : L2H.RoomH k X.A)
    (hN : X.N[1]? = some ("_law_e" : Str)) (hV : Vis X.env.scope "_law_e") (hG : Gl X "_law_field") (hb : attributeBase (.Name "_law_e" p1) "code" X.env (eval (.Name "_law_e" p1) X.env) = eval (.Name "_law_e" p1) X.env)
    (h1 : starEach [.Attribute (.Name "_law_e" p1) "code" p2, .Call (.Name "_law_field" p3) [.Name "_law_e" p4] [] p5] X.env = (false, eval (.Attribute (.Name "_law_e" p1) "code" p2) X.env) :: starEach [.Call (.Name "_law_field" p3) [.Name "_law_e" p4] [] p5] X.env)
    (h2 : starEach [.Call (.Name "_law_field" p3) [.Name "_law_e" p4] [] p5] X.env = (false, eval (.Call (.Name "_law_field" p3) [.Name "_law_e" p4] [] p5) X.env) :: starEach [] X.env) (h3 : starEach [.Name "_law_e" p4] X.env = (false, eval (.Name "_law_e" p4) X.env) :: starEach [] X.env)
    (h4 : (backTo p5 (starEach [] X.env)).any (·.1) = false)
    (a : Addr) (oe : Obj) (cls : Value) (d : Option Addr) (pn : List (Addr × Obj)) (hz : Zc cls d oe) (hf : ∃ vs, oe.data = .fields vs) :
    PSs (X.suite a ((a, oe) :: pn)) [.Return (some (.Tuple [.Attribute (.Name "_law_e" p1) "code" p2, .Call (.Name "_law_field" p3) [.Name "_law_e" p4] [] p5] k1 p7)) p8] (tCaught X.K a cls d) := by
  refine ⟨fun pins s σ H D I h => ?_⟩
  obtain ⟨hs, C, dd, fs, c, v, rfl, rfl, hx, T, hc, hv, q⟩ := h
  have E1 : PE (X.suite a ((a, oe) :: pn)) (.Attribute (.Name "_law_e" p1) "code" p2) (tXP (a, oe) "code" (tVar 1)) := pe_xp T.xf (T.no "code" (by decide +kernel)) List.mem_cons_self hz.1 hf (pe_var (i := 1) hN hV) hb
  have E2 : PE (X.suite a ((a, oe) :: pn)) (.Call (.Name "_law_field" p3) [.Name "_law_e" p4] [] p5) (tCallP (spField X.K) (a, oe) (tCons (tVar 1) tNil)) := pe_callP FF ⟨hr.dp, hr.un⟩ List.mem_cons_self hG gF kF bF (pa_cons (pe_var (i := 1) hN hV) pa_nil h3) (by decide) h3 h4
  have hq := pss_one (ps_ret (pos := p8) (pe_tup (x1 := k1) (pos := p7) (pa_cons E1 (pa_cons E2 pa_nil h2) h1)))
  refine hq.run pins s σ H D I ⟨.ref a, hs, rfl, dd, fs, .str c, hz.2, hx, hc, .ref a, hs, C, fs, c, v, rfl, ⟨T, hz.1, hf, ⟨dd, hz.2, hx⟩, hc, hv⟩, fun H' sm => ⟨lineN (by decide : 2 ≤ 1000), fun p np => q H' p sm np⟩⟩
/-! ## lowest terms -/
theorem lowS_abs (n d : Int) : (lowS n d).natAbs = Int.gcd n d := by
  unfold lowS
  split <;> simp
theorem fdiv_is {x y s : Int} (h : s ≠ 0) (e : x = s * y) : x.fdiv s = y := by
  rw [e]
  exact Int.mul_fdiv_cancel_left _ h
theorem low_all {n d : Int} (h : d ≠ 0) : ∃ k m : Int, n = lowS n d * k ∧ d = lowS n d * m ∧ n.fdiv (lowS n d) = k ∧ d.fdiv (lowS n d) = m ∧ 1 ≤ m ∧ Int.gcd k m = 1 ∧ lowS n d ≠ 0 := by
  have g0 : 0 < Int.gcd n d := Int.gcd_pos_of_ne_zero_right _ h
  have ea := lowS_abs n d
  have s0 : lowS n d ≠ 0 := fun z => by
    rw [z] at ea
    simp at ea
    omega
  have d1 : lowS n d ∣ n := by
    refine Int.natAbs_dvd.mp ?_
    rw [ea]
    exact Int.gcd_dvd_left ..
  have d2 : lowS n d ∣ d := by
    refine Int.natAbs_dvd.mp ?_
    rw [ea]
    exact Int.gcd_dvd_right ..
  obtain ⟨k, hk⟩ := d1
  obtain ⟨m, hm⟩ := d2
  refine ⟨k, m, hk, hm, ?_, ?_, ?_, ?_, s0⟩
  · exact fdiv_is s0 hk
  · exact fdiv_is s0 hm
  · by_cases c : d < 0
    · have es : lowS n d = -(Int.gcd n d : Int) := if_pos c
      have : lowS n d < 0 := by omega
      have hm0 : 0 < m := by
        by_cases z : 0 < m
        · exact z
        · have := Int.mul_nonneg_of_nonpos_of_nonpos (Int.le_of_lt this) (Int.not_lt.mp z)
          omega
      omega
    · have es : lowS n d = (Int.gcd n d : Int) := if_neg c
      have : 0 < lowS n d := by omega
      have hm0 : 0 < m := by
        by_cases z : 0 < m
        · exact z
        · have := Int.mul_nonpos_of_nonneg_of_nonpos (Int.le_of_lt this) (Int.not_lt.mp z)
          omega
      omega
  · have e1 : Int.gcd n d = (lowS n d).natAbs * Int.gcd k m := by
      conv => lhs; rw [hk]; arg 2; rw [hm]
      exact Int.gcd_mul_left ..
    rw [ea] at e1
    exact Nat.eq_of_mul_eq_mul_left g0 (by omega)
theorem lowS_neg {n d : Int} (h : d ≠ 0) : lowS n (-d) = -lowS n d := by
  unfold lowS
  rw [Int.gcd_neg]
  split <;> split <;> omega
theorem low_neg {n d : Int} (h : d ≠ 0) : n.fdiv (lowS n (-d)) = -(n.fdiv (lowS n d)) ∧ (-d).fdiv (lowS n (-d)) = d.fdiv (lowS n d) := by
  obtain ⟨k, m, hk, hm, e1, e2, _, _, s0⟩ := low_all (n := n) h
  rw [lowS_neg h, e1, e2]
  have n0 : -lowS n d ≠ 0 := by omega
  refine ⟨?_, ?_⟩
  · have : n = -lowS n d * -k := by
      rw [Int.neg_mul_neg]
      exact hk
    exact fdiv_is n0 this
  · have : -d = -lowS n d * m := by
      rw [Int.neg_mul, ← hm]
    exact fdiv_is n0 this
theorem low_prod {n d : Int} (h : d ≠ 0) : n.fdiv (lowS n d) * d = n * d.fdiv (lowS n d) := by
  obtain ⟨k, m, hk, hm, e1, e2, _⟩ := low_all (n := n) h
  rw [e1, e2]
  conv => lhs; rw [hm]
  conv => rhs; rw [hk]
  rw [Int.mul_left_comm, Int.mul_assoc]
theorem low_le {n d : Int} (h : d ≠ 0) : (n.fdiv (lowS n d)).natAbs ≤ n.natAbs ∧ (d.fdiv (lowS n d)).natAbs ≤ d.natAbs := by
  obtain ⟨k, m, hk, hm, e1, e2, _, _, s0⟩ := low_all (n := n) h
  rw [e1, e2]
  have hs : 1 ≤ (lowS n d).natAbs := by omega
  refine ⟨?_, ?_⟩
  · conv => rhs; rw [hk]
    rw [Int.natAbs_mul]
    exact Nat.le_mul_of_pos_left _ hs
  · conv => rhs; rw [hm]
    rw [Int.natAbs_mul]
    exact Nat.le_mul_of_pos_left _ hs
theorem ten40 : (10 : Int) ^ (40 : Int).toNat = 10000000000000000000000000000000000000000 := by decide +kernel
theorem ten18 : (10 : Int) ^ (18 : Int).toNat = 1000000000000000000 := by decide +kernel
theorem great_of {v : V} {i : Nat} (h : ([.int 1, .int 1, .int 7, .int 60, .int ((10 : Int) ^ (40 : Int).toNat)] : List V)[i]? = some v) : ∃ g : Int, v = .int g ∧ 1 ≤ g ∧ g ≤ 10000000000000000000000000000000000000000 := by
  rw [ten40] at h
  match i, h with
  | 0, h => exact ⟨1, (Option.some.inj h).symm, by decide, by decide⟩
  | 1, h => exact ⟨1, (Option.some.inj h).symm, by decide, by decide⟩
  | 2, h => exact ⟨7, (Option.some.inj h).symm, by decide, by decide⟩
  | 3, h => exact ⟨60, (Option.some.inj h).symm, by decide, by decide⟩
  | 4, h => exact ⟨_, (Option.some.inj h).symm, by decide, by decide⟩
  | n + 5, h => simp at h
/-- a product stays small -/
theorem mul_small {a g : Int} {k : Nat} (ha : a.natAbs ≤ k) (h1 : 1 ≤ g) (h2 : g ≤ 10000000000000000000000000000000000000000) : (a * g).natAbs ≤ k * 10000000000000000000000000000000000000000 := by
  rw [Int.natAbs_mul]
  exact Nat.mul_le_mul ha (by omega)
theorem log_small {a : Nat} (h : a ≤ 100000000000000000000000000000000000000000000) : a.log2 < 200 := log2_lt (Nat.lt_of_le_of_lt h (by decide)) (by decide)
theorem mul_wide {a b : Int} (ha : a.natAbs.log2 < 200) (hb : b.natAbs.log2 < 200) : CMulW a b := by
  unfold CMulW
  omega
/-! ## tables of code objects beside the draws -/
theorem tabs_but {T : List (Addr × Str)} {H H' : Hp} {r : Addr} (t : LamX.Tabs T H) (R : RngOk H r) (b : But r H H') : LamX.Tabs T H' := fun p hp => by
  obtain ⟨ps, h1, h2, h3⟩ := t p hp
  obtain ⟨c, i, bb, s, hr, _⟩ := R
  have ne1 : p.1 ≠ r := ne_of h1 hr fun z => nomatch z
  refine ⟨ps, (b _ ne1).trans h1, h2, fun pos cv hc => ?_⟩
  obtain ⟨c', e1, e2⟩ := h3 pos cv hc
  refine ⟨c', e1, (b _ (ne_of e2 hr fun z => ?_)).trans e2⟩
  unfold LamX.CodeO at z
  cases z
theorem tabs_same {T : List (Addr × Str)} {H H' : Hp} (t : LamX.Tabs T H) (s : Same H H') : LamX.Tabs T H' := t.ext s
theorem rng_ext {H H' : Hp} {r : Addr} (h : RngOk H r) (e : LamX.ExtN H H') : RngOk H' r := h.keep e

end RB

set_option Elab.async false
set_option linter.all false
set_option maxRecDepth 100000
set_option maxHeartbeats 4000000
namespace RB
open PySem PySem.Spec PyProof.Rows L2
/-! ## an error of the program with one field -/
def spErr1 (C : Addr) (code fld : Str) : Sp := fun vs H Q _ => ∃ (a : Addr) (v : V), vs = [.ref a, v] ∧ H a = some (exo a C none) ∧
  ∀ dx, H dx = none → dx ≠ a → Q .non (upd (upd (upd H dx (exd dx [("code", .str code)])) a (exo a C (some dx))) dx (exd dx [(fld, v), ("code", .str code)]))
structure Err1 (P : Program) (w : World) (K : PySem.W.Frag) (mg : Str → Option Value) (base : Heap) (k : Nat) (x code fld : Str) (C : Addr) : Prop where
  oex : OexC K C
  gC : mg x = some (.ref C)
  ini : ∃ (fI : Addr) (fd : FuncData) (ps : List Str), PySem.W.findIn K (.ref C) "__init__" = some (some (.ref fI)) ∧ PySem.W.typeIn K (.ref fI) = some (.type "function") ∧ L2.Binds K fd ps [] ∧
    FnOk P w K mg base CX0 k fI fd ps (spErr1 C code fld)
theorem mk1_of {C : Addr} {code fld : Str} {H1 : Hp} {v : V} {Q : XK} (h : ∀ d, H1 d = none → Q (.ref C) (some d) (upd H1 d (.xd [(fld, v), ("code", .str code)]))) : ∀ a, H1 a = none → spErr1 C code fld (.ref a :: ([v] ++ [])) (upd H1 a (exo a C none))
    (fun z H2 => z = .non ∧ ∃ (d : Addr) (fs : List (Str × V)), H2 a = some (exo a C (some d)) ∧ H2 d = some (exd d fs) ∧ H1 d = none ∧ Q (.ref C) (some d) (upd (del H2 a) d (.xd fs))) (fun _ _ _ => False) := by
  intro a na
  refine ⟨a, v, rfl, upd_same, fun dx ndx dne => ⟨rfl, dx, [(fld, v), ("code", .str code)], ?_, upd_same, ?_, ?_⟩⟩
  · rw [upd_ne dne.symm, upd_same]
  · rw [upd_ne dne] at ndx
    exact ndx
  · have hd : H1 dx = none := by
      rw [upd_ne dne] at ndx
      exact ndx
    have e : upd (del (upd (upd (upd (upd H1 a (exo a C none)) dx (exd dx [("code", .str code)])) a (exo a C (some dx))) dx (exd dx [(fld, v), ("code", .str code)])) a) dx (.xd [(fld, v), ("code", .str code)]) = upd H1 dx (.xd [(fld, v), ("code", .str code)]) := by
      funext b
      by_cases hb1 : b = dx
      · rw [hb1, upd_same, upd_same]
      · rw [upd_ne hb1, upd_ne hb1]
        by_cases hb2 : b = a
        · rw [hb2, del_same, na]
        · rw [del_ne hb2, upd_ne hb1, upd_ne hb2, upd_ne hb1, upd_ne hb2]
    rw [e]
    exact h dx hd
section
variable {X : Cx}
theorem pmk1 {k : Nat} {x code fld : Str} {C : Addr} {p pos : Pos} {e : Expr} {te : TE} (T : Err1 X.prog X.w X.K X.mg X.base k x code fld C) (hr : Room (k + 1) X.A) (hg : Gl X x) (he : PE X e te) (hdb : (x == ("__debug__" : Str)) = false := by decide)
    (hs : starEach [e] X.env = (false, eval e X.env) :: starEach [] X.env := by rfl) (hpl : (backTo pos (starEach [] X.env)).any (·.1) = false := by rfl) :
    PMk X (.Call (.Name x p) [e] [] pos) (tMkO C (spErr1 C code fld) [] (tCons te tNil)) := by
  obtain ⟨fI, fd, ps, iC, tI, hb, F1⟩ := T.ini
  exact pmk_oex (p := p) (pos := pos) T.oex iC tI F1 hr hb .nil pass0 hg T.gC (pa_cons he pa_nil hs) hdb hs hpl
end
end RB

set_option Elab.async false
set_option linter.all false
set_option maxRecDepth 100000
set_option maxHeartbeats 4000000
namespace RB
open PySem PySem.Spec PyProof.Rows L2
section
variable {X : Cx} {CX : CXT} {k : Nat} {f C : Addr} {sp : Sp} {E : XK} {x : Str} {p pos : Pos} {e : Expr} {es : List Expr} {t : TA}
/-- C(..), C's __init__ a def with a star -/
theorem run_makeR {pins : List (Addr × Obj)} {σ : L2.St} {H : Hp} {s : Shared} {Q : VK} {us : List Value} {vs : List V} (M : Mk X.K C f) (F : FnR X.prog X.w X.K X.mg X.base CX k f sp) (hr : Room (k + 1) X.A)
    (hx : Passes CX X E) (I : L2.Inv X pins σ H s) (r : Vals vs us)
    (h : ∀ x dx, H x = none → H dx = none → dx ≠ x → sp (.ref x :: vs) (upd (upd H dx (.own x)) x (.ins C dx [])) (fun v H2 => v = .non ∧ Q (.ref x) H2) E) :
    wpAny (model X.prog X.w) X.A (call (.ref C) us) (EP X pins σ Q) X.xe s := by
  have hq := h (s.heap.objs.size + 1) s.heap.objs.size (I.hok.fresh (Nat.le_succ _)) (I.hok.fresh (Nat.le_refl _)) (Nat.ne_of_lt (Nat.lt_succ_self _))
  have I2 := L2.Inv.made (C := C) I
  have r2 : Vals (V.ref (s.heap.objs.size + 1) :: vs) (Value.ref (s.heap.objs.size + 1) :: us) := .cons rfl r
  refine wpAny_call (make_map (f := f) I.kIn M.makes M.init (beq_iff_eq.mp M.fn) (codeAny_mono (F _ X.stack _ _ (Value.ref (s.heap.objs.size + 1) :: us) _ _ E (hr.make C us []) (I2.env0.make C us []) r2 hq) fun r s' hq' => ?_))
  cases r with
  | error e => exact hx pins σ _ _ e s' I2 hq'
  | ok fl =>
    cases fl with
    | ret u =>
      obtain ⟨v, H', I3, rv, ev, q3⟩ := I2.after hq'
      subst ev
      exact ⟨rv, ⟨V.ref (s.heap.objs.size + 1), H', I3, rfl, q3⟩⟩
    | next => exact False.elim hq'
    | brk => exact False.elim hq'
    | cont => exact False.elim hq'
def tMakeR (C : Addr) (sp : Sp) (E : XK) (t : TA) : TE := fun σ H Q => t σ H fun vs H1 => ∀ x dx, H1 x = none → H1 dx = none → dx ≠ x → sp (.ref x :: vs) (upd (upd H1 dx (.own x)) x (.ins C dx [])) (fun v H2 => v = .non ∧ Q (.ref x) H2) E
theorem pe_makeR (M : Mk X.K C f) (F : FnR X.prog X.w X.K X.mg X.base CX k f sp) (hr : Room (k + 1) X.A) (hg : Gl X x) (hm : X.mg x = some (.ref C)) (hx : Passes CX X E)
    (ha : PA X (e :: es) t) (hdb : (x == ("__debug__" : Str)) = false := by decide) (he : starEach (e :: es) X.env = (false, eval e X.env) :: starEach es X.env := by rfl) (hpl : (backTo pos (starEach es X.env)).any (·.1) = false := by rfl) :
    PE X (.Call (.Name x p) (e :: es) [] pos) (tMakeR C sp E t) := by
  refine ⟨fun pins s σ H Q I h => ?_⟩
  refine wpAny_Call_Name_kw (ld_glob I hg hm ?_ hdb)
  refine PySem.W.callWith_K (h₀ := X.base) I.ok.mod.kin M.kp (thn (ha.run pos pins s σ H _ I h) fun us s1 ⟨vs, H1, I1, r, q⟩ => ⟨I1.kIn, ?_⟩) he hpl
  exact run_makeR M F hr hx I1 r q
end
end RB

set_option Elab.async false
set_option linter.all false
set_option maxRecDepth 100000
set_option maxHeartbeats 2000000
namespace RB
open PySem PySem.Spec PyProof.Rows L2 SX
/-! ## texts of whole numbers -/
/-- the signs of a whole number -/
def numT (i : Int) : List Nat := if i < 0 then 45 :: TL.numL i.natAbs else TL.numL i.natAbs
/-- the signs of a rational -/
def ratT (n d : Int) : List Nat := if d = 1 then numT n else numT n ++ 47 :: numT d
/-- the last k digits of l -/
def dig : Nat → Nat → List Nat
  | 0, _ => []
  | k + 1, l => dig k (l / 10) ++ [48 + l % 10]
theorem dig_len : ∀ k l : Nat, (dig k l).length = k
  | 0, _ => rfl
  | k + 1, l => by
    show (dig k (l / 10) ++ [48 + l % 10]).length = k + 1
    rw [List.length_append, dig_len k]
    rfl
theorem numL_dig : ∀ (k : Nat) (h l : Nat), 1 ≤ h → l < 10 ^ k → TL.numL (h * 10 ^ k + l) = TL.numL h ++ dig k l
  | 0, h, l, _, hl => by
    have : l = 0 := by simpa using hl
    subst this
    show TL.numL (h * 1 + 0) = TL.numL h ++ []
    rw [List.append_nil]
    congr 1
    omega
  | k + 1, h, l, h1, hl => by
    have p : 10 ^ (k + 1) = 10 ^ k * 10 := Nat.pow_succ ..
    have p0 : 1 ≤ 10 ^ k := Nat.one_le_pow _ _ (by decide)
    have hp : h * 10 ^ (k + 1) = h * 10 ^ k * 10 := by rw [p, Nat.mul_assoc]
    have ge : 1 ≤ h * 10 ^ k := Nat.mul_le_mul h1 p0
    rw [TL.numL_step (n := h * 10 ^ (k + 1) + l) (by omega)]
    have e1 : (h * 10 ^ (k + 1) + l) / 10 = h * 10 ^ k + l / 10 := by omega
    have e2 : (h * 10 ^ (k + 1) + l) % 10 = l % 10 := by omega
    rw [e1, e2, numL_dig k h (l / 10) h1 (by omega), List.append_assoc]
    rfl
theorem dig_pad : ∀ (k : Nat) (l : Nat), 0 < k → l < 10 ^ k → dig k l = List.replicate (k - (TL.numL l).length) 48 ++ TL.numL l
  | 0, _, h, _ => absurd h (by decide)
  | 1, l, _, hl => by
    have h10 : l < 10 := by simpa using hl
    rw [TL.numL_lt h10]
    show [] ++ [48 + l % 10] = List.replicate (1 - 1) 48 ++ [48 + l]
    rw [Nat.mod_eq_of_lt h10]
    rfl
  | k + 2, l, _, hl => by
    have p : 10 ^ (k + 2) = 10 ^ (k + 1) * 10 := Nat.pow_succ ..
    have ih := dig_pad (k + 1) (l / 10) (by omega) (by omega)
    show dig (k + 1) (l / 10) ++ [48 + l % 10] = _
    rw [ih]
    by_cases h10 : l < 10
    · have e0 : l / 10 = 0 := by omega
      rw [e0, TL.numL_lt h10, TL.numL_lt (by decide : 0 < 10), Nat.mod_eq_of_lt h10]
      show List.replicate (k + 1 - 1) 48 ++ [48 + 0] ++ [48 + l] = List.replicate (k + 2 - 1) 48 ++ [48 + l]
      rw [show k + 1 - 1 = k by omega, show k + 2 - 1 = k + 1 by omega, List.replicate_succ']
    · rw [TL.numL_step (n := l) (by omega), List.append_assoc, List.length_append]
      congr 2
      show k + 1 - (TL.numL (l / 10)).length = k + 2 - ((TL.numL (l / 10)).length + 1)
      omega
theorem zfill_dig {k l : Nat} (hk : 0 < k) (hl : l < 10 ^ k) (h64 : k ≤ 1000) : Txt.zfill (S (TL.numL l)) (k : Int) = S (dig k l) := by
  have hlen := TL.numL_len hk hl
  rw [dig_pad k l hk hl]
  unfold Txt.zfill
  rw [S_len]
  by_cases c : (k : Int) ≤ ((TL.numL l).length : Int)
  · rw [if_pos c]
    have : k - (TL.numL l).length = 0 := by omega
    rw [this]
    rfl
  · rw [if_neg c]
    have hd : ∀ c0, (S (TL.numL l)).cps[0]? = some c0 → 48 ≤ c0 ∧ c0 ≤ 57 := fun c0 e => by
      have : c0 ∈ TL.numL l := by
        have e' : (TL.numL l)[0]? = some c0 := by simpa [S] using e
        exact List.mem_of_getElem? e'
      exact TL.numL_digits l c0 this
    have pad : zfilled (S (TL.numL l)) ((k : Int).toNat - (TL.numL l).length) = Builtin.Str.padded (S (TL.numL l)) ((k : Int).toNat - (TL.numL l).length) 0 48 := by
      unfold zfilled
      split
      · rename_i e
        have := hd _ e
        omega
      · rename_i e
        have := hd _ e
        omega
      · rfl
    rw [pad]
    refine TL.ext_tl ?_
    show (Array.replicate ((k : Int).toNat - (TL.numL l).length) 48 ++ (S (TL.numL l)).cps ++ Array.replicate 0 48).toList = List.replicate (k - (TL.numL l).length) 48 ++ TL.numL l
    rw [Int.toNat_natCast]
    simp [S]
theorem toString_neg (n : Nat) (h : 0 < n) : Str.ofString (toString (-(n : Int))) = S (45 :: TL.numL n) := by
  refine TL.ext_tl ?_
  show (Str.ofString (toString (-(n : Int)))).cps.toList = 45 :: TL.numL n
  rw [PyProof.Rows.signs_ofString, Int.toString_eq_repr, Int.repr_eq_if, if_neg (by omega), String.toList_append, List.map_append]
  have e : (-(-(n : Int))).toNat = n := by omega
  rw [e, Nat.toList_repr]
  rfl
theorem num_T (i : Int) : Str.ofString (toString i) = S (numT i) := by
  unfold numT
  by_cases h : i < 0
  · rw [if_pos h]
    have e : i = -((i.natAbs : Nat) : Int) := by omega
    conv => lhs; rw [e]
    exact toString_neg _ (by omega)
  · rw [if_neg h]
    have e : i = ((i.natAbs : Nat) : Int) := by omega
    conv => lhs; rw [e]
    exact num_S _
section
variable {X : Cx}
theorem op_mul_str : OpR X (binaryOp .Mult) (fun x y H Q => ∃ (a : Str) (n : Int), x = .str a ∧ y = .int n ∧ MulOk a n ∧ Q (.str (Txt.mul a n)) H) := by
  intro pins s σ H x y v u Q I rx ry h
  obtain ⟨a, n, rfl, rfl, ok, q⟩ := h
  obtain ⟨t, rfl⟩ := rx
  obtain ⟨t', rfl⟩ := ry
  exact SB.mul ok fun t' k => ⟨.str (Txt.mul a n), H, I.tok _, ⟨_, rfl⟩, q⟩
end
/-! ## reading numbers -/
def isDig (c : Nat) : Bool := decide (48 ≤ c) && decide (c ≤ 57)
def numeralB (l : List Nat) : Bool := decide (1 ≤ l.length ∧ l.length ≤ 100) && l.all isDig
theorem numeral_int {l : List Nat} (h : numeralB l = true) : intText? (S l) = some ((NumText.digitsVal l : Nat) : Int) ∧ l.length ≤ 100 := by
  obtain ⟨h1, h2⟩ := Bool.and_eq_true_iff.mp h
  obtain ⟨h3, h4⟩ := of_decide_eq_true h1
  refine ⟨int_S h2 (fun z => ?_) (by omega), h4⟩
  rw [z] at h3
  simp at h3
theorem digits_lt : ∀ (l : List Nat) (a k : Nat), l.all isDig = true → a < 10 ^ k → l.foldl (fun acc c => acc * 10 + (c - 48)) a < 10 ^ (k + l.length)
  | [], a, k, _, h => h
  | c :: r, a, k, hd, h => by
    obtain ⟨h1, h2⟩ := Bool.and_eq_true_iff.mp (show (isDig c && r.all isDig) = true from hd)
    obtain ⟨c1, c2⟩ := Bool.and_eq_true_iff.mp h1
    have c1 := of_decide_eq_true c1
    have c2 := of_decide_eq_true c2
    have p : 10 ^ (k + 1) = 10 ^ k * 10 := Nat.pow_succ ..
    have := digits_lt r (a * 10 + (c - 48)) (k + 1) h2 (by omega)
    rw [show k + (c :: r).length = k + 1 + r.length by rw [List.length_cons]; omega]
    exact this
theorem digitsVal_lt (l : List Nat) (h : l.all isDig = true) : NumText.digitsVal l < 10 ^ l.length := by
  have := digits_lt l 0 0 h (by decide)
  rw [Nat.zero_add] at this
  exact this
end RB

set_option Elab.async false
set_option linter.all false
set_option maxRecDepth 100000
set_option maxHeartbeats 2000000
namespace RB
open PySem PySem.Spec PyProof.Rows L2 SX
/-! ## rationals as they are passed, their texts, the reader -/
def RatV (H : Hp) (v : V) (n d : Int) : Prop := (v = .int n ∧ d = 1) ∨ ∃ a, v = .ref a ∧ H a = some (.tup [.int n, .int d])
theorem RatV.same {H H' : Hp} {v : V} {n d : Int} (h : RatV H v n d) (s : Same H H') : RatV H' v n d := by
  rcases h with h | ⟨a, e, h⟩
  · exact .inl h
  · exact .inr ⟨a, e, s _ _ h⟩
def Bad (C : Addr) (H : Hp) (E : XK) : Prop := ∀ x, H x = none → E (.ref C) (some x) (upd H x (.xd [("code", .str "InvalidNumber")]))
def spPair (C : Addr) : Sp := fun vs H Q E => ∃ (v : V) (n d : Int), vs = [v] ∧ RatV H v n d ∧ (d = 0 → Bad C H E) ∧ (d ≠ 0 → ∀ p, H p = none → Q (.ref p) (upd H p (.tup [.int n, .int d])))
def big : Nat := 10 ^ 1280
def spWhole : Sp := fun vs H Q _ => ∃ n : Int, vs = [.int n] ∧ n.natAbs < big ∧ ∀ H', Same H H' → Q (.str (S (numT n))) H'
def lowN (n d : Int) : Int := n.fdiv (lowS n d)
def lowD (n d : Int) : Int := d.fdiv (lowS n d)
def spNText (C : Addr) : Sp := fun vs H Q E => ∃ (v : V) (n d : Int), vs = [v] ∧ RatV H v n d ∧ n.natAbs < big ∧ d.natAbs < big ∧ (d = 0 → ∀ H', Same H H' → Bad C H' E) ∧ (d ≠ 0 → ∀ H', Same H H' → Q (.str (S (ratT (lowN n d) (lowD n d)))) H')
def spNumeral : Sp := fun vs H Q _ => ∃ l : List Nat, vs = [.str (S l)] ∧ l.length ≤ 100000 ∧ ∀ H', Same H H' → Q (.bl (numeralB l)) H'
/-- the reader -/
def minusB (t : List Nat) : Bool := decide (t.head? = some 45)
def bare (t : List Nat) : List Nat := if minusB t then t.tail else t
def above (t : List Nat) : List Nat := match TL.par [47] [] (bare t) with | some (p, _) => p | none => bare t
def below (t : List Nat) : List Nat := match TL.par [47] [] (bare t) with | some (_, q) => q | none => [49]
def rdN (t : List Nat) : Int := NumText.digitsVal (above t)
def rdD (t : List Nat) : Int := NumText.digitsVal (below t)
def rdS (t : List Nat) : Int := if minusB t then -(lowN (rdN t) (rdD t)) else lowN (rdN t) (rdD t)
def readsB (t : List Nat) : Bool := numeralB (above t) && numeralB (below t) && !decide (rdD t = 0) && decide (ratT (rdS t) (lowD (rdN t) (rdD t)) = t)
def spParse (C : Addr) : Sp := fun vs H Q E => ∃ t : List Nat, vs = [.str (S t)] ∧ t.length ≤ 99999 ∧ (readsB t = true → ∀ H' p, Same H H' → H' p = some (.tup [.int (rdS t), .int (lowD (rdN t) (rdD t))]) → Q (.ref p) H') ∧ (readsB t = false → ∀ H', Same H H' → Bad C H' E)
theorem big_log {a : Nat} (h : a < big) : a.log2 < 9000 := by
  have h2 : big < 2 ^ 4300 := by decide +kernel
  have := log2_lt (Nat.lt_trans h h2) (by decide)
  omega
theorem joinL_nil : ∀ ys : List (List Nat), TL.joinL [] ys = ys.flatten
  | [] => rfl
  | [y] => by
    show y = [y].flatten
    simp
  | y :: z :: r => by
    show y ++ ([] ++ TL.joinL [] (z :: r)) = (y :: z :: r).flatten
    rw [joinL_nil (z :: r)]
    simp
theorem flat_len {ys : List (List Nat)} (h : ∀ y ∈ ys, y.length = 64) : ys.flatten.length = 64 * ys.length := by
  induction ys with
  | nil => rfl
  | cons y r ih =>
    rw [List.flatten_cons, List.length_append, h y (List.mem_cons_self ..), ih fun z hz => h z (List.mem_cons_of_mem _ hz), List.length_cons]
    omega
theorem pre_one (s c : Nat) (r : List Nat) : TL.pre [s] (c :: r) = decide (c = s) := by
  show ([c] == [s]) = decide (c = s)
  by_cases h : c = s
  · subst h
    simp
  · rw [decide_eq_false h]
    exact beq_eq_false_iff_ne.mpr fun z => h (List.cons.inj z).1
theorem par_inv {s : Nat} : ∀ {u acc p q : List Nat}, TL.par [s] acc u = some (p, q) → ∃ p', p = acc ++ p' ∧ u = p' ++ s :: q ∧ s ∉ p'
  | [], _, _, _, h => by cases h
  | c :: r, acc, p, q, h => by
    by_cases hc : c = s
    · rw [TL.par_hit (by rw [pre_one]; exact decide_eq_true hc)] at h
      have e := Option.some.inj h
      have e1 : acc = p := congrArg Prod.fst e
      have e2 : r = q := congrArg Prod.snd e
      exact ⟨[], by rw [e1, List.append_nil], by rw [hc, e2]; rfl, by simp⟩
    · rw [TL.par_miss (by rw [pre_one]; exact decide_eq_false hc)] at h
      obtain ⟨p', e1, e2, e3⟩ := par_inv h
      refine ⟨c :: p', by rw [e1, List.append_assoc]; rfl, by rw [e2]; rfl, ?_⟩
      intro z
      rcases List.mem_cons.mp z with z | z
      · exact hc z.symm
      · exact e3 z
theorem par_none_inv {s : Nat} : ∀ {u acc : List Nat}, TL.par [s] acc u = none → s ∉ u
  | [], _, _ => by simp
  | c :: r, acc, h => by
    by_cases hc : c = s
    · rw [TL.par_hit (by rw [pre_one]; exact decide_eq_true hc)] at h
      cases h
    · rw [TL.par_miss (by rw [pre_one]; exact decide_eq_false hc)] at h
      intro z
      rcases List.mem_cons.mp z with z | z
      · exact hc z.symm
      · exact par_none_inv h z
theorem subAt_minus (t : List Nat) : Builtin.Str.subAt (S t) (S [45]) 0 = minusB t := by
  rw [StrLaws.subAt_eq]
  show ((t.drop 0).take 1 == [45]) = decide (t.head? = some 45)
  cases t with
  | nil => rfl
  | cons c r =>
    show ([c] == [45]) = decide (some c = some 45)
    by_cases h : c = 45
    · subst h
      rfl
    · rw [decide_eq_false (fun z => h (Option.some.inj z))]
      exact beq_eq_false_iff_ne.mpr fun z => h (List.cons.inj z).1
theorem minus_len {t : List Nat} (h : minusB t = true) : 1 ≤ t.length := by
  cases t with
  | nil => exact absurd (of_decide_eq_true h) (by simp)
  | cons c r => simp
theorem removeprefix_minus (t : List Nat) : Txt.removeprefix (S t) (S [45]) = S (bare t) := by
  rw [StrLaws.removeprefix_eq, subAt_minus, S_len, S_len]
  unfold bare
  cases h : minusB t with
  | false =>
    rw [Bool.and_false]
    rfl
  | true =>
    have := minus_len h
    rw [decide_eq_true (by simpa using this)]
    show (⟨((t.drop 1).take (t.length - 1)).toArray⟩ : Str) = S t.tail
    rw [List.drop_one, List.take_of_length_le (by simp)]
theorem startswith_minus (t : List Nat) : Txt.startswith (S t) (S [45]) = minusB t := by
  unfold Txt.startswith
  rw [subAt_minus, S_len, S_len]
  cases h : minusB t with
  | false => rw [Bool.and_false]
  | true =>
    have := minus_len h
    rw [decide_eq_true (by simpa using this)]
    rfl
end RB

set_option Elab.async false
set_option linter.all false
set_option maxRecDepth 100000
set_option maxHeartbeats 2000000
namespace RB
open PySem PySem.Spec PyProof.Rows L2 SX
/-! ## values that a law draws -/
/-- what was tracked stays, but for r -/
structure Keeps (r : Addr) (H H' : Hp) : Prop where
  fn : ∀ b o, H b = some o → b ≠ r → H' b = some o
  fst : Fst r H H'
instance {r : Addr} {H H' : Hp} : CoeFun (Keeps r H H') fun _ => ∀ b o, H b = some o → b ≠ r → H' b = some o := ⟨Keeps.fn⟩
theorem Keeps.refl (r : Addr) (H : Hp) : Keeps r H H := ⟨fun _ _ e _ => e, fun c rest e => ⟨rest, e⟩⟩
theorem Keeps.trans {r : Addr} {H H1 H2 : Hp} (a : Keeps r H H1) (b : Keeps r H1 H2) : Keeps r H H2 := ⟨fun c o e n => b.fn c o (a.fn c o e n) n, a.fst.trans b.fst⟩
theorem Keeps.same {r : Addr} {H H' : Hp} (s : Same H H') : Keeps r H H' := ⟨fun b o e _ => s b o e, fun c rest e => ⟨rest, s _ _ e⟩⟩
theorem Keeps.but {r : Addr} {H H' : Hp} (s : But r H H') : Keeps r H H' := ⟨fun b o e n => (s.fn b n).trans e, s.fst⟩
/-- the generator's cells stay where they are -/
theorem rng_cells {r D : Addr} {H H1 : Hp} {l : List V} (R : RngOk H r) (k : Keeps r H H1) (R1 : RngOk H1 r) (nD : H D = none) : RngOk (upd H1 D (.lst l)) r := by
  obtain ⟨c, i, b, s, hr, ⟨cells, hc, _⟩, _⟩ := R
  obtain ⟨rest, e⟩ := k.fst _ _ hr
  obtain ⟨c1, i1, b1, s1, hr1, ⟨cells1, hc1, l1⟩, h4⟩ := R1
  rw [hr1] at e
  have e1 : c1 = c := by
    have := HO.lst.inj (Option.some.inj e)
    have := (List.cons.inj this).1
    exact V.ref.inj this
  subst e1
  refine ⟨c1, i1, b1, s1, ?_, ⟨cells1, ?_, l1⟩, h4⟩
  · rw [upd_ne (ne_of_none hr nD)]
    exact hr1
  · rw [upd_ne (ne_of_none hc nD)]
    exact hc1
theorem rng_ne_tup {H : Hp} {r p : Addr} {xs : List V} (R : RngOk H r) (h : H p = some (.tup xs)) : p ≠ r := by
  obtain ⟨c, i, b, s, hr, _⟩ := R
  exact ne_of h hr fun z => nomatch z
theorem rng_ne_new {H : Hp} {r p : Addr} (R : RngOk H r) (h : H p = none) : p ≠ r := by
  obtain ⟨c, i, b, s, hr, _⟩ := R
  exact (ne_of_none hr h).symm
theorem tabs_keep {T : List (Addr × Str)} {H H' : Hp} {r : Addr} (t : LamX.Tabs T H) (R : RngOk H r) (b : Keeps r H H') : LamX.Tabs T H' := fun p hp => by
  obtain ⟨ps, h1, h2, h3⟩ := t p hp
  obtain ⟨c, i, bb, s, hr, _⟩ := R
  refine ⟨ps, b _ _ h1 (ne_of h1 hr fun z => nomatch z), h2, fun pos cv hc => ?_⟩
  obtain ⟨c', e1, e2⟩ := h3 pos cv hc
  refine ⟨c', e1, b _ _ e2 (ne_of e2 hr fun z => ?_)⟩
  unfold LamX.CodeO at z
  cases z
/-- a rational in lowest terms -/
def Low (n d : Int) : Prop := 1 ≤ d ∧ Int.gcd n d = 1
theorem low_Low {n d : Int} (h : d ≠ 0) : Low (n.fdiv (lowS n d)) (d.fdiv (lowS n d)) := by
  obtain ⟨k, m, _, _, e1, e2, m1, g, _⟩ := low_all (n := n) h
  rw [e1, e2]
  exact ⟨m1, g⟩
theorem low_scale {n d f : Int} (h : Low n d) (hf : f ≠ 0) : lowN (n * f) (d * f) = n ∧ lowD (n * f) (d * f) = d := by
  obtain ⟨h1, h2⟩ := h
  have g : Int.gcd (n * f) (d * f) = f.natAbs := by
    rw [Int.gcd_mul_right, h2, Nat.one_mul]
  have hs : lowS (n * f) (d * f) = f := by
    unfold lowS
    rw [g]
    by_cases c : 0 < f
    · have : 0 < d * f := Int.mul_pos (by omega) c
      rw [if_neg (by omega)]
      omega
    · have : d * f < 0 := Int.mul_neg_of_pos_of_neg (by omega) (by omega)
      rw [if_pos this]
      omega
  unfold lowN lowD
  rw [hs]
  exact ⟨fdiv_is hf (Int.mul_comm _ _), fdiv_is hf (Int.mul_comm _ _)⟩
def spValue : Sp := fun vs H Q _ => ∃ r : Addr, vs = [.ref r] ∧ RngOk H r ∧ ∀ n d p H', Low n d → n.natAbs ≤ 1000 → d.natAbs ≤ 12 → Keeps r H H' → RngOk H' r → H p = none → H' p = some (.tup [.int n, .int d]) → Q (.ref p) H'
def spGiven : Sp := fun vs H Q _ => ∃ (r p : Addr) (n d : Int), vs = [.ref r, .ref p] ∧ RngOk H r ∧ H p = some (.tup [.int n, .int d]) ∧ ∀ v f H', RatV H' v (n * f) (d * f) → f ≠ 0 → f.natAbs ≤ 7 → Keeps r H H' → RngOk H' r → Q v H'
def spRatText : Sp := fun vs H Q _ => ∃ (p : Addr) (n d : Int), vs = [.ref p] ∧ H p = some (.tup [.int n, .int d]) ∧ n.natAbs.log2 < 1920 ∧ d.natAbs.log2 < 1920 ∧ Q (.str (S (ratT n d))) H
theorem fac_of {v : V} {i : Nat} (h : ([.int 1, .int (-1), .int 2, .int (-3), .int 7] : List V)[i]? = some v) : ∃ f : Int, v = .int f ∧ f ≠ 0 ∧ f.natAbs ≤ 7 := by
  match i, h with
  | 0, h => exact ⟨1, (Option.some.inj h).symm, by decide, by decide⟩
  | 1, h => exact ⟨-1, (Option.some.inj h).symm, by decide, by decide⟩
  | 2, h => exact ⟨2, (Option.some.inj h).symm, by decide, by decide⟩
  | 3, h => exact ⟨-3, (Option.some.inj h).symm, by decide, by decide⟩
  | 4, h => exact ⟨7, (Option.some.inj h).symm, by decide, by decide⟩
  | n + 5, h => simp at h
/-! ## the reader reads what the writer writes -/
theorem numL_numeral {n : Nat} (h : n < 10 ^ 100) : numeralB (TL.numL n) = true := by
  have l1 := TL.numL_len (k := 100) (by decide) h
  have l2 : 1 ≤ (TL.numL n).length := by
    have := TL.numL_ne n
    cases e : TL.numL n with
    | nil => exact absurd e this
    | cons a b => simp
  unfold numeralB
  rw [decide_eq_true ⟨l2, l1⟩, Bool.true_and]
  refine List.all_eq_true.mpr fun c hc => ?_
  obtain ⟨c1, c2⟩ := TL.numL_digits n c hc
  unfold isDig
  rw [decide_eq_true c1, decide_eq_true c2]
  rfl
theorem numL_no {n s : Nat} (h : s < 48 ∨ 57 < s) : s ∉ TL.numL n := TL.numL_free h
theorem minus_num (n : Int) (r : List Nat) : minusB (numT n ++ r) = decide (n < 0) := by
  unfold numT
  by_cases h : n < 0
  · rw [if_pos h, decide_eq_true h]
    rfl
  · rw [if_neg h, decide_eq_false h]
    unfold minusB
    refine decide_eq_false fun z => ?_
    have hne := TL.numL_ne n.natAbs
    cases e : TL.numL n.natAbs with
    | nil => exact absurd e hne
    | cons a b =>
      rw [e] at z
      have z2 : a = 45 := Option.some.inj z
      have : (45 : Nat) ∈ TL.numL n.natAbs := by rw [e, z2]; exact List.mem_cons_self
      exact numL_no (by decide) this
theorem bare_num (n : Int) (r : List Nat) : bare (numT n ++ r) = TL.numL n.natAbs ++ r := by
  unfold bare
  rw [minus_num]
  unfold numT
  by_cases h : n < 0
  · rw [if_pos h, decide_eq_true h]
    rfl
  · rw [if_neg h, decide_eq_false h]
    rfl
theorem parse_rat {n d : Int} (h : Low n d) (h1 : n.natAbs < 10 ^ 100) (h2 : d.natAbs < 10 ^ 100) : readsB (ratT n d) = true ∧ rdS (ratT n d) = n ∧ lowD (rdN (ratT n d)) (rdD (ratT n d)) = d := by
  have hd1 := h.1
  have ed : numT d = TL.numL d.natAbs := if_neg (by omega)
  have key : ∃ r, ratT n d = numT n ++ r ∧ above (ratT n d) = TL.numL n.natAbs ∧ rdD (ratT n d) = d ∧ numeralB (below (ratT n d)) = true := by
    unfold ratT
    by_cases c : d = 1
    · rw [if_pos c]
      have eb := bare_num n []
      rw [List.append_nil] at eb
      have ep : TL.par [47] [] (bare (numT n)) = none := by
        rw [eb]
        rw [List.append_nil]
        exact TL.par_none1 (numL_no (s := 47) (by decide))
      refine ⟨[], by rw [List.append_nil], ?_, ?_, ?_⟩
      · unfold above
        rw [ep, eb, List.append_nil]
      · unfold rdD below
        rw [ep, c]
        rfl
      · unfold below
        rw [ep]
        decide
    · rw [if_neg c]
      have eb := bare_num n (47 :: numT d)
      have ep : TL.par [47] [] (bare (numT n ++ 47 :: numT d)) = some (TL.numL n.natAbs, TL.numL d.natAbs) := by
        rw [eb, ed]
        have := TL.par_part1 (s := 47) (S := []) (p := TL.numL n.natAbs) (rest := TL.numL d.natAbs) (acc := []) (numL_no (by decide))
        exact this
      refine ⟨47 :: numT d, rfl, ?_, ?_, ?_⟩
      · unfold above
        rw [ep]
      · unfold rdD below
        rw [ep]
        show ((NumText.digitsVal (TL.numL d.natAbs) : Nat) : Int) = d
        rw [TL.numL_val]
        omega
      · unfold below
        rw [ep]
        exact numL_numeral h2
  obtain ⟨r, er, ea, eD, eB⟩ := key
  have eN : rdN (ratT n d) = (n.natAbs : Int) := by
    unfold rdN
    rw [ea, TL.numL_val]
  have g : Int.gcd (n.natAbs : Int) d = 1 := by
    have := h.2
    simpa [Int.gcd] using this
  have hid : lowN (n.natAbs : Int) d = n.natAbs ∧ lowD (n.natAbs : Int) d = d := by
    have := low_scale (n := (n.natAbs : Int)) (d := d) (f := 1) ⟨hd1, g⟩ (by decide)
    rw [Int.mul_one, Int.mul_one] at this
    exact this
  have eS : rdS (ratT n d) = n := by
    unfold rdS
    rw [eN, eD, hid.1, er, minus_num]
    by_cases c : n < 0
    · rw [decide_eq_true c, if_pos rfl]
      omega
    · rw [decide_eq_false c, if_neg (by decide)]
      omega
  have eL : lowD (rdN (ratT n d)) (rdD (ratT n d)) = d := by
    rw [eN, eD]
    exact hid.2
  refine ⟨?_, eS, eL⟩
  unfold readsB
  rw [eL, eS, ea, numL_numeral h1, eB, eD, decide_eq_false (by omega : ¬ d = 0), decide_eq_true rfl]
  rfl
end RB

set_option Elab.async false
set_option linter.all false
set_option maxRecDepth 100000
set_option maxHeartbeats 2000000
namespace RB
open PySem PySem.Spec PyProof.Rows L2 SX
/-! ## pairs in lowest terms are the rationals -/
/-- the datum of a rational -/
def dq (q : Rat) : Dat := .tup [.int q.num, .int (q.den : Int)]
theorem rat_low {k m : Int} (h : Low k m) : ((k : Rat) / (m : Rat)).num = k ∧ ((((k : Rat) / (m : Rat)).den : Nat) : Int) = m := by
  obtain ⟨h1, h2⟩ := h
  have e : (k : Rat) / (m : Rat) = ⟨k, m.natAbs, by omega, by
    have : Int.gcd k m = Nat.gcd k.natAbs m.natAbs := rfl
    rw [this] at h2
    exact h2⟩ := by
    rw [Rat.mk_eq_divInt, ← Rat.divInt_eq_div]
    congr 1
    omega
  rw [e]
  exact ⟨rfl, by show ((m.natAbs : Nat) : Int) = m; omega⟩
theorem rat_scale {n d k m s : Int} (h1 : n = s * k) (h2 : d = s * m) (hs : s ≠ 0) : (n : Rat) / (d : Rat) = (k : Rat) / (m : Rat) := by
  rw [← Rat.divInt_eq_div, ← Rat.divInt_eq_div, h1, h2, Rat.divInt_mul_left hs]
/-- what lowest gives -/
theorem low_rat {n d : Int} (h : d ≠ 0) : lowN n d = ((n : Rat) / (d : Rat)).num ∧ lowD n d = ((((n : Rat) / (d : Rat)).den : Nat) : Int) := by
  obtain ⟨k, m, hk, hm, ek, em, m1, g, s0⟩ := low_all (n := n) h
  have e1 : lowN n d = k := ek
  have e2 : lowD n d = m := em
  rw [e1, e2, rat_scale hk hm s0]
  obtain ⟨a, b⟩ := rat_low ⟨m1, g⟩
  exact ⟨a.symm, b.symm⟩
theorem num_den (q : Rat) : (q.num : Rat) / ((q.den : Int) : Rat) = q := by
  have := Rat.num_divInt_den q
  rw [Rat.divInt_eq_div] at this
  exact this
theorem den_pos (q : Rat) : (1 : Int) ≤ (q.den : Int) := by
  have := q.den_nz
  omega
theorem rat_Low (q : Rat) : Low q.num (q.den : Int) := ⟨den_pos q, q.reduced⟩
/-! ## lists as polynomials -/
/-- zeros at the end dropped -/
def trimL {α : Type} [DecidableEq α] (z : α) : List α → List α
  | [] => []
  | c :: r => match trimL z r with | [] => if c = z then [] else [c] | t => c :: t
theorem trim_cons {α : Type} [DecidableEq α] {z c : α} {r : List α} : trimL z (c :: r) = if trimL z r = [] then (if c = z then [] else [c]) else c :: trimL z r := by
  show (match trimL z r with | [] => if c = z then [] else [c] | t => c :: t) = _
  cases h : trimL z r with
  | nil => rfl
  | cons a b => rfl
theorem trim_snoc {α : Type} [DecidableEq α] {z : α} : ∀ (l : List α), trimL z (l ++ [z]) = trimL z l
  | [] => by
    show trimL z [z] = []
    rw [trim_cons, if_pos (show trimL z [] = [] from rfl), if_pos rfl]
  | c :: r => by
    rw [List.cons_append, trim_cons, trim_cons, trim_snoc r]
theorem trim_keep {α : Type} [DecidableEq α] {z y : α} (h : y ≠ z) : ∀ (l : List α), trimL z (l ++ [y]) = l ++ [y]
  | [] => by
    show trimL z [y] = [y]
    rw [trim_cons, if_pos (show trimL z [] = [] from rfl), if_neg h]
  | c :: r => by
    rw [List.cons_append, trim_cons, trim_keep h r, if_neg (by simp)]
theorem trim_len {α : Type} [DecidableEq α] {z : α} : ∀ (l : List α), (trimL z l).length ≤ l.length
  | [] => Nat.le_refl _
  | c :: r => by
    have := trim_len (z := z) r
    rw [trim_cons]
    split
    · split
      · simp
      · simp
    · rw [List.length_cons, List.length_cons]
      omega
theorem trim_zeros {α : Type} [DecidableEq α] {z : α} (l : List α) : ∀ n : Nat, trimL z (l ++ List.replicate n z) = trimL z l
  | 0 => by
    show trimL z (l ++ []) = _
    rw [List.append_nil]
  | n + 1 => by
    rw [List.replicate_succ', ← List.append_assoc, trim_snoc, trim_zeros l n]
theorem trim_map {α β : Type} [DecidableEq α] [DecidableEq β] {z : α} {y : β} (f : α → β) (h : ∀ a, f a = y ↔ a = z) : ∀ l : List α, (trimL z l).map f = trimL y (l.map f)
  | [] => rfl
  | c :: r => by
    have ih := trim_map f h r
    rw [List.map_cons, trim_cons, trim_cons, ← ih]
    by_cases e : trimL z r = []
    · rw [if_pos e, e, List.map_nil, if_pos rfl]
      by_cases e2 : c = z
      · rw [if_pos e2, if_pos ((h c).mpr e2)]
        rfl
      · rw [if_neg e2, if_neg (fun q => e2 ((h c).mp q))]
        rfl
    · rw [if_neg e, if_neg (by simpa using e), List.map_cons]
theorem trim_idem {α : Type} [DecidableEq α] {z : α} : ∀ l : List α, trimL z (trimL z l) = trimL z l
  | [] => rfl
  | c :: r => by
    have ih := trim_idem (z := z) r
    rw [trim_cons]
    split
    · split
      · rfl
      · rename_i h
        rw [trim_cons]
        show (if trimL z [] = [] then _ else _) = _
        rw [if_pos (by rfl), if_neg h]
    · rename_i h
      rw [trim_cons, ih, if_neg h]
/-! ## least common multiples -/
def lcmI (s d : Int) : Int := ((s.fdiv (Int.gcd s d : Int) * d).natAbs : Int)
theorem lcm_ok {s d : Int} (hs : 0 < s) (hd : d ≠ 0) : 0 < lcmI s d ∧ (∃ k, lcmI s d = s * k) ∧ (∃ k, lcmI s d = d * k) ∧ lcmI s d ≤ s * d.natAbs := by
  obtain ⟨k, hk⟩ : ∃ k, s = (Int.gcd s d : Int) * k := Int.gcd_dvd_left s d
  obtain ⟨m, hm⟩ : ∃ m, d = (Int.gcd s d : Int) * m := Int.gcd_dvd_right s d
  have g0 : (Int.gcd s d : Int) ≠ 0 := by
    intro z
    rw [z, Int.zero_mul] at hk
    omega
  have ef : s.fdiv (Int.gcd s d : Int) = k := fdiv_is g0 hk
  have gp : (1 : Int) ≤ (Int.gcd s d : Int) := by omega
  unfold lcmI
  rw [ef]
  generalize (Int.gcd s d : Int) = g at *
  have kp : 0 < k := by
    rcases (by omega : 0 < k ∨ k ≤ 0) with h | h
    · exact h
    · have := Int.mul_nonneg (show (0 : Int) ≤ g by omega) (show (0 : Int) ≤ -k by omega)
      rw [Int.mul_neg] at this
      omega
  have ea : ((k * d).natAbs : Int) = k * (d.natAbs : Int) := by
    rw [Int.natAbs_mul, Int.natCast_mul]
    congr 1
    omega
  have dp : (1 : Int) ≤ (d.natAbs : Int) := by omega
  refine ⟨?_, ⟨(m.natAbs : Int), ?_⟩, ?_, ?_⟩
  · rw [ea]
    exact Int.mul_pos kp (by omega)
  · have : k * d = s * m := by
      rw [hk, hm]
      grind
    rw [this, Int.natAbs_mul, Int.natCast_mul]
    congr 1
    omega
  · rcases (by omega : 0 < d ∨ d ≤ 0) with h | h
    · exact ⟨k, by rw [ea, show ((d.natAbs : Nat) : Int) = d by omega, Int.mul_comm]⟩
    · exact ⟨-k, by rw [ea, show ((d.natAbs : Nat) : Int) = -d by omega]; grind⟩
  · rw [ea]
    refine Int.mul_le_mul_of_nonneg_right ?_ (by omega)
    have := Int.mul_le_mul_of_nonneg_right gp (show (0 : Int) ≤ k by omega)
    omega
end RB

set_option Elab.async false
set_option linter.all false
set_option maxRecDepth 100000
set_option maxHeartbeats 2000000
namespace RB
open PySem PySem.Spec PyProof.Rows L2 SX
/-! ## data of numbers, as the model's == sees them -/
mutual
def Dat.pd : Dat → PyData
  | .non => .none
  | .bl b => .bool b
  | .int i => .int i
  | .str x => .str x
  | .lst ds => .list (pds ds)
  | .tup ds => .tuple (pds ds)
def pds : List Dat → List PyData
  | [] => []
  | d :: r => d.pd :: pds r
end
mutual
/-- numbers, None, lists and tuples of them -/
def numD : Dat → Bool
  | .non | .int _ => true
  | .bl _ | .str _ => false
  | .lst ds => numDs ds
  | .tup ds => numDs ds
def numDs : List Dat → Bool
  | [] => true
  | d :: r => numD d && numDs r
end
mutual
theorem At.dp {K : PySem.W.Frag} {H : Hp} : ∀ {v : V} {d : Dat}, At K H v d → Dp K H v d.pd
  | _, _, .non => .non
  | _, _, .bl b => .bl b
  | _, _, .int i => .int i
  | _, _, .str x => .str x
  | _, _, .lst e l a => .lst (.inl (.inl e)) (AtAll.dp a)
  | _, _, .tup e l a => .tup (.inl (.inl e)) (AtAll.dp a)
theorem AtAll.dp {K : PySem.W.Frag} {H : Hp} : ∀ {xs : List V} {ds : List Dat}, AtAll K H xs ds → DpAll K H xs (pds ds)
  | _, _, .nil => .nil
  | _, _, .cons a t => .cons (At.dp a) (AtAll.dp t)
end
mutual
theorem pd_lay : ∀ d : Dat, numD d = true → d.pd.canLay0 = true ∧ d.pd.depth ≤ d.deep + 1
  | .non, _ => by simp [Dat.pd, PyData.canLay0, PyData.depth, Dat.deep]
  | .int i, _ => by simp [Dat.pd, PyData.canLay0, PyData.depth, Dat.deep]
  | .bl b, h => by cases h
  | .str x, h => by cases h
  | .lst ds, h => by
    have h' : numDs ds = true := h
    obtain ⟨h1, h2⟩ := pds_lay ds h'
    simp only [Dat.pd, PyData.canLay0, PyData.depth, Dat.deep]
    exact ⟨h1, by omega⟩
  | .tup ds, h => by
    have h' : numDs ds = true := h
    obtain ⟨h1, h2⟩ := pds_lay ds h'
    simp only [Dat.pd, PyData.canLay0, PyData.depth, Dat.deep]
    exact ⟨h1, by omega⟩
theorem pds_lay : ∀ ds : List Dat, numDs ds = true → PyData.canLayAll0 (pds ds) = true ∧ PyData.depthAll (pds ds) ≤ Dat.deep.deeps ds + 1
  | [], _ => by simp [pds, PyData.canLayAll0, PyData.depthAll]
  | d :: r, h => by
    obtain ⟨h1, h2⟩ := Bool.and_eq_true_iff.mp (show (numD d && numDs r) = true from h)
    obtain ⟨a1, a2⟩ := pd_lay d h1
    obtain ⟨b1, b2⟩ := pds_lay r h2
    simp only [pds, PyData.canLayAll0, PyData.depthAll, Dat.deep.deeps, a1, b1, Bool.and_self, true_and]
    omega
end
theorem pd_shaped {d : Dat} (h : numD d = true) (hd : d.deep ≤ 60) : SeqAt.shaped d.pd = true := by
  obtain ⟨a, b⟩ := pd_lay d h
  unfold SeqAt.shaped
  rw [a, decide_eq_true (by omega : d.pd.depth ≤ 64)]
  rfl
mutual
theorem eqv_pd : ∀ d e : Dat, numD d = true → numD e = true → (PyData.eqv d.pd e.pd = true ↔ d = e)
  | .non, .non, _, _ => by simp [Dat.pd, PyData.eqv]
  | .int i, .int j, _, _ => by simp [Dat.pd, PyData.eqv]
  | .lst a, .lst b, h1, h2 => by
    have := eqv_pds a b h1 h2
    simp only [Dat.pd, PyData.eqv, Dat.lst.injEq]
    exact this
  | .tup a, .tup b, h1, h2 => by
    have := eqv_pds a b h1 h2
    simp only [Dat.pd, PyData.eqv, Dat.tup.injEq]
    exact this
  | .non, .int _, _, _ => by simp [Dat.pd, PyData.eqv]
  | .non, .lst _, _, _ => by simp [Dat.pd, PyData.eqv]
  | .non, .tup _, _, _ => by simp [Dat.pd, PyData.eqv]
  | .int _, .non, _, _ => by simp [Dat.pd, PyData.eqv]
  | .int _, .lst _, _, _ => by simp [Dat.pd, PyData.eqv]
  | .int _, .tup _, _, _ => by simp [Dat.pd, PyData.eqv]
  | .lst _, .non, _, _ => by simp [Dat.pd, PyData.eqv]
  | .lst _, .int _, _, _ => by simp [Dat.pd, PyData.eqv]
  | .lst _, .tup _, _, _ => by simp [Dat.pd, PyData.eqv]
  | .tup _, .non, _, _ => by simp [Dat.pd, PyData.eqv]
  | .tup _, .int _, _, _ => by simp [Dat.pd, PyData.eqv]
  | .tup _, .lst _, _, _ => by simp [Dat.pd, PyData.eqv]
  | .bl _, _, h, _ => by cases h
  | .str _, _, h, _ => by cases h
  | .non, .bl _, _, h => by cases h
  | .non, .str _, _, h => by cases h
  | .int _, .bl _, _, h => by cases h
  | .int _, .str _, _, h => by cases h
  | .lst _, .bl _, _, h => by cases h
  | .lst _, .str _, _, h => by cases h
  | .tup _, .bl _, _, h => by cases h
  | .tup _, .str _, _, h => by cases h
theorem eqv_pds : ∀ a b : List Dat, numDs a = true → numDs b = true → (PyData.eqvAll (pds a) (pds b) = true ↔ a = b)
  | [], [], _, _ => by simp [pds, PyData.eqvAll]
  | [], _ :: _, _, _ => by simp [pds, PyData.eqvAll]
  | _ :: _, [], _, _ => by simp [pds, PyData.eqvAll]
  | x :: a, y :: b, h1, h2 => by
    obtain ⟨p1, p2⟩ := Bool.and_eq_true_iff.mp (show (numD x && numDs a) = true from h1)
    obtain ⟨q1, q2⟩ := Bool.and_eq_true_iff.mp (show (numD y && numDs b) = true from h2)
    simp only [pds, PyData.eqvAll, Bool.and_eq_true, eqv_pd x y p1 q1, eqv_pds a b p2 q2, List.cons.injEq]
end
/-- == and != of two data of numbers -/
theorem eq_read {K : PySem.W.Frag} {H : Hp} {x y : V} {d e : Dat} {Q : VK} (a : At K H x d) (b : At K H y e) (hd : numD d = true) (he : numD e = true) (sd : d.deep ≤ 60) (se : e.deep ≤ 60) (q : ∀ t : Bool, (t = true ↔ d = e) → Q (.bl t) H) : rEqD K x y H Q :=
  ⟨d.pd, e.pd, a.dp, b.dp, pd_shaped hd sd, pd_shaped he se, q _ (eqv_pd d e hd he)⟩
theorem ne_read {K : PySem.W.Frag} {H : Hp} {x y : V} {d e : Dat} {Q : VK} (a : At K H x d) (b : At K H y e) (hd : numD d = true) (he : numD e = true) (sd : d.deep ≤ 60) (se : e.deep ≤ 60) (q : ∀ t : Bool, (t = true ↔ d = e) → Q (.bl (!t)) H) : rNeD K x y H Q :=
  ⟨d.pd, e.pd, a.dp, b.dp, pd_shaped hd sd, pd_shaped he se, q _ (eqv_pd d e hd he)⟩
/-- a list of whole numbers, of rationals -/
def dz (zs : List Int) : Dat := .lst (zs.map .int)
def dqs (qs : List Rat) : Dat := .tup (qs.map dq)
def dql (qs : List Rat) : Dat := .lst (qs.map dq)
theorem numDs_map {α : Type} {f : α → Dat} (h : ∀ a, numD (f a) = true) : ∀ l : List α, numDs (l.map f) = true
  | [] => rfl
  | a :: r => by
    show (numD (f a) && numDs (r.map f)) = true
    rw [h a, numDs_map h r]
    rfl
theorem deeps_map {α : Type} {f : α → Dat} {n : Nat} (h : ∀ a, (f a).deep ≤ n) : ∀ l : List α, Dat.deep.deeps (l.map f) ≤ n
  | [] => Nat.zero_le _
  | a :: r => by
    have h1 := h a
    have h2 := deeps_map h r
    show max (f a).deep (Dat.deep.deeps (r.map f)) ≤ n
    omega
theorem num_dq (q : Rat) : numD (dq q) = true := rfl
theorem deep_dq (q : Rat) : (dq q).deep ≤ 1 := by simp [dq, Dat.deep, Dat.deep.deeps]
theorem num_dz (l : List Int) : numD (dz l) = true := numDs_map (fun _ => rfl) l
theorem num_dql (l : List Rat) : numD (dql l) = true := numDs_map num_dq l
theorem num_dqs (l : List Rat) : numD (dqs l) = true := numDs_map num_dq l
theorem deep_dz (l : List Int) : (dz l).deep ≤ 1 := by
  have := deeps_map (f := Dat.int) (n := 0) (fun _ => Nat.le_refl 0) l
  show 1 + _ ≤ 1
  omega
theorem deep_dql (l : List Rat) : (dql l).deep ≤ 2 := by
  have := deeps_map deep_dq l
  show 1 + _ ≤ 2
  omega
theorem deep_dqs (l : List Rat) : (dqs l).deep ≤ 2 := by
  have := deeps_map deep_dq l
  show 1 + _ ≤ 2
  omega
theorem dq_inj {a b : Rat} (h : dq a = dq b) : a = b := by
  unfold dq at h
  simp only [Dat.tup.injEq, List.cons.injEq, Dat.int.injEq, and_true] at h
  exact Rat.ext h.1 (by omega)
theorem dz_inj {a b : List Int} (h : dz a = dz b) : a = b := by
  unfold dz at h
  simp only [Dat.lst.injEq] at h
  exact List.map_inj_right (fun _ _ e => Dat.int.inj e) |>.mp h
theorem dql_inj {a b : List Rat} (h : dql a = dql b) : a = b := by
  unfold dql at h
  simp only [Dat.lst.injEq] at h
  exact List.map_inj_right (fun _ _ e => dq_inj e) |>.mp h
theorem dqs_inj {a b : List Rat} (h : dqs a = dqs b) : a = b := by
  unfold dqs at h
  simp only [Dat.tup.injEq] at h
  exact List.map_inj_right (fun _ _ e => dq_inj e) |>.mp h
/-- what stands at a list of whole numbers -/
theorem atAll_ints {K : PySem.W.Frag} {H : Hp} : ∀ {xs : List V} {zs : List Int}, AtAll K H xs (zs.map .int) → xs = zs.map .int
  | _, [], .nil => rfl
  | _, z :: r, .cons (.int _) t => by rw [atAll_ints t]; rfl
theorem ints_atAll {K : PySem.W.Frag} {H : Hp} : ∀ (zs : List Int), AtAll K H (zs.map .int) (zs.map .int)
  | [] => .nil
  | z :: r => .cons (.int z) (ints_atAll r)
theorem at_dz {K : PySem.W.Frag} {H : Hp} {v : V} {zs : List Int} (h : At K H v (dz zs)) : ∃ a, v = .ref a ∧ H a = some (.lst (zs.map .int)) ∧ zs.length ≤ 100000 := by
  unfold dz at h
  cases h with
  | lst e l t =>
    have := atAll_ints t
    subst this
    exact ⟨_, rfl, e, by simpa using l⟩
theorem dz_at {K : PySem.W.Frag} {H : Hp} {a : Addr} {zs : List Int} (h : H a = some (.lst (zs.map .int))) (l : zs.length ≤ 100000) : At K H (.ref a) (dz zs) := .lst h (by simpa using l) (ints_atAll zs)
theorem at_dq {K : PySem.W.Frag} {H : Hp} {v : V} {q : Rat} (h : At K H v (dq q)) : ∃ a, v = .ref a ∧ H a = some (.tup [.int q.num, .int (q.den : Int)]) := by
  unfold dq at h
  cases h with
  | tup e l t =>
    cases t with
    | cons t1 t =>
      cases t1
      cases t with
      | cons t2 t =>
        cases t2
        cases t
        exact ⟨_, rfl, e⟩
theorem dq_at {K : PySem.W.Frag} {H : Hp} {a : Addr} {q : Rat} (h : H a = some (.tup [.int q.num, .int (q.den : Int)])) : At K H (.ref a) (dq q) := .tup h (by decide : 2 ≤ 100000) (.cons (.int _) (.cons (.int _) .nil))
theorem at_lst {K : PySem.W.Frag} {H : Hp} {v : V} {ds : List Dat} (h : At K H v (.lst ds)) : ∃ a xs, v = .ref a ∧ H a = some (.lst xs) ∧ xs.length ≤ 100000 ∧ AtAll K H xs ds := by
  cases h with
  | lst e l t => exact ⟨_, _, rfl, e, l, t⟩
theorem at_tup {K : PySem.W.Frag} {H : Hp} {v : V} {ds : List Dat} (h : At K H v (.tup ds)) : ∃ a xs, v = .ref a ∧ H a = some (.tup xs) ∧ xs.length ≤ 100000 ∧ AtAll K H xs ds := by
  cases h with
  | tup e l t => exact ⟨_, _, rfl, e, l, t⟩
theorem AtAll.app {K : PySem.W.Frag} {H : Hp} : ∀ {xs ys : List V} {ds es : List Dat}, AtAll K H xs ds → AtAll K H ys es → AtAll K H (xs ++ ys) (ds ++ es)
  | _, _, _, _, .nil, h => h
  | _, _, _, _, .cons a t, h => .cons a (AtAll.app t h)
mutual
/-- no list within -/
def tupD : Dat → Bool
  | .non | .int _ | .bl _ | .str _ => true
  | .lst _ => false
  | .tup ds => tupDs ds
def tupDs : List Dat → Bool
  | [] => true
  | d :: r => tupD d && tupDs r
end
def Tups (H H' : Hp) : Prop := ∀ b xs, H b = some (.tup xs) → H' b = some (.tup xs)
mutual
theorem At.tups {K : PySem.W.Frag} {H H' : Hp} (s : Tups H H') : ∀ {v : V} {d : Dat}, tupD d = true → At K H v d → At K H' v d
  | _, _, _, .non => .non
  | _, _, _, .bl b => .bl b
  | _, _, _, .int i => .int i
  | _, _, _, .str x => .str x
  | _, _, h, .lst e l a => by cases h
  | _, _, h, .tup e l a => .tup (s _ _ e) l (AtAll.tups s h a)
theorem AtAll.tups {K : PySem.W.Frag} {H H' : Hp} (s : Tups H H') : ∀ {xs : List V} {ds : List Dat}, tupDs ds = true → AtAll K H xs ds → AtAll K H' xs ds
  | _, _, _, .nil => .nil
  | _, _, h, .cons a t => by
    obtain ⟨h1, h2⟩ := Bool.and_eq_true_iff.mp h
    exact .cons (At.tups s h1 a) (AtAll.tups s h2 t)
end
theorem tups_upd {H : Hp} {D : Addr} {xs ys : List V} (h : H D = some (.lst xs)) : Tups H (upd H D (.lst ys)) := fun b zs e => by
  rw [upd_ne (ne_of e h fun z => nomatch z)]
  exact e
theorem tups_same {H H' : Hp} (s : Same H H') : Tups H H' := fun b xs e => s _ _ e
theorem tupDs_all {ds : List Dat} : tupDs ds = true ↔ ∀ d ∈ ds, tupD d = true := by
  induction ds with
  | nil => exact ⟨fun _ d h => absurd h (by simp), fun _ => rfl⟩
  | cons d r ih =>
    show (tupD d && tupDs r) = true ↔ _
    rw [Bool.and_eq_true, ih]
    simp
theorem tupDs_take {ds : List Dat} {n : Nat} (h : tupDs ds = true) : tupDs (ds.take n) = true := tupDs_all.mpr fun d hd => tupDs_all.mp h d (List.mem_of_mem_take hd)
/-- a comprehension over a list whose items come out as data -/
theorem lc_dats {K : PySem.W.Frag} {a : Addr} {xs : List V} {g : TG} {tt : L2.TT} {te : TE} {vs : List Nat} {σ : L2.St} {H1 : Hp} {D : Addr} {Qd : Hp → Prop} (ds : List Dat) (hl : ds.length = xs.length) (hn : ds.length ≤ 100000) (ht : tupDs ds = true) (nD : H1 D = none) (hx : ∀ H', Same H1 H' → SqL K H' a xs)
    (hs : ∀ (i : Nat) (x : V) (d : Dat) (H' : Hp) (k : VK) (e : Hp → Prop), xs[i]? = some x → ds[i]? = some d → Same H1 H' → (∀ y H4, Same H' H4 → At K H4 y d → k y H4) → g x (wipe σ vs) H' fun σ2 H2 => wipe σ2 vs = wipe σ vs ∧ tt σ2 H2 fun b H3 => if b = true then te σ2 H3 k else e H3)
    (hd : ∀ H', Same H1 H' → At K H' (.ref D) (.lst ds) → Qd H') :
    ∃ W : Nat → Nat → Hp → Prop, (∃ m, W 0 m (upd H1 D (.lst []))) ∧ ∀ i m H, W i m H →
      ((Itl K a).stop i H ∧ Qd H) ∨ ((Itl K a).go i H ∧ ∃ Nx : Hp → Prop, (∀ H', Nx H' → ∃ m', m' < m ∧ W (i + 1) m' H') ∧ ∀ x H', (Itl K a).yld i H x H' → g x (wipe σ vs) H' fun σ2 H2 => wipe σ2 vs = wipe σ vs ∧ tt σ2 H2 fun b H3 =>
        if b = true then te σ2 H3 fun y H4 => ∃ acc, H4 D = some (.lst acc) ∧ acc.length < sizeLine ∧ Nx (upd H4 D (.lst (acc ++ [y]))) else Nx H3) := by
  refine lc_list (xs := xs) (fun i H' => Same H1 H' ∧ ∃ ys, H' D = some (.lst ys) ∧ AtAll K H' ys (ds.take i)) ⟨upd_new nD, [], upd_same, .nil⟩ (fun i H' _ p => hx H' p.1) (fun i x H' e p => ?_) (fun H' p => ?_)
  · obtain ⟨s1, ys, hD, hA⟩ := p
    have hi : i < xs.length := (List.getElem?_eq_some_iff.mp e).1
    have ed : ds[i]? = some ds[i] := List.getElem?_eq_getElem (by omega)
    refine hs i x ds[i] H' _ _ e ed s1 fun y H4 s4 hy => ?_
    have lys : ys.length = i := by
      rw [hA.length, List.length_take]
      omega
    refine ⟨ys, s4 _ _ hD, by rw [sizeLine_eq]; omega, fun b o eb => ?_, ys ++ [y], upd_same, ?_⟩
    · rw [upd_ne (ne_of_none eb nD)]
      exact s4 _ _ (s1 _ _ eb)
    · rw [List.take_add_one, ed]
      refine (AtAll.tups (tups_upd (s4 _ _ hD)) (tupDs_take ht) (hA.same s4)).app (.cons ?_ .nil)
      exact At.tups (tups_upd (s4 _ _ hD)) (tupDs_all.mp ht _ (List.mem_of_getElem? ed)) hy
  · obtain ⟨s1, ys, hD, hA⟩ := p
    rw [← hl, List.take_length] at hA
    exact hd H' s1 (.lst hD (by rw [hA.length]; exact hn) hA)
/-- a comprehension over a tuple whose items come out as data -/
theorem lc_datsT {K : PySem.W.Frag} {a : Addr} {xs : List V} {g : TG} {tt : L2.TT} {te : TE} {vs : List Nat} {σ : L2.St} {H1 : Hp} {D : Addr} {Qd : Hp → Prop} (ds : List Dat) (hl : ds.length = xs.length) (hn : ds.length ≤ 100000) (ht : tupDs ds = true) (nD : H1 D = none) (hx : ∀ H', Same H1 H' → SqT K H' a xs)
    (hs : ∀ (i : Nat) (x : V) (d : Dat) (H' : Hp) (k : VK) (e : Hp → Prop), xs[i]? = some x → ds[i]? = some d → Same H1 H' → (∀ y H4, Same H' H4 → At K H4 y d → k y H4) → g x (wipe σ vs) H' fun σ2 H2 => wipe σ2 vs = wipe σ vs ∧ tt σ2 H2 fun b H3 => if b = true then te σ2 H3 k else e H3)
    (hd : ∀ H', Same H1 H' → At K H' (.ref D) (.lst ds) → Qd H') :
    ∃ W : Nat → Nat → Hp → Prop, (∃ m, W 0 m (upd H1 D (.lst []))) ∧ ∀ i m H, W i m H →
      ((Itt K a).stop i H ∧ Qd H) ∨ ((Itt K a).go i H ∧ ∃ Nx : Hp → Prop, (∀ H', Nx H' → ∃ m', m' < m ∧ W (i + 1) m' H') ∧ ∀ x H', (Itt K a).yld i H x H' → g x (wipe σ vs) H' fun σ2 H2 => wipe σ2 vs = wipe σ vs ∧ tt σ2 H2 fun b H3 =>
        if b = true then te σ2 H3 fun y H4 => ∃ acc, H4 D = some (.lst acc) ∧ acc.length < sizeLine ∧ Nx (upd H4 D (.lst (acc ++ [y]))) else Nx H3) := by
  refine lc_tup (xs := xs) (fun i H' => Same H1 H' ∧ ∃ ys, H' D = some (.lst ys) ∧ AtAll K H' ys (ds.take i)) ⟨upd_new nD, [], upd_same, .nil⟩ (fun i H' _ p => hx H' p.1) (fun i x H' e p => ?_) (fun H' p => ?_)
  · obtain ⟨s1, ys, hD, hA⟩ := p
    have hi : i < xs.length := (List.getElem?_eq_some_iff.mp e).1
    have ed : ds[i]? = some ds[i] := List.getElem?_eq_getElem (by omega)
    refine hs i x ds[i] H' _ _ e ed s1 fun y H4 s4 hy => ?_
    have lys : ys.length = i := by
      rw [hA.length, List.length_take]
      omega
    refine ⟨ys, s4 _ _ hD, by rw [sizeLine_eq]; omega, fun b o eb => ?_, ys ++ [y], upd_same, ?_⟩
    · rw [upd_ne (ne_of_none eb nD)]
      exact s4 _ _ (s1 _ _ eb)
    · rw [List.take_add_one, ed]
      refine (AtAll.tups (tups_upd (s4 _ _ hD)) (tupDs_take ht) (hA.same s4)).app (.cons ?_ .nil)
      exact At.tups (tups_upd (s4 _ _ hD)) (tupDs_all.mp ht _ (List.mem_of_getElem? ed)) hy
  · obtain ⟨s1, ys, hD, hA⟩ := p
    rw [← hl, List.take_length] at hA
    exact hd H' s1 (.lst hD (by rw [hA.length]; exact hn) hA)
/-- rationals as they are given: whole numbers and pairs -/
def GivenV (H : Hp) (xs : List V) (ps : List (Int × Int)) : Prop := xs.length = ps.length ∧ ∀ (i : Nat) (x : V) (p : Int × Int), xs[i]? = some x → ps[i]? = some p → RatV H x p.1 p.2
theorem GivenV.same {H H' : Hp} {xs : List V} {ps : List (Int × Int)} (h : GivenV H xs ps) (s : Same H H') : GivenV H' xs ps := ⟨h.1, fun i x p a b => (h.2 i x p a b).same s⟩
def scaleOf (ps : List (Int × Int)) : Int := ps.foldl (fun s p => lcmI s p.2) 1
def wholeZ (ps : List (Int × Int)) : List Int := ps.map fun p => p.1 * (scaleOf ps).fdiv p.2
def qOf (p : Int × Int) : Rat := (p.1 : Rat) / (p.2 : Rat)
theorem scale_fold : ∀ (ps : List (Int × Int)) (s : Int), 0 < s → (∀ p ∈ ps, p.2 ≠ 0) → 0 < ps.foldl (fun s p => lcmI s p.2) s ∧ (∃ k, ps.foldl (fun s p => lcmI s p.2) s = s * k) ∧ ∀ p ∈ ps, ∃ k, ps.foldl (fun s p => lcmI s p.2) s = p.2 * k
  | [], s, hs, _ => ⟨hs, ⟨1, by simp⟩, fun p hp => absurd hp (by simp)⟩
  | p :: r, s, hs, h => by
    obtain ⟨l1, ⟨k1, l2⟩, ⟨k2, l3⟩, _⟩ := lcm_ok hs (h p List.mem_cons_self)
    obtain ⟨a, ⟨k, b⟩, c⟩ := scale_fold r (lcmI s p.2) l1 (fun q hq => h q (List.mem_cons_of_mem _ hq))
    refine ⟨a, ⟨k1 * k, ?_⟩, fun q hq => ?_⟩
    · rw [List.foldl_cons, b, l2, Int.mul_assoc]
    · rcases List.mem_cons.mp hq with z | z
      · subst z
        exact ⟨k2 * k, by rw [List.foldl_cons, b, l3, Int.mul_assoc]⟩
      · exact c q z
theorem scale_ok {ps : List (Int × Int)} (h : ∀ p ∈ ps, p.2 ≠ 0) : 0 < scaleOf ps ∧ ∀ p ∈ ps, ∃ k, scaleOf ps = p.2 * k := by
  obtain ⟨a, _, c⟩ := scale_fold ps 1 (by decide) h
  exact ⟨a, c⟩
theorem scale_snoc (ps : List (Int × Int)) (p : Int × Int) : scaleOf (ps ++ [p]) = lcmI (scaleOf ps) p.2 := by
  unfold scaleOf
  rw [List.foldl_append]
  rfl
theorem scale_le {M : Nat} : ∀ (ps : List (Int × Int)) (s : Int), 0 < s → (∀ p ∈ ps, p.2 ≠ 0 ∧ p.2.natAbs < 2 ^ M) → ps.foldl (fun s p => lcmI s p.2) s ≤ s * 2 ^ (M * ps.length)
  | [], s, _, _ => by simp
  | p :: r, s, hs, h => by
    obtain ⟨h1, h2⟩ := h p List.mem_cons_self
    obtain ⟨l1, _, _, l4⟩ := lcm_ok hs h1
    have ih := scale_le r (lcmI s p.2) l1 (fun q hq => h q (List.mem_cons_of_mem _ hq))
    rw [List.foldl_cons]
    refine Int.le_trans ih ?_
    have e : M * (p :: r).length = M + M * r.length := by
      rw [List.length_cons, Nat.mul_add]
      omega
    rw [e, Int.pow_add, ← Int.mul_assoc]
    refine Int.mul_le_mul_of_nonneg_right ?_ (Int.pow_nonneg (by decide))
    refine Int.le_trans l4 (Int.mul_le_mul_of_nonneg_left ?_ (by omega))
    have : ((p.2.natAbs : Nat) : Int) ≤ ((2 ^ M : Nat) : Int) := by omega
    simpa using this
theorem whole_q {ps : List (Int × Int)} (h : ∀ p ∈ ps, p.2 ≠ 0) : (wholeZ ps).map (fun z : Int => (z : Rat) / (scaleOf ps : Rat)) = ps.map qOf := by
  obtain ⟨h1, h2⟩ := scale_ok h
  unfold wholeZ
  rw [List.map_map]
  refine List.map_congr_left fun p hp => ?_
  obtain ⟨k, hk⟩ := h2 p hp
  have d0 := h p hp
  show (((p.1 * (scaleOf ps).fdiv p.2 : Int)) : Rat) / (scaleOf ps : Rat) = (p.1 : Rat) / (p.2 : Rat)
  rw [fdiv_is d0 hk]
  have k0 : k ≠ 0 := fun z => by
    rw [z, Int.mul_zero] at hk
    omega
  exact rat_scale (s := k) (Int.mul_comm _ _) (by rw [hk, Int.mul_comm]) k0
end RB

set_option Elab.async false
set_option linter.all false
set_option maxRecDepth 100000
set_option maxHeartbeats 2000000
namespace RB
open PySem PySem.Spec PyProof.Rows L2 SX
/-! ## what the defs over whole polynomials promise -/
def contentZ (zs : List Int) : Int := zs.foldl (fun s z => (Int.gcd s z : Int)) 0
def spLeast : Sp := fun vs H Q _ => ∃ s d : Int, vs = [.int s, .int d] ∧ 0 < s ∧ d ≠ 0 ∧ d.natAbs.log2 < 9000 ∧ s.natAbs.log2 + d.natAbs.log2 < 900000 ∧ Q (.int (lcmI s d)) H
def spTrimZ (K : PySem.W.Frag) : Sp := fun vs H Q _ => ∃ (v : V) (zs : List Int), vs = [v] ∧ At K H v (dz zs) ∧ ∀ u H', Same H H' → At K H' u (dz (trimL 0 zs)) → Q u H'
def spScaled (K : PySem.W.Frag) : Sp := fun vs H Q _ => ∃ (v : V) (zs : List Int) (f : Int), vs = [v, .int f] ∧ At K H v (dz zs) ∧ (∀ z ∈ zs, CMulW z f) ∧ ∀ u H', Same H H' → At K H' u (dz (zs.map (· * f))) → Q u H'
def spWithout (K : PySem.W.Frag) : Sp := fun vs H Q _ => ∃ (v : V) (zs : List Int) (f : Int), vs = [v, .int f] ∧ At K H v (dz zs) ∧ (zs ≠ [] → f ≠ 0 ∧ f.natAbs.log2 < 9000) ∧ ∀ u H', Same H H' → At K H' u (dz (zs.map (·.fdiv f))) → Q u H'
def spContent (K : PySem.W.Frag) : Sp := fun vs H Q _ => ∃ (v : V) (zs : List Int), vs = [v] ∧ At K H v (dz zs) ∧ Q (.int (contentZ zs)) H
def spAsPoly (K : PySem.W.Frag) : Sp := fun vs H Q _ => ∃ (v : V) (zs : List Int) (s : Int), vs = [v, .int s] ∧ At K H v (dz zs) ∧ (zs ≠ [] → s ≠ 0 ∧ s.natAbs.log2 < 9000) ∧ ∀ u H', Same H H' → At K H' u (dqs (zs.map fun z : Int => (z : Rat) / (s : Rat))) → Q u H'
theorem trim_take {zs : List Int} {m : Nat} (h : zs[m]? = some 0) : trimL 0 (zs.take (m + 1)) = trimL 0 (zs.take m) := by
  rw [List.take_add_one, h]
  exact trim_snoc _
theorem trim_done {zs : List Int} {m : Nat} {y : Int} (h : zs[m]? = some y) (hy : y ≠ 0) : trimL 0 (zs.take (m + 1)) = zs.take (m + 1) := by
  rw [List.take_add_one, h]
  exact trim_keep hy _
theorem cut_to {xs : List V} {m : Nat} (h : m ≤ xs.length) : cutV xs none (some (m : Int)) = xs.take m := by
  unfold cutV
  rw [HT.sIx_none, HT.sIx_nat, Nat.min_eq_left h, List.drop_zero, Nat.sub_zero]
theorem lcm_sizes {s d : Int} (hs : 0 < s) (hd : d ≠ 0) (h9 : d.natAbs.log2 < 9000) (hm : s.natAbs.log2 + d.natAbs.log2 < 900000) : CDivX s (Int.gcd s d : Int) ∧ CMulW (s.fdiv (Int.gcd s d : Int)) d := by
  have g1 : Int.gcd s d ≤ d.natAbs := Nat.le_of_dvd (by omega) (Int.gcd_dvd_natAbs_right s d)
  have g0 : Int.gcd s d ≠ 0 := fun z => by
    have := Int.gcd_eq_zero_iff.mp z
    exact hd this.2
  refine ⟨⟨by omega, ?_⟩, ?_⟩
  · rw [Int.natAbs_natCast]
    exact Nat.lt_of_le_of_lt (log2_mono g1) h9
  · obtain ⟨k, hk⟩ : ∃ k, s = (Int.gcd s d : Int) * k := Int.gcd_dvd_left s d
    rw [fdiv_is (by omega) hk]
    have : k.natAbs ≤ s.natAbs := by
      conv => rhs; rw [hk]
      rw [Int.natAbs_mul, Int.natAbs_natCast]
      exact Nat.le_mul_of_pos_left _ (by omega)
    have := log2_mono this
    unfold CMulW
    omega
end RB

set_option Elab.async false
set_option linter.all false
set_option maxRecDepth 100000
set_option maxHeartbeats 2000000
namespace RB
open PySem PySem.Spec PyProof.Rows L2 SX
/-! ## values of polynomials -/
def ev : List Rat → Rat → Rat
  | [], _ => 0
  | c :: r, x => c + x * ev r x
def zq (zs : List Int) : List Rat := zs.map fun z : Int => (z : Rat)
theorem ev_trim : ∀ (l : List Rat) (x : Rat), ev (trimL 0 l) x = ev l x
  | [], _ => rfl
  | c :: r, x => by
    have ih := ev_trim r x
    rw [trim_cons]
    show _ = c + x * ev r x
    by_cases e : trimL 0 r = []
    · rw [e] at ih
      have ih : (0 : Rat) = ev r x := ih
      rw [if_pos e, ← ih]
      by_cases e2 : c = 0
      · rw [if_pos e2, e2]
        show (0 : Rat) = 0 + x * 0
        grind
      · rw [if_neg e2]
        show c + x * 0 = c + x * 0
        rfl
    · rw [if_neg e]
      show c + x * ev (trimL 0 r) x = _
      rw [ih]
theorem ev_div (s x : Rat) : ∀ l : List Rat, ev (l.map (· / s)) x = ev l x / s
  | [] => by
    show (0 : Rat) = 0 / s
    grind
  | c :: r => by
    show c / s + x * ev (r.map (· / s)) x = (c + x * ev r x) / s
    rw [ev_div s x r]
    grind
theorem trim_mem {α : Type} [DecidableEq α] {z x : α} : ∀ {l : List α}, x ∈ trimL z l → x ∈ l
  | [], h => h
  | c :: r, h => by
    rw [trim_cons] at h
    split at h
    · split at h
      · cases h
      · rw [List.mem_singleton.mp h]
        exact List.mem_cons_self
    · rcases List.mem_cons.mp h with e | e
      · rw [e]
        exact List.mem_cons_self
      · exact List.mem_cons_of_mem _ (trim_mem e)
theorem rat_ne {z : Int} (h : z ≠ 0) : (z : Rat) ≠ 0 := fun e => h (Rat.intCast_eq_zero_iff.mp e)
theorem div_zero_iff {z s : Int} (hs : s ≠ 0) : (z : Rat) / (s : Rat) = 0 ↔ z = 0 := by
  constructor
  · intro h
    have := rat_ne hs
    by_cases c : z = 0
    · exact c
    · have := rat_ne c
      grind
  · intro h
    rw [h]
    have := rat_ne hs
    show (0 : Rat) / (s : Rat) = 0
    grind
/-- the value of the whole polynomial, divided by the scale, is the value of the rationals -/
theorem ev_whole {ps : List (Int × Int)} (h : ∀ p ∈ ps, p.2 ≠ 0) (x : Rat) : ev (zq (trimL 0 (wholeZ ps))) x / (scaleOf ps : Rat) = ev (ps.map qOf) x := by
  have hs : scaleOf ps ≠ 0 := by
    have := (scale_ok h).1
    omega
  rw [← whole_q h, ← ev_div]
  have e : (zq (trimL 0 (wholeZ ps))).map (· / (scaleOf ps : Rat)) = trimL 0 ((wholeZ ps).map fun z : Int => (z : Rat) / (scaleOf ps : Rat)) := by
    rw [← trim_map (fun z : Int => (z : Rat) / (scaleOf ps : Rat)) (fun a => div_zero_iff hs), zq, List.map_map]
    rfl
  rw [e, ev_trim]
end RB

set_option Elab.async false
set_option linter.all false
set_option maxRecDepth 100000
set_option maxHeartbeats 2000000
namespace RB
open PySem PySem.Spec PyProof.Rows L2 SX
/-! ## what the law's arithmetic promises -/
def SzQ (B : Nat) (q : Rat) : Prop := q.num.natAbs < 2 ^ B ∧ q.den < 2 ^ B
def spQop (K : PySem.W.Frag) (ok : Rat → Prop) (op : Rat → Rat → Rat) : Sp := fun vs H Q _ => ∃ (v u : V) (a b : Rat) (B B2 : Nat), vs = [v, u] ∧ At K H v (dq a) ∧ At K H u (dq b) ∧ SzQ B a ∧ SzQ B2 b ∧ B + B2 ≤ 8900 ∧ ok b ∧ ∀ y H', Same H H' → At K H' y (dq (op a b)) → Q y H'
theorem den_ne (q : Rat) : (q.den : Int) ≠ 0 := by
  have := q.den_nz
  omega
theorem rat_of (q : Rat) : q = (q.num : Rat) / ((q.den : Int) : Rat) := (num_den q).symm
/-- a pair made by the law's low, of whole numbers whose quotient is q -/
theorem low_q {K : PySem.W.Frag} {H : Hp} {p : Addr} {n d : Int} {q : Rat} (h : d ≠ 0) (e : (n : Rat) / (d : Rat) = q) : At K (upd H p (.tup [.int (n.fdiv (lowS n d)), .int (d.fdiv (lowS n d))])) (.ref p) (dq q) := by
  obtain ⟨e1, e2⟩ := low_rat (n := n) h
  rw [e] at e1 e2
  refine dq_at ?_
  rw [← e1, ← e2]
  exact upd_same
theorem plus_q (a b : Rat) : (((a.num * (b.den : Int) + b.num * (a.den : Int) : Int)) : Rat) / (((a.den : Int) * (b.den : Int) : Int) : Rat) = a + b := by
  have h1 := rat_ne (den_ne a)
  have h2 := rat_ne (den_ne b)
  rw [Rat.intCast_add, Rat.intCast_mul, Rat.intCast_mul, Rat.intCast_mul]
  conv => rhs; rw [rat_of a, rat_of b]
  grind
theorem minus_q (a b : Rat) : (((a.num * (b.den : Int) - b.num * (a.den : Int) : Int)) : Rat) / (((a.den : Int) * (b.den : Int) : Int) : Rat) = a - b := by
  have h1 := rat_ne (den_ne a)
  have h2 := rat_ne (den_ne b)
  rw [Rat.intCast_sub, Rat.intCast_mul, Rat.intCast_mul, Rat.intCast_mul]
  conv => rhs; rw [rat_of a, rat_of b]
  grind
theorem times_q (a b : Rat) : (((a.num * b.num : Int)) : Rat) / (((a.den : Int) * (b.den : Int) : Int) : Rat) = a * b := by
  have h1 := rat_ne (den_ne a)
  have h2 := rat_ne (den_ne b)
  rw [Rat.intCast_mul, Rat.intCast_mul]
  conv => rhs; rw [rat_of a, rat_of b]
  grind
theorem num_ne {q : Rat} (h : q ≠ 0) : q.num ≠ 0 := fun z => h (Rat.num_eq_zero.mp z)
theorem over_q {a b : Rat} (hb : b ≠ 0) : (((a.num * (b.den : Int) : Int)) : Rat) / (((a.den : Int) * b.num : Int) : Rat) = a / b := by
  have h1 := rat_ne (den_ne a)
  have h2 := rat_ne (den_ne b)
  have h3 := rat_ne (num_ne hb)
  rw [Rat.intCast_mul, Rat.intCast_mul]
  conv => rhs; rw [rat_of a, rat_of b]
  grind
theorem sz_pos {B : Nat} {x : Int} (hx : x.natAbs < 2 ^ B) : x.natAbs.log2 ≤ B := by
  have := log2_mono (Nat.le_of_lt hx)
  rw [Nat.log2_two_pow] at this
  exact this
theorem sz_mul {B B2 : Nat} {x y : Int} (hx : x.natAbs < 2 ^ B) (hy : y.natAbs < 2 ^ B2) (hB : B + B2 ≤ 8900) : CMulW x y ∧ (x * y).natAbs.log2 < 9000 := by
  have a := sz_pos hx
  have b := sz_pos hy
  refine ⟨by unfold CMulW; omega, ?_⟩
  have : (x * y).natAbs < 2 ^ (B + B2) := wide_lt hx hy
  have := sz_pos this
  omega
/-- the sizes of what comes out -/
theorem sz_low {n d : Int} {B : Nat} {q : Rat} (h : d ≠ 0) (e : (n : Rat) / (d : Rat) = q) (hn : n.natAbs < 2 ^ B) (hd : d.natAbs < 2 ^ B) : SzQ B q := by
  obtain ⟨e1, e2⟩ := low_rat (n := n) h
  rw [e] at e1 e2
  have ll := low_le (n := n) h
  refine ⟨?_, ?_⟩
  · rw [← e1]
    exact Nat.lt_of_le_of_lt ll.1 hn
  · have : q.den = (lowD n d).natAbs := by
      rw [e2]
      rfl
    rw [this]
    exact Nat.lt_of_le_of_lt ll.2 hd
theorem sz_times {B B2 : Nat} {a b : Rat} (ha : SzQ B a) (hb : SzQ B2 b) : SzQ (B + B2) (a * b) :=
  sz_low (Int.mul_ne_zero (den_ne a) (den_ne b)) (times_q a b) (wide_lt ha.1 hb.1) (wide_lt (i := (a.den : Int)) (j := (b.den : Int)) ha.2 hb.2)
theorem sz_plus {B B2 : Nat} {a b : Rat} (ha : SzQ B a) (hb : SzQ B2 b) : SzQ (B + B2 + 1) (a + b) := by
  have h1 : (a.num * (b.den : Int)).natAbs < 2 ^ (B + B2) := wide_lt (j := (b.den : Int)) ha.1 hb.2
  have h2 : (b.num * (a.den : Int)).natAbs < 2 ^ (B + B2) := by
    rw [Nat.add_comm]
    exact wide_lt (j := (a.den : Int)) hb.1 ha.2
  have h3 : ((a.den : Int) * (b.den : Int)).natAbs < 2 ^ (B + B2) := wide_lt (i := (a.den : Int)) (j := (b.den : Int)) ha.2 hb.2
  refine sz_low (Int.mul_ne_zero (den_ne a) (den_ne b)) (plus_q a b) ?_ ?_
  · have := Int.natAbs_add_le (a.num * (b.den : Int)) (b.num * (a.den : Int))
    rw [Nat.pow_succ]
    omega
  · rw [Nat.pow_succ]
    omega
end RB

set_option Elab.async false
set_option linter.all false
set_option maxRecDepth 100000
set_option maxHeartbeats 2000000
namespace RB
open PySem PySem.Spec PyProof.Rows L2 SX
/-! ## a comprehension whose element may raise -/
theorem frames_hide {h B B2 : Heap} (k : ∀ b, B.get? b = none → B2.get? b = none) : ∀ {l : List Env}, h.FunFrames B l → h.FunFrames B2 l
  | [], _ => trivial
  | _ :: _, ⟨a, ⟨L, o, e1, e2, e3, e4⟩, r⟩ => ⟨a, ⟨L, o, e1, k L e2, e3, e4⟩, frames_hide k r⟩
theorem ns_ne {h : Heap} {C a : Addr} {m : Str → Option Value} {o : Obj} {vs : Array Value} (hn : h.Ns C m) (ha : h.get? a = some o) (hd : o.data = .fields vs) : a ≠ C := by
  intro e
  obtain ⟨oL, es, ep, h1, h2, _⟩ := hn
  rw [e, h1] at ha
  cases ha
  rw [h2] at hd
  cases hd
theorem comp_fails {X : Cx} {E : XK} {scope : Scope} {fp : List Addr} {s3 sb s' : Shared} {H3 Hb : Hp} {ce : Env} {pins pinsb : List (Addr × Obj)} {σ σb : L2.St} {u : Value}
    (hs : X.stack = X.env :: X.outer) (hf : X.env.frame = some X.env.locals) (tk : L2.Takes X (fun cls d _ H => E cls d H)) (I3 : Inv X pins σ H3 s3) (f3 : ∀ b ∈ fp, FpOk X pins H3 b) (hce : ce.locals = s3.heap.objs.size) (hcf : ce.frame = X.env.frame)
    (I : Inv (X.blk s3 H3 scope ce fp) pinsb σb Hb sb) (c : L2.CX X.prog X.w X.stack Hb sb E u s') :
    notedBy (model X.prog X.w) X.A ce (CompFails (model X.prog X.w) X.A X.xe ce) u s' := by
  have x := XE.of_call (W := fun cls d _ H => E cls d H) I (fun _ _ _ h => h) c
  obtain ⟨a, _, _, _, _, rfl, fl, _⟩ := c
  obtain ⟨a', B, sI, pI, σI, HI, cls, d, e1, J, nb, up, sky, na, os, ag, w⟩ := x
  cases e1
  obtain ⟨_, _, _, oe0, vs0, T0, oT0, ts0, g1, _, g2, g3, _, _, g4, g5, g6⟩ := fl
  have fl2 : HandSPX.FlyingZ B X.stack a (Zc cls d) s'.heap := by
    rcases sky with ⟨_, _, _, oe, vs, he, _, hd, h1⟩ | z | z
    · rw [g1] at he
      cases he
      rw [g2] at hd
      cases hd
      rw [g3] at h1
      cases h1
    · exact z
    · obtain ⟨_, _, _, oe, vs, T, oT, ts, he, _, hd, h1, _, _, hT, hdT, h3⟩ := z
      rw [g1] at he
      cases he
      rw [g2] at hd
      cases hd
      rw [g3] at h1
      cases h1
      rw [g4] at hT
      cases hT
      rw [g5] at hdT
      cases hdT
      rw [g6] at h3
      cases h3
  show wpAny _ _ (noteFrame (.ref a) ce) _ _ s'
  rw [noteFrame_env _ hcf]
  have hfr : X.A.frames = some (X.env :: X.outer) := by rw [I3.ok.frames, hs]
  rw [hs] at fl2
  refine HandSPX.looks_onZ Zc.steady hfr hf fl2 (fun h1 hH up1 => ?_)
  obtain ⟨m, hn, _⟩ := J.loc
  have hn1 : h1.Ns ce.locals m := (Heap.Ns.upToSlots (Heap.Ns.upToSlots hn up) up1)
  refine ⟨m, hn1, fun h2 m2 hn2 sb2 => ?_⟩
  obtain ⟨st1, nB, ff1, oe, vs, T, oT, ts, he, hz, hd, hv1, hnT, hTe, hT, hdT, hv3⟩ := hH
  have other : ∀ b, (PySem.W.hideAll B [ce.locals]).get? b = none ∨ (PySem.W.hideAll B [ce.locals]).get? b = B.get? b := fun b => by
    by_cases q : b = ce.locals
    · exact .inl (PySem.W.hideAll_none _ (by simp [q]))
    · cases e : B.get? b with
      | none =>
        cases e2 : (PySem.W.hideAll B [ce.locals]).get? b with
        | none => exact .inl rfl
        | some o =>
          have := PySem.W.of_hideAll _ e2
          rw [e] at this
          cases this
      | some o => exact .inr (PySem.W.hideAll_get _ e (by simp [q]))
  have hide : ∀ b, B.get? b = none → (PySem.W.hideAll B [ce.locals]).get? b = none := fun b e => by
    rcases other b with z | z
    · exact z
    · rw [z, e]
  have aC := ns_ne hn1 he hd
  have TC := ns_ne hn1 hT hdT
  have he2 := (sb2.2 a aC).trans he
  have hT2 := (sb2.2 T TC).trans hT
  have held : HandSPX.HeldZ (PySem.W.hideAll B [ce.locals]) (X.env :: X.outer) a (Zc cls d) X.env.locals h2 := by
    refine ⟨fun b o e => ?_, hide a nB, frames_hide hide (Heap.FunFrames.sameBut sb2 hn2 ff1), oe, vs, T, oT, ts, he2, hz, hd, hv1, hide T hnT, hTe, hT2, hdT, hv3⟩
    have bC : b ≠ ce.locals := fun q => by
      rw [PySem.W.hideAll_none _ (by simp [q])] at e
      cases e
    exact (sb2.2 b bC).trans (st1 b o (PySem.W.of_hideAll _ e))
  unfold PySem.passOn
  refine wpAny_bind (wpAny_field he2 hd hv1 ?_)
  rw [if_neg (by simp), hcf, hf]
  refine wpAny_bind (HandSPX.setFlight_onZ held fun h3 hH3 up3 => wpAny_throw (tk _ _ ?_))
  have J2 : Inv X pins σ HI sI := I3.call' (ch := fp) J.os J.base J.hok J.bare fun b hb => ⟨(f3 b hb).2.2.2.1, (f3 b hb).2.1, (f3 b hb).2.2.2.2.1, (f3 b hb).2.2.2.2.2⟩
  have nC : HI ce.locals = none := J.free
  obtain ⟨p0, p1, _, p3, p4, p5⟩ := I3.fpOk (b := ce.locals) (Nat.le_of_eq hce.symm) nC
  rw [← hs] at hH3
  refine ⟨a, PySem.W.hideAll B [ce.locals], { sI with heap := PySem.W.hideAll sI.heap [ce.locals] }, pins, σ, HI, cls, d, rfl, J2.turned (t' := sI.toks) (fun b o hb e => PySem.W.hideAll_get _ e (by simp [hb])) p0 p1 p3 p4 p5, fun b o e hb => ?_, fun b o e hnf => ?_, .inr (.inr hH3), na, os, ag, w⟩
  · have bC : b ≠ ce.locals := fun q => by
      have e' : (PySem.W.hideAll sI.heap [ce.locals]).get? b = some o := e
      rw [PySem.W.hideAll_none _ (by simp [q])] at e'
      cases e'
    exact PySem.W.hideAll_get _ (nb b o (PySem.W.of_hideAll _ e) hb) (by simp [bC])
  · have e' : (PySem.W.hideAll sI.heap [ce.locals]).get? b = some o := e
    have bC : b ≠ ce.locals := fun q => by
      rw [PySem.W.hideAll_none _ (by simp [q])] at e'
      cases e'
    obtain ⟨x1, y1⟩ := up b o (PySem.W.of_hideAll _ e') hnf
    obtain ⟨x2, y2⟩ := up1 b _ y1 hnf
    have y3 := (sb2.2 b bC).trans y2
    obtain ⟨x3, y4⟩ := up3 b _ y3 hnf
    exact ⟨x3, y4⟩
/-- what the element of the block may let out -/
def blkXe (X : Cx) (s3 : Shared) (H3 : Hp) (scope : Scope) (ce : Env) (fp : List Addr) (E : XK) : Value → Shared → Prop := fun u s' => ∃ pinsb σb Hb sb, Inv (X.blk s3 H3 scope ce fp) pinsb σb Hb sb ∧ L2.CX X.prog X.w X.stack Hb sb E u s'
/-- the block's context, with that wish -/
abbrev blkX (X : Cx) (s3 : Shared) (H3 : Hp) (scope : Scope) (ce : Env) (fp : List Addr) (E : XK) : Cx := (X.blk s3 H3 scope ce fp).wish (blkXe X s3 H3 scope ce fp E)
theorem passes_blk {X : Cx} {s3 : Shared} {H3 : Hp} {scope : Scope} {ce : Env} {fp : List Addr} {E : XK} : Passes (L2.CX X.prog X.w) (blkX X s3 H3 scope ce fp E) E :=
  fun pins σ H s e s' I c => ⟨pins, σ, H, s, I.unwish, c⟩
/-- the loop of such a block -/
theorem lcx_loop {X : Cx} {E : XK} {scope : Scope} {own : List (Str × Nat)} {fp : List Addr} {it D : Addr} {tn : Nat → Heap → Prop} {J : It} {tg elt iter : Expr} {pos : Pos} {g : TG} {te : TE} {s3 s4 : Shared} {H3 : Hp} {ce : Env} {pins : List (Addr × Obj)} {σ : L2.St} {Q : VK} {use : Option (Value → Sem Unit)} {Qf : Value → Shared → Prop} {W : Nat → Nat → Hp → Prop} {m0 : Nat}
    (hc : X.calm = true) (hs : X.stack = X.env :: X.outer) (hf : X.env.frame = some X.env.locals) (tk : L2.Takes X (fun cls d _ H => E cls d H)) (I3 : Inv X pins σ H3 s3) (f3 : ∀ b ∈ fp, FpOk X pins H3 b) (hce : ce.locals = s3.heap.objs.size) (hcf : ce.frame = X.env.frame)
    (T : Turn X.prog X.w X.K tg J fp it tn) (I4 : Inv (X.blk s3 H3 scope ce fp) [] (wipe σ (own.map (·.2))) H3 s4) (st4 : tn 0 s4.heap) (pg : PG (X.blk s3 H3 scope ce fp) tg g) (pe : PE (blkX X s3 H3 scope ce fp E) elt te) (w0 : W 0 m0 H3)
    (turn : ∀ i m H, W i m H → (J.stop i H ∧ Q (.ref D) H) ∨ (J.go i H ∧ ∃ Nx : Hp → Prop, (∀ H', Nx H' → ∃ m', m' < m ∧ W (i + 1) m' H') ∧ ∀ x H', J.yld i H x H' → g x (wipe σ (own.map (·.2))) H' fun σ2 H2 => wipe σ2 (own.map (·.2)) = wipe σ (own.map (·.2)) ∧ tYes σ2 H2 fun b H3 =>
      if b = true then te σ2 H3 fun y H4 => ∃ acc, H4 D = some (.lst acc) ∧ acc.length < sizeLine ∧ Nx (upd H4 D (.lst (acc ++ [y]))) else Nx H3))
    (hRR : ∀ s' m H', Inv X pins σ H' s' → Q (.ref D) H' → s'.heap.Ns ce.locals m → FpOk X pins H' ce.locals → compEnds (model X.prog X.w) X.A X.xe use Qf (.ref D) ce (.ok .next) s') :
    codeAny (model X.prog X.w) X.A (.compLoop (.ListComp elt [⟨tg, iter, [], 0⟩] scope pos) 0 (.ref it) (.ref D) ce) (compEnds (model X.prog X.w) X.A X.xe use Qf (.ref D) ce) s4 := by
  have err : ∀ u s', blkXe X s3 H3 scope ce fp E u s' → notedBy (model X.prog X.w) X.A ce (fun e s'' => compEnds (model X.prog X.w) X.A X.xe use Qf (.ref D) ce (.error e) s'') u s' := by
    rintro u s' ⟨pb, σb, Hb, sb, I, c⟩
    have z := comp_fails hs hf tk I3 f3 hce hcf I c
    cases use <;> exact z
  have away : ∀ {σ' : L2.St} {H' : Hp} {s' : Shared}, Inv (X.blk s3 H3 scope ce fp) [] σ' H' s' → (∀ b ∈ fp, H' b = none) → ∀ b ∈ fp, FpOk (X.blk s3 H3 scope ce fp) [] H' b := fun I' hn b hb =>
    ⟨hn b hb, (I'.ok.exf b hb).1, I'.ok.exfs b hb, .inl hb, (I'.ok.exf b hb).2, fun p hp => absurd (show p ∈ ([] : List (Addr × Obj)) ++ [] from hp) (by simp)⟩
  refine compLoop_any (fun n s' => ∃ i H', Inv (X.blk s3 H3 scope ce fp) [] (wipe σ (own.map (·.2))) H' s' ∧ tn i s'.heap ∧ (∀ b ∈ fp, H' b = none) ∧ W i n H') (fun n sA hA => ?_) m0 ⟨0, H3, I4, st4, fun b hb => (f3 b hb).1, w0⟩
  obtain ⟨i, HA, IA, stA, nA, wA⟩ := hA
  rcases turn i n HA wA with ⟨stop, fin⟩ | ⟨go, Nx, less, step⟩
  · refine thnF (T.done (X.blk s3 H3 scope ce fp) rfl rfl rfl hc i [] sA _ HA (fun _ _ => False) IA (away IA nA) stA stop) fun r sB hB => ?_
    obtain ⟨rfl, IB⟩ := hB
    obtain ⟨mB, nsB, _⟩ := IB.loc
    exact hRR sB mB HA (I3.call' (ch := fp) IB.os IB.base IB.hok IB.bare fun b hb => ⟨(f3 b hb).2.2.2.1, (f3 b hb).2.1, (f3 b hb).2.2.2.2.1, (f3 b hb).2.2.2.2.2⟩) fin nsB (I3.fpOk (Nat.le_of_eq hce.symm) IB.free)
  · refine thnF (T.item (X.blk s3 H3 scope ce fp) rfl rfl rfl hc i [] sA _ HA (fun _ _ => False) IA (away IA nA) stA go) fun r sB hB => ?_
    obtain ⟨v, rfl, hB⟩ := hB
    refine thnF hB fun _ sC hC => ?_
    obtain ⟨x, HC, IC, rC, yC, stC, nC⟩ := hC
    refine thnF (pg.run _ sC _ HC x v _ (IC.pinned (away IC nC) (T.obj _ _ stC)) rC (step x HC yC)) fun _ sD hD => ?_
    obtain ⟨σD, HD, ID, eD, qD⟩ := hD
    refine wpAny_tests_nil ?_
    have qD : te σD HD fun y H4 => ∃ acc, H4 D = some (.lst acc) ∧ acc.length < sizeLine ∧ Nx (upd H4 D (.lst (acc ++ [y]))) := by simpa [tYes] using qD
    rw [if_pos rfl]
    refine wpAny_mono (pe.run _ sD σD HD _ (ID.wish _) qD) (fun z sE hE => ?_) fun u s' hx => err u s' hx
    obtain ⟨y, HE, IE, rE, acc, hl, hz, nx⟩ := hE
    refine app_ok (X := X.blk s3 H3 scope ce fp) IE.unwish hl hz rE fun sF IF => ?_
    obtain ⟨m', lt, wF⟩ := less _ nx
    have old : ∀ b ∈ fp, ∀ o, sC.heap.get? b = some o → sF.heap.get? b = some o ∧ upd HE D (.lst (acc ++ [y])) b = none := fun b hb o e =>
      let z := IF.pin (b, o) (List.mem_append_right _ (List.mem_append_right _ (mem_pinsAt hb e)))
      ⟨z.1, z.2.1⟩
    refine ⟨m', lt, i + 1, _, (IF.unpinned (pins := [])).weak (by rw [← eD, wipe_length]) (fun j v e => ?_), T.keep _ _ _ stC fun b hb o e => (old b hb o e).1, fun b hb => ?_, wF⟩
    · rw [← eD] at e
      exact (wipe_some e).1
    · obtain ⟨o, e, _⟩ := T.obj _ _ stC b hb
      exact (old b hb o e).2
theorem lcx_core {X : Cx} {E : XK} {pins : List (Addr × Obj)} {s : Shared} {σ : L2.St} {H : Hp} {Q : VK} {elt tg iter : Expr} {scope : Scope} {own : List (Str × Nat)} {pos pos' : Pos} {wi : TI} {g : TG} {te : TE} {use : Option (Value → Sem Unit)} {Qf : Value → Shared → Prop}
    (hc : X.calm = true) (hN : X.N.Nodup) (hs : X.stack = X.env :: X.outer) (hf : X.env.frame = some X.env.locals) (tk : L2.Takes X (fun cls d _ H => E cls d H)) (I : Inv X pins σ H s) (hi : PI X tg iter wi) (ok : BlkOk X.N X.env.scope scope own)
    (hg : ∀ (s : Shared) (H : Hp) (C : Addr) (cl : List (Str × Addr)) (fp : List Addr), PG (X.blk s H scope (compEnvC scope cl C X.env) fp) tg g)
    (he : ∀ (s : Shared) (H : Hp) (C : Addr) (cl : List (Str × Addr)) (fp : List Addr), PE (blkX X s H scope (compEnvC scope cl C X.env) fp E) elt te) (hfold : ∀ x, foldedSetIterable iter X.env x = pure x)
    (h : tLc wi g tYes te (own.map (·.2)) σ H Q)
    (hRR : ∀ D ce s' m H', Inv X pins σ H' s' → Q (.ref D) H' → s'.heap.Ns ce.locals m → FpOk X pins H' ce.locals → compEnds (model X.prog X.w) X.A X.xe use Qf (.ref D) ce (.ok .next) s') :
    wpAny (model X.prog X.w) X.A (comprehension (.ListComp elt [⟨tg, iter, [], 0⟩] scope pos) scope X.env pos' (newList []) false (eval iter X.env) use) Qf X.xe s := by
  have free : ∀ y ∈ scope.names, y.2 = .free → ∃ c, X.env.cells.lookup y.1 = some c := fun y hy e => (ok.free y hy e).elim (fun k => I.ok.has _ (.inl k)) fun k => I.ok.has _ (.inr k)
  refine comprehension_at (use := use) rfl hfold (closure_ok free) ok.kind (fun y hy e => by rw [ok.uniq y hy, e]) ?_
  refine thn (hi.run pins s σ H _ I h) fun _ s1 hx => thn hx fun itv s2 h2 => ?_
  obtain ⟨it, fp, tn, J, H2, rfl, I2, T, st2, f2, q⟩ := h2
  refine wpAny_newObj_type (newEnv_comp ?_) (Nat.zero_le _)
  have nD : H2 s2.heap.objs.size = none := I2.hok.fresh (Nat.le_refl _)
  obtain ⟨W, ⟨m0, w0⟩, turn⟩ := q s2.heap.objs.size nD
  have I3 : Inv X pins σ (upd H2 s2.heap.objs.size (.lst [])) { s2 with heap := s2.heap.push { cls := .type "list", data := .seq ([] : List Value).toArray } } :=
    I2.laid (t' := s2.toks) (fun b o e => Heap.get?_push_of_some _ e) (Nat.le_refl _) ⟨Nat.zero_le _, [], 0, .nil, Heap.get?_push_size _ rfl⟩
  have small : ∀ b ∈ fp, b < s2.heap.objs.size := fun b hb => by
    obtain ⟨o, e, _⟩ := T.obj _ _ st2 b hb
    exact Heap.lt_size e
  have f3 : ∀ b ∈ fp, FpOk X pins (upd H2 s2.heap.objs.size (.lst [])) b := fun b hb => by
    refine ⟨?_, (f2 b hb).2⟩
    rw [upd_ne (Nat.ne_of_lt (small b hb))]
    exact (f2 b hb).1
  have I4 := block_start I3 ok hN (fp := fp) fun b hb => ⟨f3 b hb, by rw [Heap.size_push]; exact Nat.lt_succ_of_lt (small b hb)⟩
  have st4 := T.keep _ _ (pushCells ((s2.heap.push { cls := .type "list", data := .seq ([] : List Value).toArray }).push { cls := .type "dict", data := .dict #[] }) scope.names) st2 fun b _ o e => pushCells_keeps _ _ _ _ (Heap.get?_push_of_some _ (Heap.get?_push_of_some _ e))
  have loop := lcx_loop (ce := compEnvC scope (cellsFrom ((s2.heap.push { cls := .type "list", data := .seq ([] : List Value).toArray }).objs.size + 1) scope.names (cloFrom X.env.cells scope.names [])) (s2.heap.push { cls := .type "list", data := .seq ([] : List Value).toArray }).objs.size X.env) (iter := iter) (pos := pos) (use := use) (Qf := Qf) hc hs hf tk I3 f3 rfl rfl T I4 st4 (hg _ _ _ _ fp) (he _ _ _ _ fp) w0 turn (fun s' m H' a b c d => hRR _ _ s' m H' a b c d)
  exact codeAny_compStart_list loop (T.self X.A 0 _ _ _ st4 loop)
/-- name = [..], the element raising -/
theorem ps_setLcX {X : Cx} {E : XK} {i : Nat} {y : Str} {py : Pos} {elt tg iter : Expr} {scope : Scope} {own : List (Str × Nat)} {pos spos : Pos} {wi : TI} {g : TG} {te : TE} (hc : X.calm = true) (hN : X.N.Nodup) (hy : X.N[i]? = some y) (hyl : X.env.scope.names.lookup y = some .local)
    (hsw : swapsWith (.ListComp elt [⟨tg, iter, [], 0⟩] scope pos) (some (.Name y py)) spos.line X.env = pure true) (hs : X.stack = X.env :: X.outer) (hf : X.env.frame = some X.env.locals) (tk : L2.Takes X (fun cls d _ H => E cls d H)) (hi : PI X tg iter wi) (ok : BlkOk X.N X.env.scope scope own)
    (hg : ∀ (s : Shared) (H : Hp) (C : Addr) (cl : List (Str × Addr)) (fp : List Addr), PG (X.blk s H scope (compEnvC scope cl C X.env) fp) tg g)
    (he : ∀ (s : Shared) (H : Hp) (C : Addr) (cl : List (Str × Addr)) (fp : List Addr), PE (blkX X s H scope (compEnvC scope cl C X.env) fp E) elt te) (hfold : ∀ x, foldedSetIterable iter X.env x = pure x := by intro _; rfl) :
    PS X (.Assign [.Name y py] (.ListComp elt [⟨tg, iter, [], 0⟩] scope pos) spos) (tAsg (tLc wi g tYes te (own.map (·.2))) (gName i)) := by
  refine ⟨fun pins s σ H D I h => ?_⟩
  rw [exec_Assign_Name_used _ _ _ _ hsw]
  refine wpAny_bind (wpAny_standAt (wpAny_bind ?_))
  show wpAny _ X.A (do let _ ← comprehension (.ListComp elt [⟨tg, iter, [], 0⟩] scope pos) scope X.env (firstIterPos [⟨tg, iter, [], 0⟩] pos) (newList []) false (eval iter X.env) (some (assign (.Name y py) X.env))) _ _ s
  have core := lcx_core (pos := pos) (pos' := firstIterPos [⟨tg, iter, [], 0⟩] pos) (use := some (assign (.Name y py) X.env)) (Q := fun x H1 => gName i x σ H1 D.nx) (Qf := fun _ s' => SP X pins D .next s') hc hN hs hf tk I hi ok hg he hfold h fun L ce s' m H' I' q hn f => ?_
  · exact wpAny_bind (thn core fun _ s' hq => wpAny_pure (wpAny_pure hq))
  · show wpAny _ _ (assign (.Name y py) X.env (.ref L)) _ _ _
    refine wpAny_assign_Name (store_ok2 (v := V.ref L) I' hN hy (.inl hyl) rfl (fun s2 I2 hst => ?_) (.inr hyl))
    obtain ⟨a, sb, ha⟩ := hst
    have ne : ce.locals ≠ a := ha.elim (fun z => by rw [z]; exact f.2.1) fun z e => f.2.2.2.2.1 y a z e.symm
    exact ⟨m, hn.sameBut sb ne, fun h3 sb3 => ⟨_, H', I2.turned (t' := s2.toks) (fun b o hb e => (sb3.2 b hb).trans e) f.1 f.2.1 f.2.2.2.1 f.2.2.2.2.1 f.2.2.2.2.2, q⟩⟩
end RB

set_option Elab.async false
set_option linter.all false
set_option maxRecDepth 100000
set_option maxHeartbeats 2000000
namespace RB
open PySem PySem.Spec PyProof.Rows L2 SX
theorem lc_zips {K : PySem.W.Frag} {a b : Addr} {xs ys : List V} {g : TG} {tt : L2.TT} {te : TE} {vs : List Nat} {σ : L2.St} {H1 : Hp} {D : Addr} {Qd : Hp → Prop} (ds : List Dat) (hxy : xs.length = ys.length) (hl : ds.length = xs.length) (hn : ds.length ≤ 100000) (ht : tupDs ds = true) (nD : H1 D = none) (ha : H1 a = some (.lst xs)) (hb : H1 b = some (.lst ys))
    (hs : ∀ (i : Nat) (x y : V) (d : Dat) (T : Addr) (H' : Hp) (k : VK) (e : Hp → Prop), xs[i]? = some x → ys[i]? = some y → ds[i]? = some d → Same H1 H' → H' T = none → (∀ z H4, Same (upd H' T (.tup [x, y])) H4 → At K H4 z d → k z H4) → g (.ref T) (wipe σ vs) (upd H' T (.tup [x, y])) fun σ2 H2 => wipe σ2 vs = wipe σ vs ∧ tt σ2 H2 fun b H3 => if b = true then te σ2 H3 k else e H3)
    (hd : ∀ H', Same H1 H' → At K H' (.ref D) (.lst ds) → Qd H') :
    ∃ W : Nat → Nat → Hp → Prop, (∃ m, W 0 m (upd H1 D (.lst []))) ∧ ∀ i m H, W i m H →
      ((Itz K a b).stop i H ∧ Qd H) ∨ ((Itz K a b).go i H ∧ ∃ Nx : Hp → Prop, (∀ H', Nx H' → ∃ m', m' < m ∧ W (i + 1) m' H') ∧ ∀ x H', (Itz K a b).yld i H x H' → g x (wipe σ vs) H' fun σ2 H2 => wipe σ2 vs = wipe σ vs ∧ tt σ2 H2 fun b H3 =>
        if b = true then te σ2 H3 fun y H4 => ∃ acc, H4 D = some (.lst acc) ∧ acc.length < sizeLine ∧ Nx (upd H4 D (.lst (acc ++ [y]))) else Nx H3) := by
  refine lc_pairs (xs := xs) (ys := ys) hxy (fun i H' => Same H1 H' ∧ ∃ zs, H' D = some (.lst zs) ∧ AtAll K H' zs (ds.take i)) ⟨upd_new nD, [], upd_same, .nil⟩ (fun i H' p hi => ?_) (fun H' p => ?_) (fun i H' v' H2 p hi yl => ?_) (fun i x y T H' hx hy p nT => ?_) (fun H' p => ?_)
  · exact ⟨xs, ys, xs[i], ys[i], .inl (.inl (p.1 _ _ ha)), .inl (.inl (p.1 _ _ hb)), List.getElem?_eq_getElem hi, List.getElem?_eq_getElem (by omega)⟩
  · exact ⟨xs, ys, .inl (.inl (p.1 _ _ ha)), .inl (.inl (p.1 _ _ hb)), .inl (Nat.le_refl _)⟩
  · obtain ⟨T', x, y, e1, e2, e3, f1, f2⟩ := yl
    exact ⟨T', x, y, e1, e2, e3, f1 _ (.inl (.inl (p.1 _ _ ha))), f2 _ (.inl (.inl (p.1 _ _ hb)))⟩
  · obtain ⟨s1, zs, hD, hA⟩ := p
    have hi : i < xs.length := (List.getElem?_eq_some_iff.mp hx).1
    have ed : ds[i]? = some ds[i] := List.getElem?_eq_getElem (by omega)
    refine hs i x y ds[i] T H' _ _ hx hy ed s1 nT fun z H4 s4 hz => ?_
    have s5 : Same H' H4 := (upd_new nT).trans s4
    have lz : zs.length = i := by
      rw [hA.length, List.length_take]
      omega
    refine ⟨zs, s5 _ _ hD, by rw [sizeLine_eq]; omega, fun b o eb => ?_, zs ++ [z], upd_same, ?_⟩
    · rw [upd_ne (ne_of_none eb nD)]
      exact s5 _ _ (s1 _ _ eb)
    · rw [List.take_add_one, ed]
      refine (AtAll.tups (tups_upd (s5 _ _ hD)) (tupDs_take ht) (hA.same s5)).app (.cons ?_ .nil)
      exact At.tups (tups_upd (s5 _ _ hD)) (tupDs_all.mp ht _ (List.mem_of_getElem? ed)) hz
  · obtain ⟨s1, zs, hD, hA⟩ := p
    rw [← hl, List.take_length] at hA
    exact hd H' s1 (.lst hD (by rw [hA.length]; exact hn) hA)
/-- the longer of two lists sets the length -/
def padZ (n : Nat) (l : List Int) : List Int := l ++ List.replicate (n - l.length) 0
def subZ (a b : List Int) : List Int := List.zipWith (· - ·) (padZ (max a.length b.length) a) (padZ (max a.length b.length) b)
def spDiff (K : PySem.W.Frag) : Sp := fun vs H Q _ => ∃ (v u : V) (a b : List Int), vs = [v, u] ∧ At K H v (dz a) ∧ At K H u (dz b) ∧ a.length ≤ 1000 ∧ b.length ≤ 1000 ∧ ∀ y H', Same H H' → At K H' y (dz (trimL 0 (subZ a b))) → Q y H'
theorem pad_len {n : Nat} {l : List Int} (h : l.length ≤ n) : (padZ n l).length = n := by
  unfold padZ
  rw [List.length_append, List.length_replicate]
  omega
theorem rep_flat (k : Nat) : (List.replicate k [V.int 0]).flatten = List.replicate k (V.int 0) := by
  induction k with
  | zero => rfl
  | succ n ih => rw [List.replicate_succ, List.flatten_cons, ih, List.replicate_succ]; rfl
theorem pad_map (l : List Int) (k : Nat) : l.map V.int ++ (List.replicate k [V.int 0]).flatten = (l ++ List.replicate k 0).map V.int := by
  rw [rep_flat, List.map_append, List.map_replicate]
end RB

set_option Elab.async false
set_option linter.all false
set_option maxRecDepth 100000
set_option maxHeartbeats 2000000
namespace RB
open PySem PySem.Spec PyProof.Rows L2 SX
/-! ## sums, products and shifts of whole polynomials, by their values -/
def pw (x : Rat) : Nat → Rat
  | 0 => 1
  | n + 1 => x * pw x n
theorem ev_scale (f : Int) (x : Rat) : ∀ l : List Int, ev (zq (l.map (· * f))) x = (f : Rat) * ev (zq l) x
  | [] => by
    show (0 : Rat) = _ * 0
    grind
  | c :: r => by
    show ((c * f : Int) : Rat) + x * ev (zq (r.map (· * f))) x = (f : Rat) * ((c : Rat) + x * ev (zq r) x)
    rw [ev_scale f x r, Rat.intCast_mul]
    grind
theorem ev_zeros (x : Rat) : ∀ (n : Nat) (l : List Int), ev (zq (List.replicate n 0 ++ l)) x = pw x n * ev (zq l) x
  | 0, l => by
    show ev (zq l) x = 1 * _
    grind
  | n + 1, l => by
    show ((0 : Int) : Rat) + x * ev (zq (List.replicate n 0 ++ l)) x = x * pw x n * ev (zq l) x
    rw [ev_zeros x n l]
    grind
theorem ev_pad (x : Rat) (n : Nat) : ∀ l : List Int, ev (zq (l ++ List.replicate n 0)) x = ev (zq l) x
  | [] => by
    have := ev_zeros x n []
    rw [List.append_nil] at this
    show ev (zq (List.replicate n 0)) x = 0
    rw [this]
    show _ * (0 : Rat) = 0
    grind
  | c :: r => by
    show (c : Rat) + x * ev (zq (r ++ List.replicate n 0)) x = (c : Rat) + x * ev (zq r) x
    rw [ev_pad x n r]
theorem ev_zip (x : Rat) : ∀ a b : List Int, a.length = b.length → ev (zq (List.zipWith (· - ·) a b)) x = ev (zq a) x - ev (zq b) x
  | [], [], _ => by
    show (0 : Rat) = 0 - 0
    grind
  | c :: r, d :: t, h => by
    show ((c - d : Int) : Rat) + x * ev (zq (List.zipWith (· - ·) r t)) x = ((c : Rat) + x * ev (zq r) x) - ((d : Rat) + x * ev (zq t) x)
    rw [ev_zip x r t (by simpa using h), Rat.intCast_sub]
    grind
  | [], _ :: _, h => by simp at h
  | _ :: _, [], h => by simp at h
theorem ev_sub (x : Rat) (a b : List Int) : ev (zq (subZ a b)) x = ev (zq a) x - ev (zq b) x := by
  unfold subZ
  rw [ev_zip x _ _ (by rw [pad_len (Nat.le_max_left ..), pad_len (Nat.le_max_right ..)])]
  unfold padZ
  rw [ev_pad, ev_pad]
theorem zq_trim (l : List Int) : zq (trimL 0 l) = trimL 0 (zq l) := trim_map _ (fun a => Rat.intCast_eq_zero_iff) l
theorem ev_ztrim (x : Rat) (l : List Int) : ev (zq (trimL 0 l)) x = ev (zq l) x := by
  rw [zq_trim, ev_trim]
theorem ev_set (x : Rat) (t : Int) : ∀ (l : List Int) (n : Nat), l[n]? = some 0 → ev (zq (l.set n t)) x = ev (zq l) x + (t : Rat) * pw x n
  | [], n, h => by simp at h
  | c :: r, 0, h => by
    have : c = 0 := by simpa using h
    subst this
    show (t : Rat) + x * ev (zq r) x = (((0 : Int) : Rat) + x * ev (zq r) x) + (t : Rat) * 1
    grind
  | c :: r, n + 1, h => by
    show (c : Rat) + x * ev (zq (r.set n t)) x = ((c : Rat) + x * ev (zq r) x) + (t : Rat) * (x * pw x n)
    rw [ev_set x t r n (by simpa using h)]
    grind
/-- the last number -/
def lastZ (l : List Int) : Int := l.getLast?.getD 0
theorem last_snoc' (l : List Int) (c : Int) : lastZ (l ++ [c]) = c := by
  unfold lastZ
  rw [List.getLast?_append]
  rfl
theorem trimmed_last {l : List Int} (h : trimL 0 l = l) (hne : l ≠ []) : lastZ l ≠ 0 ∧ ∃ r, l = r ++ [lastZ l] := by
  obtain ⟨r, c, rfl⟩ : ∃ r c, l = r ++ [c] := ⟨l.dropLast, l.getLast hne, (List.dropLast_concat_getLast hne).symm⟩
  rw [last_snoc']
  refine ⟨fun z => ?_, r, rfl⟩
  subst z
  rw [trim_snoc] at h
  have := trim_len (z := (0 : Int)) r
  rw [h, List.length_append] at this
  simp at this
  omega
/-- the leading numbers cancel -/
theorem cancel {R D : List Int} {at_ : Nat} (hR : trimL 0 R = R) (hRn : R ≠ []) (hDn : D ≠ []) (e : R.length = at_ + D.length) : (trimL 0 (subZ (R.map (· * lastZ D)) (List.replicate at_ 0 ++ D.map (· * lastZ R)))).length < R.length := by
  obtain ⟨_, r, er⟩ := trimmed_last hR hRn
  obtain ⟨d, c, rfl⟩ : ∃ d c, D = d ++ [c] := ⟨D.dropLast, D.getLast hDn, (List.dropLast_concat_getLast hDn).symm⟩
  rw [last_snoc']
  generalize lastZ R = t at er
  subst er
  have e' : r.length = at_ + d.length := by
    simp at e
    omega
  have es : subZ ((r ++ [t]).map (· * c)) (List.replicate at_ 0 ++ (d ++ [c]).map (· * t)) = List.zipWith (· - ·) (r.map (· * c)) (List.replicate at_ 0 ++ d.map (· * t)) ++ [0] := by
    unfold subZ padZ
    have l1 : ((r ++ [t]).map (· * c)).length = r.length + 1 := by simp
    have l2 : (List.replicate at_ (0 : Int) ++ (d ++ [c]).map (· * t)).length = r.length + 1 := by simp [e']; omega
    rw [l1, l2, Nat.max_self, Nat.sub_self, List.replicate_zero, List.append_nil, List.append_nil, List.map_append, List.map_append, ← List.append_assoc, List.zipWith_append (by simp [e'])]
    show _ ++ [t * c - c * t] = _
    rw [Int.mul_comm c t, Int.sub_self]
  rw [es, trim_snoc]
  have := trim_len (z := (0 : Int)) (List.zipWith (· - ·) (r.map (· * c)) (List.replicate at_ 0 ++ d.map (· * t)))
  rw [List.length_zipWith] at this
  simp at this
  simp
  omega
end RB

set_option Elab.async false
set_option linter.all false
set_option maxRecDepth 100000
set_option maxHeartbeats 2000000
namespace RB
open PySem PySem.Spec PyProof.Rows L2 SX
/-- what the division of whole polynomials gives -/
structure SplitOk (N D : List Int) (b c : Nat) (F : Int) (Qz R : List Int) : Prop where
  f0 : F ≠ 0
  eq : ∀ x : Rat, (F : Rat) * ev (zq N) x = ev (zq Qz) x * ev (zq D) x + ev (zq R) x
  tr : trimL 0 R = R
  ql : Qz.length = N.length + 1 - D.length
  fb : F.natAbs ≤ 2 ^ (c * (N.length + 1 - D.length))
  qb : ∀ z ∈ Qz, z.natAbs ≤ 2 ^ (b + (N.length + 1 - D.length) * (c + 1))
  rb : ∀ z ∈ R, z.natAbs ≤ 2 ^ (b + (N.length + 1 - D.length) * (c + 1))
/-- .. under way, after k steps -/
structure SplitAt (N D : List Int) (b c : Nat) (k : Nat) (F : Int) (Qz R : List Int) : Prop where
  f0 : F ≠ 0
  eq : ∀ x : Rat, (F : Rat) * ev (zq N) x = ev (zq Qz) x * ev (zq D) x + ev (zq R) x
  tr : trimL 0 R = R
  ql : Qz.length = N.length + 1 - D.length
  zs : ∀ j, j + D.length ≤ R.length → Qz[j]? = some 0
  kl : k + R.length ≤ N.length
  ks : k ≤ N.length + 1 - D.length
  fb : F.natAbs ≤ 2 ^ (c * k)
  qb : ∀ z ∈ Qz, z.natAbs ≤ 2 ^ (b + k * (c + 1))
  rb : ∀ z ∈ R, z.natAbs ≤ 2 ^ (b + k * (c + 1))
theorem SplitAt.done {N D : List Int} {b c k : Nat} {F : Int} {Qz R : List Int} (h : SplitAt N D b c k F Qz R) : SplitOk N D b c F Qz R := by
  have e1 : c * k ≤ c * (N.length + 1 - D.length) := Nat.mul_le_mul_left _ h.ks
  have e2 : b + k * (c + 1) ≤ b + (N.length + 1 - D.length) * (c + 1) := Nat.add_le_add_left (Nat.mul_le_mul_right _ h.ks) _
  exact ⟨h.f0, h.eq, h.tr, h.ql, Nat.le_trans h.fb (Nat.pow_le_pow_right (by decide) e1), fun z hz => Nat.le_trans (h.qb z hz) (Nat.pow_le_pow_right (by decide) e2), fun z hz => Nat.le_trans (h.rb z hz) (Nat.pow_le_pow_right (by decide) e2)⟩
theorem SplitAt.start {N D : List Int} {b c : Nat} (hN : trimL 0 N = N) (hb : ∀ z ∈ N, z.natAbs ≤ 2 ^ b) (hD : D ≠ []) : SplitAt N D b c 0 1 (List.replicate (N.length + 1 - D.length) 0) N := by
  refine ⟨by decide, fun x => ?_, hN, by simp, fun j hj => ?_, by omega, Nat.zero_le _, by simp, fun z hz => ?_, by simpa using hb⟩
  · have := ev_zeros x (N.length + 1 - D.length) []
    rw [List.append_nil] at this
    rw [this]
    show ((1 : Int) : Rat) * _ = _ * (0 : Rat) * _ + _
    grind
  · have : 0 < D.length := List.length_pos_iff.mpr hD
    rw [List.getElem?_replicate, if_pos (by omega)]
  · rw [(List.mem_replicate.mp hz).2]
    simp
/-- coarser -/
theorem SplitOk.loose {N D : List Int} {b c : Nat} {F : Int} {Qz R : List Int} (h : SplitOk N D b c F Qz R) (hD : D ≠ []) : F.natAbs ≤ 2 ^ (c * N.length) ∧ (∀ z ∈ Qz, z.natAbs ≤ 2 ^ (b + N.length * (c + 1))) ∧ ∀ z ∈ R, z.natAbs ≤ 2 ^ (b + N.length * (c + 1)) := by
  have Dp : 0 < D.length := List.length_pos_iff.mpr hD
  have e1 : c * (N.length + 1 - D.length) ≤ c * N.length := Nat.mul_le_mul_left _ (by omega)
  have e2 : b + (N.length + 1 - D.length) * (c + 1) ≤ b + N.length * (c + 1) := Nat.add_le_add_left (Nat.mul_le_mul_right _ (by omega)) _
  exact ⟨Nat.le_trans h.fb (Nat.pow_le_pow_right (by decide) e1), fun z hz => Nat.le_trans (h.qb z hz) (Nat.pow_le_pow_right (by decide) e2), fun z hz => Nat.le_trans (h.rb z hz) (Nat.pow_le_pow_right (by decide) e2)⟩
theorem sub_bound {a b : List Int} {m : Nat} (ha : ∀ z ∈ a, z.natAbs ≤ 2 ^ m) (hb : ∀ z ∈ b, z.natAbs ≤ 2 ^ m) : ∀ z ∈ subZ a b, z.natAbs ≤ 2 ^ (m + 1) := by
  have pd : ∀ (l : List Int) (n : Nat), (∀ z ∈ l, z.natAbs ≤ 2 ^ m) → ∀ z ∈ padZ n l, z.natAbs ≤ 2 ^ m := fun l n h z hz => by
    unfold padZ at hz
    rcases List.mem_append.mp hz with e | e
    · exact h z e
    · rw [(List.mem_replicate.mp e).2]
      simp
  intro z hz
  unfold subZ at hz
  obtain ⟨i, hi⟩ := List.getElem?_of_mem hz
  rw [List.getElem?_zipWith] at hi
  cases e1 : (padZ (max a.length b.length) a)[i]? with
  | none => rw [e1] at hi; cases hi
  | some x =>
    cases e2 : (padZ (max a.length b.length) b)[i]? with
    | none => rw [e1, e2] at hi; cases hi
    | some y =>
      rw [e1, e2] at hi
      obtain rfl : x - y = z := Option.some.inj hi
      have h1 := pd a _ ha x (List.mem_of_getElem? e1)
      have h2 := pd b _ hb y (List.mem_of_getElem? e2)
      rw [Nat.pow_succ]
      omega
theorem SplitAt.step {N D : List Int} {b c k : Nat} {F : Int} {Qz R : List Int} (h : SplitAt N D b c k F Qz R) (hDt : trimL 0 D = D) (hD : D ≠ []) (hDb : ∀ z ∈ D, z.natAbs ≤ 2 ^ c) (ge : D.length ≤ R.length) :
    SplitAt N D b c (k + 1) (F * lastZ D) ((Qz.map (· * lastZ D)).set (R.length - D.length) (lastZ R)) (trimL 0 (subZ (R.map (· * lastZ D)) (List.replicate (R.length - D.length) 0 ++ D.map (· * lastZ R)))) ∧
      (trimL 0 (subZ (R.map (· * lastZ D)) (List.replicate (R.length - D.length) 0 ++ D.map (· * lastZ R)))).length < R.length := by
  have Dp : 0 < D.length := List.length_pos_iff.mpr hD
  have Rn : R ≠ [] := fun z => by
    rw [z] at ge
    have : D.length ≤ 0 := ge
    omega
  obtain ⟨l0, d', ed⟩ := trimmed_last hDt hD
  obtain ⟨t0, r', er⟩ := trimmed_last h.tr Rn
  have lt := cancel h.tr Rn hD (at_ := R.length - D.length) (by omega)
  have lD : lastZ D ∈ D := by
    have : lastZ D ∈ d' ++ [lastZ D] := by simp
    rwa [← ed] at this
  have lR : lastZ R ∈ R := by
    have : lastZ R ∈ r' ++ [lastZ R] := by simp
    rwa [← er] at this
  have bl := hDb _ lD
  have bt := h.rb _ lR
  have e1 : b + (k + 1) * (c + 1) = b + k * (c + 1) + c + 1 := by
    rw [Nat.add_mul]
    omega
  have mul : ∀ {x y : Int} {m n : Nat}, x.natAbs ≤ 2 ^ m → y.natAbs ≤ 2 ^ n → (x * y).natAbs ≤ 2 ^ (m + n) := fun hx hy => by
    rw [Int.natAbs_mul, Nat.pow_add]
    exact Nat.mul_le_mul hx hy
  refine ⟨⟨Int.mul_ne_zero h.f0 l0, fun x => ?_, trim_idem _, ?_, fun j hj => ?_, ?_, ?_, ?_, fun z hz => ?_, fun z hz => ?_⟩, lt⟩
  · have z0 : (Qz.map (· * lastZ D))[R.length - D.length]? = some 0 := by
      rw [List.getElem?_map, h.zs _ (by omega)]
      simp
    rw [ev_set x _ _ _ z0, ev_scale, ev_ztrim, ev_sub, ev_scale, ev_zeros, ev_scale, Rat.intCast_mul]
    have := h.eq x
    grind
  · rw [List.length_set, List.length_map, h.ql]
  · rw [List.getElem?_set_ne (by omega), List.getElem?_map, h.zs j (by omega)]
    simp
  · have := h.kl
    omega
  · have := h.kl
    omega
  · have e2 : c * (k + 1) = c * k + c := by
      rw [Nat.mul_add]
      omega
    rw [e2]
    exact mul h.fb bl
  · rw [e1]
    rcases List.mem_or_eq_of_mem_set hz with e | e
    · obtain ⟨y, hy, rfl⟩ := List.mem_map.mp e
      exact Nat.le_trans (mul (h.qb y hy) bl) (Nat.pow_le_pow_right (by decide) (by omega))
    · rw [e]
      exact Nat.le_trans bt (Nat.pow_le_pow_right (by decide) (by omega))
  · rw [e1]
    refine sub_bound (m := b + k * (c + 1) + c) (fun y hy => ?_) (fun y hy => ?_) z (trim_mem hz)
    · obtain ⟨y', hy', rfl⟩ := List.mem_map.mp hy
      exact mul (h.rb y' hy') bl
    · rcases List.mem_append.mp hy with e | e
      · rw [(List.mem_replicate.mp e).2]
        simp
      · obtain ⟨y', hy', rfl⟩ := List.mem_map.mp e
        have := mul (hDb y' hy') bt
        rw [Nat.add_comm]
        exact this
end RB

set_option Elab.async false
set_option linter.all false
set_option maxRecDepth 100000
set_option maxHeartbeats 2000000
namespace RB
open PySem PySem.Spec PyProof.Rows L2 SX
/-! ## polynomials with the same values are the same -/
def AllZ (l : List Rat) : Prop := ∀ c ∈ l, c = 0
/-- l divided by x - a -/
def sdiv (a : Rat) : List Rat → List Rat
  | [] => []
  | [_] => []
  | _ :: b :: r => ev (b :: r) a :: sdiv a (b :: r)
theorem sdiv_len (a : Rat) : ∀ l : List Rat, (sdiv a l).length = l.length - 1
  | [] => rfl
  | [_] => rfl
  | c :: b :: r => by
    show (sdiv a (b :: r)).length + 1 = _
    rw [sdiv_len a (b :: r)]
    simp
theorem sdiv_ev (a x : Rat) : ∀ l : List Rat, ev l x = (x - a) * ev (sdiv a l) x + ev l a
  | [] => by
    show (0 : Rat) = (x - a) * 0 + 0
    grind
  | [c] => by
    show c + x * 0 = (x - a) * 0 + (c + a * 0)
    grind
  | c :: b :: r => by
    have ih := sdiv_ev a x (b :: r)
    show c + x * ev (b :: r) x = (x - a) * (ev (b :: r) a + x * ev (sdiv a (b :: r)) x) + (c + a * ev (b :: r) a)
    rw [ih]
    grind
theorem sdiv_zero (a : Rat) : ∀ l : List Rat, AllZ (sdiv a l) → ev l a = 0 → AllZ l
  | [], _, _ => fun c hc => by cases hc
  | [c], _, h => fun d hd => by
    have h : c + a * 0 = 0 := h
    rw [List.mem_singleton.mp hd]
    grind
  | c :: b :: r, hz, h => by
    have h1 : ev (b :: r) a = 0 := hz _ List.mem_cons_self
    have h2 := sdiv_zero a (b :: r) (fun d hd => hz d (List.mem_cons_of_mem _ hd)) h1
    have h : c + a * ev (b :: r) a = 0 := h
    intro d hd
    rcases List.mem_cons.mp hd with e | e
    · rw [e]
      grind
    · exact h2 d e
theorem ev_all : ∀ (n : Nat) (l : List Rat), l.length ≤ n → ∀ B : Nat, (∀ m : Nat, B ≤ m → ev l (m : Rat) = 0) → AllZ l
  | 0, l, hl, _, _ => by
    have : l = [] := List.length_eq_zero_iff.mp (by omega)
    subst this
    intro c hc
    cases hc
  | n + 1, l, hl, B, h => by
    have h0 := h B (Nat.le_refl _)
    refine sdiv_zero (B : Rat) l ?_ h0
    cases l with
    | nil => intro c hc; cases hc
    | cons c r =>
      refine ev_all n _ (by rw [sdiv_len]; simp at hl ⊢; omega) (B + 1) fun m hm => ?_
      have e := sdiv_ev (B : Rat) (m : Rat) (c :: r)
      rw [h m (by omega), h0] at e
      have ne : (m : Rat) - (B : Rat) ≠ 0 := fun z => by
        have : (m : Rat) = (B : Rat) := by grind
        have := Rat.natCast_inj.mp this
        omega
      grind
theorem allZ_trim : ∀ {l : List Rat}, AllZ l → trimL 0 l = []
  | [], _ => rfl
  | c :: r, h => by
    rw [trim_cons, if_pos (allZ_trim fun d hd => h d (List.mem_cons_of_mem _ hd)), if_pos (h c List.mem_cons_self)]
theorem ev_zero_trim {l : List Rat} (h : ∀ x : Rat, ev l x = 0) : trimL 0 l = [] := allZ_trim (ev_all _ l (Nat.le_refl _) 0 fun m _ => h m)
/-- two trimmed polynomials with the same values -/
theorem ev_inj : ∀ {a b : List Rat}, trimL 0 a = a → trimL 0 b = b → (∀ x : Rat, ev a x = ev b x) → a = b
  | [], b, _, hb, h => by
    have := ev_zero_trim (l := b) fun x => (h x).symm
    rw [hb] at this
    exact this.symm
  | a, [], ha, _, h => by
    have := ev_zero_trim (l := a) fun x => h x
    rw [ha] at this
    exact this
  | c :: r, d :: t, ha, hb, h => by
    have h0 := h 0
    have e0 : c = d := by
      have : c + 0 * ev r 0 = d + 0 * ev t 0 := h0
      grind
    subst e0
    have hr : trimL 0 r = r := by
      rw [trim_cons] at ha
      split at ha
      · split at ha
        · cases ha
        · have : [] = r := (List.cons.inj ha).2
          rw [← this]
          rfl
      · exact (List.cons.inj ha).2
    have ht : trimL 0 t = t := by
      rw [trim_cons] at hb
      split at hb
      · split at hb
        · cases hb
        · have : [] = t := (List.cons.inj hb).2
          rw [← this]
          rfl
      · exact (List.cons.inj hb).2
    -- r and t agree at all x but 0, so their difference vanishes there
    have sub : ∀ (p q : List Rat), ∃ l : List Rat, ∀ x, ev l x = ev p x - ev q x := by
      intro p
      induction p with
      | nil => exact fun q => ⟨q.map (fun z => -z), fun x => by
          induction q with
          | nil => show (0 : Rat) = 0 - 0; grind
          | cons z q ih =>
            show -z + x * ev (q.map fun z => -z) x = 0 - (z + x * ev q x)
            rw [ih]
            show -z + x * (0 - ev q x) = _
            grind⟩
      | cons z p ih =>
        intro q
        cases q with
        | nil => exact ⟨z :: p, fun x => by show _ = ev (z :: p) x - 0; grind⟩
        | cons y q =>
          obtain ⟨l, hl⟩ := ih q
          exact ⟨(z - y) :: l, fun x => by
            show (z - y) + x * ev l x = (z + x * ev p x) - (y + x * ev q x)
            rw [hl]
            grind⟩
    obtain ⟨l, hl⟩ := sub r t
    have hz : AllZ l := ev_all _ l (Nat.le_refl _) 1 fun m hm => by
      have e : c + (m : Rat) * ev r m = c + (m : Rat) * ev t m := h m
      have m0 : (m : Rat) ≠ 0 := fun z => by
        have := Rat.natCast_inj.mp (z.trans (by rfl : (0 : Rat) = ((0 : Nat) : Rat)))
        omega
      rw [hl]
      grind
    have ez : ∀ x, ev l x = 0 := fun x => by
      have := ev_trim l x
      rw [allZ_trim hz] at this
      exact this.symm
    rw [ev_inj hr ht fun x => by have := hl x; rw [ez x] at this; grind]
end RB

set_option Elab.async false
set_option linter.all false
set_option maxRecDepth 100000
set_option maxHeartbeats 2000000
namespace RB
open PySem PySem.Spec PyProof.Rows L2 SX
def addQ : List Rat → List Rat → List Rat
  | [], b => b
  | a, [] => a
  | x :: a, y :: b => (x + y) :: addQ a b
def negQ (a : List Rat) : List Rat := a.map fun z => -z
def mulQ : List Rat → List Rat → List Rat
  | [], _ => []
  | c :: r, b => addQ (b.map (c * ·)) (0 :: mulQ r b)
theorem ev_add (x : Rat) : ∀ a b : List Rat, ev (addQ a b) x = ev a x + ev b x
  | [], b => by
    rw [show addQ [] b = b by cases b <;> rfl]
    show _ = (0 : Rat) + _
    grind
  | c :: r, [] => by
    show ev (c :: r) x = ev (c :: r) x + 0
    grind
  | c :: r, d :: t => by
    show (c + d) + x * ev (addQ r t) x = (c + x * ev r x) + (d + x * ev t x)
    rw [ev_add x r t]
    grind
theorem ev_neg (x : Rat) : ∀ a : List Rat, ev (negQ a) x = -(ev a x)
  | [] => by
    show (0 : Rat) = -0
    grind
  | c :: r => by
    show -c + x * ev (negQ r) x = -(c + x * ev r x)
    rw [ev_neg x r]
    grind
theorem ev_smul (x c : Rat) : ∀ a : List Rat, ev (a.map (c * ·)) x = c * ev a x
  | [] => by
    show (0 : Rat) = c * 0
    grind
  | d :: r => by
    show c * d + x * ev (r.map (c * ·)) x = c * (d + x * ev r x)
    rw [ev_smul x c r]
    grind
theorem ev_mul (x : Rat) : ∀ a b : List Rat, ev (mulQ a b) x = ev a x * ev b x
  | [], b => by
    show (0 : Rat) = 0 * _
    grind
  | c :: r, b => by
    show ev (addQ (b.map (c * ·)) (0 :: mulQ r b)) x = (c + x * ev r x) * ev b x
    rw [ev_add, ev_smul]
    show c * ev b x + (0 + x * ev (mulQ r b) x) = _
    rw [ev_mul x r b]
    grind
theorem add_nil (a : List Rat) : addQ a [] = a := by cases a <;> rfl
theorem nil_add (a : List Rat) : addQ [] a = a := by cases a <;> rfl
/-- the longer one's last number stays -/
theorem add_last : ∀ (a b : List Rat) (z : Rat), a.length ≤ b.length → ∃ m, addQ a (b ++ [z]) = m ++ [z] ∧ m.length = b.length
  | [], b, z, _ => ⟨b, nil_add _, rfl⟩
  | c :: r, [], z, h => by simp at h
  | c :: r, d :: t, z, h => by
    obtain ⟨m, e1, e2⟩ := add_last r t z (by simpa using h)
    exact ⟨(c + d) :: m, by show (c + d) :: addQ r (t ++ [z]) = _; rw [e1]; rfl, by simp [e2]⟩
theorem mul_last : ∀ (a : List Rat) (s : Rat) (b : List Rat) (t : Rat), ∃ m, mulQ (a ++ [s]) (b ++ [t]) = m ++ [s * t] ∧ m.length = a.length + b.length
  | [], s, b, t => by
    show ∃ m, addQ ((b ++ [t]).map (s * ·)) (0 :: []) = m ++ [s * t] ∧ m.length = 0 + b.length
    cases b with
    | nil =>
      refine ⟨[], ?_, rfl⟩
      show [s * t + 0] = [s * t]
      congr 1
      grind
    | cons d r =>
      refine ⟨(s * d + 0) :: r.map (s * ·), ?_, by simp⟩
      show (s * d + 0) :: addQ ((r ++ [t]).map (s * ·)) [] = _
      rw [add_nil, List.map_append]
      rfl
  | c :: r, s, b, t => by
    obtain ⟨m, e1, e2⟩ := mul_last r s b t
    obtain ⟨m2, e3, e4⟩ := add_last ((b ++ [t]).map (c * ·)) (0 :: m) (s * t) (by simp [e2])
    refine ⟨m2, ?_, by simp [e4, e2]; omega⟩
    show addQ ((b ++ [t]).map (c * ·)) (0 :: mulQ (r ++ [s]) (b ++ [t])) = _
    rw [e1]
    exact e3
theorem trimmed_snoc {l : List Rat} (h : trimL 0 l = l) (hne : l ≠ []) : ∃ r c, l = r ++ [c] ∧ c ≠ 0 := by
  obtain ⟨r, c, rfl⟩ : ∃ r c, l = r ++ [c] := ⟨l.dropLast, l.getLast hne, (List.dropLast_concat_getLast hne).symm⟩
  refine ⟨r, c, rfl, fun z => ?_⟩
  subst z
  rw [trim_snoc] at h
  have := trim_len (z := (0 : Rat)) r
  rw [h, List.length_append] at this
  have this : r.length + 1 ≤ r.length := this
  omega
/-- the product of two polynomials is as long as both together, less one -/
theorem mul_deg {a b : List Rat} (ha : trimL 0 a = a) (hb : trimL 0 b = b) (na : a ≠ []) (nb : b ≠ []) : trimL 0 (mulQ a b) = mulQ a b ∧ (mulQ a b).length + 1 = a.length + b.length := by
  obtain ⟨r, s, rfl, s0⟩ := trimmed_snoc ha na
  obtain ⟨q, t, rfl, t0⟩ := trimmed_snoc hb nb
  obtain ⟨m, e1, e2⟩ := mul_last r s q t
  have st : s * t ≠ 0 := fun z => by
    rcases Rat.mul_eq_zero.mp z with e | e
    · exact s0 e
    · exact t0 e
  rw [e1]
  refine ⟨trim_keep st m, ?_⟩
  simp [e2]
  omega
/-- division has one quotient and one rest -/
theorem div_unique {q1 q2 d r1 r2 : List Rat} (hd : trimL 0 d = d) (nd : d ≠ []) (h1 : trimL 0 q1 = q1) (h2 : trimL 0 q2 = q2) (g1 : trimL 0 r1 = r1) (g2 : trimL 0 r2 = r2) (l1 : r1.length < d.length) (l2 : r2.length < d.length)
    (e : ∀ x : Rat, ev q1 x * ev d x + ev r1 x = ev q2 x * ev d x + ev r2 x) : q1 = q2 ∧ r1 = r2 := by
  have sub : ∀ a b : List Rat, ∀ x, ev (trimL 0 (addQ a (negQ b))) x = ev a x - ev b x := fun a b x => by
    rw [ev_trim, ev_add, ev_neg]
    grind
  have len : ∀ a b : List Rat, (addQ a (negQ b)).length ≤ max a.length b.length := by
    intro a
    induction a with
    | nil => intro b; rw [nil_add]; simp [negQ]
    | cons c r ih =>
      intro b
      cases b with
      | nil => show (c :: r).length ≤ _; simp
      | cons d t =>
        have := ih t
        show (addQ r (negQ t)).length + 1 ≤ _
        simp
        omega
  have p0 : trimL 0 (addQ q1 (negQ q2)) = [] := by
    by_cases c : trimL 0 (addQ q1 (negQ q2)) = []
    · exact c
    · obtain ⟨m1, m2⟩ := mul_deg (trim_idem _) hd c nd
      have same := ev_inj m1 (trim_idem (addQ r2 (negQ r1))) fun x => by
        rw [ev_mul, sub, sub]
        have := e x
        grind
      have l := trim_len (z := (0 : Rat)) (addQ r2 (negQ r1))
      have l' := len r2 r1
      have lp : 0 < (trimL 0 (addQ q1 (negQ q2))).length := List.length_pos_iff.mpr c
      rw [same] at m2
      omega
  have eq : ∀ x, ev q1 x = ev q2 x := fun x => by
    have := sub q1 q2 x
    rw [p0] at this
    have this : (0 : Rat) = ev q1 x - ev q2 x := this
    grind
  refine ⟨ev_inj h1 h2 eq, ev_inj g1 g2 fun x => ?_⟩
  have := e x
  rw [eq x] at this
  grind
end RB

set_option Elab.async false
set_option linter.all false
set_option maxRecDepth 100000
set_option maxHeartbeats 2000000
namespace RB
open PySem PySem.Spec PyProof.Rows L2 SX
/-! ## Euclid's algorithm, with free factors -/
def IsRem (a b r : List Rat) : Prop := trimL 0 r = r ∧ r.length < b.length ∧ ∃ q : List Rat, ∀ x : Rat, ev a x = ev q x * ev b x + ev r x
inductive Euc : List Rat → List Rat → List Rat → Prop
  | stop (a : List Rat) : Euc a [] a
  | step {a b r g : List Rat} (c : Rat) (hb : b ≠ []) (tb : trimL 0 b = b) (hr : IsRem a b r) (hc : c ≠ 0) (h : Euc b (r.map (c * ·)) g) : Euc a b g
theorem rem_unique {a b r r' : List Rat} (hb : trimL 0 b = b) (nb : b ≠ []) (h : IsRem a b r) (h' : IsRem a b r') : r = r' := by
  obtain ⟨t, l, q, e⟩ := h
  obtain ⟨t', l', q', e'⟩ := h'
  exact (div_unique hb nb (trim_idem q) (trim_idem q') t t' l l' fun x => by rw [ev_trim, ev_trim, ← e x, ← e' x]).2
theorem smul_trim {c : Rat} (hc : c ≠ 0) (l : List Rat) : (trimL 0 l).map (c * ·) = trimL 0 (l.map (c * ·)) := trim_map _ (fun a => ⟨fun h => (Rat.mul_eq_zero.mp h).elim (fun z => absurd z hc) id, fun h => by rw [h]; grind⟩) l
theorem smul_smul (a b : Rat) (l : List Rat) : (l.map (a * ·)).map (b * ·) = l.map ((b * a) * ·) := by
  rw [List.map_map]
  refine List.map_congr_left fun x _ => ?_
  show b * (a * x) = b * a * x
  grind
theorem rem_scale {a b r : List Rat} {s t : Rat} (hs : s ≠ 0) (ht : t ≠ 0) (h : IsRem a b r) : IsRem (a.map (s * ·)) (b.map (t * ·)) (r.map (s * ·)) := by
  obtain ⟨tr, l, q, e⟩ := h
  refine ⟨by rw [← smul_trim hs, tr], by simpa using l, q.map ((s / t) * ·), fun x => ?_⟩
  rw [ev_smul, ev_smul, ev_smul, ev_smul, e x]
  grind
/-- two runs on proportional polynomials end proportionally -/
theorem euc_scale {a b g : List Rat} (h : Euc a b g) : ∀ {s t : Rat} {g' : List Rat}, s ≠ 0 → t ≠ 0 → Euc (a.map (s * ·)) (b.map (t * ·)) g' → ∃ u : Rat, u ≠ 0 ∧ g' = g.map (u * ·) := by
  induction h with
  | stop a =>
    intro s t g' hs ht h'
    cases h' with
    | stop => exact ⟨s, hs, rfl⟩
    | step c hb _ _ _ _ => exact absurd rfl hb
  | @step a b r g c hb tb hr hc h ih =>
    intro s t g' hs ht h'
    have nb' : b.map (t * ·) ≠ [] := by simpa using hb
    have tb' : trimL 0 (b.map (t * ·)) = b.map (t * ·) := by rw [← smul_trim ht, tb]
    generalize hB : b.map (t * ·) = B at h' nb' tb'
    cases h' with
    | stop => exact absurd rfl nb'
    | @step _ _ r' _ c' _ _ hr' hc' h2 =>
      have er : r' = r.map (s * ·) := rem_unique tb' nb' hr' (by rw [← hB]; exact rem_scale hs ht hr)
      rw [er, smul_smul, ← hB] at h2
      have e2 : r.map ((c' * s) * ·) = (r.map (c * ·)).map ((c' * s / c) * ·) := by
        rw [smul_smul]
        refine List.map_congr_left fun x _ => ?_
        show c' * s * x = c' * s / c * c * x
        grind
      rw [e2] at h2
      refine ih ht ?_ h2
      have : c' * s ≠ 0 := fun z => (Rat.mul_eq_zero.mp z).elim hc' hs
      grind
/-- the whole list's quotient by its last number does not see a factor -/
def monicQ (l : List Rat) : List Rat := l.map (· / l.getLast?.getD 0)
theorem monic_scale {u : Rat} (hu : u ≠ 0) (l : List Rat) : monicQ (l.map (u * ·)) = monicQ l := by
  unfold monicQ
  rw [List.map_map, List.getLast?_map]
  cases h : l.getLast? with
  | none =>
    have : l = [] := List.getLast?_eq_none_iff.mp h
    subst this
    rfl
  | some c =>
    refine List.map_congr_left fun x _ => ?_
    show u * x / (u * c) = x / c
    by_cases c0 : c = 0
    · rw [c0]
      show u * x / (u * 0) = x / 0
      grind
    · grind
theorem monic_zq (l : List Int) : monicQ (zq l) = l.map fun z : Int => (z : Rat) / (lastZ l : Rat) := by
  unfold monicQ zq lastZ
  rw [List.map_map, List.getLast?_map]
  cases h : l.getLast? with
  | none =>
    have : l = [] := List.getLast?_eq_none_iff.mp h
    subst this
    rfl
  | some c => rfl
/-- a step of the whole algorithm is a step of Euclid's -/
theorem whole_step {N D : List Int} {b c : Nat} {F s : Int} {Qz R : List Int} {g : List Rat} (h : SplitOk N D b c F Qz R) (tD : trimL 0 D = D) (nD : D ≠ []) (hl : R.length < D.length) (hs : R ≠ [] → s ≠ 0) (hd : ∀ z ∈ R, ∃ k, z = s * k)
    (e : Euc (zq D) (zq (R.map (·.fdiv s))) g) : Euc (zq N) (zq D) g := by
  have F0 := rat_ne h.f0
  have ndq : zq D ≠ [] := by
    unfold zq
    simpa using nD
  have rem : IsRem (zq N) (zq D) ((zq R).map (((F : Rat)⁻¹) * ·)) := by
    have fi : (F : Rat)⁻¹ ≠ 0 := by grind
    refine ⟨by rw [← smul_trim fi, ← zq_trim, h.tr], by unfold zq; simpa using hl, (zq Qz).map (((F : Rat)⁻¹) * ·), fun x => ?_⟩
    rw [ev_smul, ev_smul]
    have := h.eq x
    grind
  by_cases hR : R = []
  · subst hR
    exact .step 1 ndq (by rw [← zq_trim, tD]) rem (by decide) e
  · have s0 := hs hR
    have sq := rat_ne s0
    refine .step ((F : Rat) / (s : Rat)) ndq (by rw [← zq_trim, tD]) rem (by grind) ?_
    have e2 : ((zq R).map (((F : Rat)⁻¹) * ·)).map (((F : Rat) / (s : Rat)) * ·) = zq (R.map (·.fdiv s)) := by
      unfold zq
      rw [List.map_map, List.map_map, List.map_map]
      refine List.map_congr_left fun z hz => ?_
      obtain ⟨k, hk⟩ := hd z hz
      show (F : Rat) / (s : Rat) * ((F : Rat)⁻¹ * (z : Rat)) = ((z.fdiv s : Int) : Rat)
      rw [fdiv_is s0 hk]
      have : (z : Rat) = (s : Rat) * (k : Rat) := by rw [hk, Rat.intCast_mul]
      rw [this]
      grind
    rw [e2]
    exact e
/-! ## the content -/
theorem content_fold : ∀ (l : List Int) (s : Int), (∀ z ∈ l, ∃ k, z = l.foldl (fun s z => (Int.gcd s z : Int)) s * k) ∧ ∃ k, s = l.foldl (fun s z => (Int.gcd s z : Int)) s * k
  | [], s => ⟨fun z hz => absurd hz (by simp), ⟨1, by simp⟩⟩
  | c :: r, s => by
    obtain ⟨i1, k, i2⟩ := content_fold r (Int.gcd s c : Int)
    obtain ⟨k1, e1⟩ : ∃ k, s = (Int.gcd s c : Int) * k := Int.gcd_dvd_left s c
    obtain ⟨k2, e2⟩ : ∃ k, c = (Int.gcd s c : Int) * k := Int.gcd_dvd_right s c
    refine ⟨fun z hz => ?_, k * k1, ?_⟩
    · rcases List.mem_cons.mp hz with e | e
      · exact ⟨k * k2, by
          rw [e, List.foldl_cons, ← Int.mul_assoc, ← i2]
          exact e2⟩
      · exact i1 z e
    · rw [List.foldl_cons, ← Int.mul_assoc, ← i2]
      exact e1
theorem content_dvd {l : List Int} {z : Int} (h : z ∈ l) : ∃ k, z = contentZ l * k := (content_fold l 0).1 z h
theorem content_ne {l : List Int} {z : Int} (h : z ∈ l) (h0 : z ≠ 0) : contentZ l ≠ 0 ∧ (contentZ l).natAbs ≤ z.natAbs := by
  obtain ⟨k, e⟩ := content_dvd h
  have k0 : k ≠ 0 := fun x => by
    rw [x, Int.mul_zero] at e
    exact h0 e
  refine ⟨fun x => ?_, ?_⟩
  · rw [x, Int.zero_mul] at e
    exact h0 e
  · rw [e, Int.natAbs_mul]
    exact Nat.le_mul_of_pos_right _ (by omega)
theorem without_trim {l : List Int} {s : Int} (hs : l ≠ [] → s ≠ 0) (hd : ∀ z ∈ l, ∃ k, z = s * k) (ht : trimL 0 l = l) : trimL 0 (l.map (·.fdiv s)) = l.map (·.fdiv s) := by
  by_cases hl : l = []
  · subst hl
    rfl
  · obtain ⟨l0, r, e⟩ := trimmed_last ht hl
    have s0 := hs hl
    obtain ⟨k, hk⟩ := hd (lastZ l) (by
      have : lastZ l ∈ r ++ [lastZ l] := by simp
      rwa [← e] at this)
    rw [e, List.map_append]
    refine trim_keep ?_ _
    show (lastZ l).fdiv s ≠ 0
    rw [fdiv_is s0 hk]
    intro z
    rw [z, Int.mul_zero] at hk
    exact l0 hk
end RB

set_option Elab.async false
set_option linter.all false
set_option maxRecDepth 100000
set_option maxHeartbeats 2000000
namespace RB
open PySem PySem.Spec PyProof.Rows L2 SX
theorem trim_shape {α : Type} [DecidableEq α] {z : α} : ∀ l : List α, trimL z l = [] ∨ ∃ t y, trimL z l = t ++ [y] ∧ y ≠ z
  | [] => .inl rfl
  | c :: r => by
    rw [trim_cons]
    rcases trim_shape r with e | ⟨t, y, e, hy⟩
    · rw [if_pos e]
      by_cases hc : c = z
      · rw [if_pos hc]
        exact .inl rfl
      · rw [if_neg hc]
        exact .inr ⟨[], c, rfl, hc⟩
    · rw [if_neg (by rw [e]; simp), e]
      exact .inr ⟨c :: t, y, rfl, hy⟩
theorem trim_two {α β γ : Type} [DecidableEq β] [DecidableEq γ] {z : β} {y : γ} (f : α → β) (g : α → γ) : ∀ l : List α, (∀ a ∈ l, f a = z ↔ g a = y) → (l.take (trimL z (l.map f)).length).map g = trimL y (l.map g)
  | [], _ => rfl
  | a :: r, h => by
    have ih := trim_two f g r fun b hb => h b (List.mem_cons_of_mem _ hb)
    have ha := h a List.mem_cons_self
    rw [List.map_cons, List.map_cons, trim_cons, trim_cons]
    have hl : (trimL z (r.map f)).length ≤ r.length := by
      have := trim_len (z := z) (r.map f)
      rwa [List.length_map] at this
    have e : trimL z (r.map f) = [] ↔ trimL y (r.map g) = [] := by
      rw [← ih, List.map_eq_nil_iff, ← List.length_eq_zero_iff, ← List.length_eq_zero_iff, List.length_take, Nat.min_eq_left hl]
    by_cases c : trimL z (r.map f) = []
    · rw [if_pos c, if_pos (e.mp c)]
      by_cases d : f a = z
      · rw [if_pos d, if_pos (ha.mp d)]
        rfl
      · rw [if_neg d, if_neg fun q => d (ha.mpr q)]
        rfl
    · rw [if_neg c, if_neg fun q => c (e.mpr q), List.length_cons, List.take_succ_cons, List.map_cons, ih]
theorem q_zero {p : Int × Int} (h : p.2 ≠ 0) : p.1 = 0 ↔ qOf p = 0 := (div_zero_iff h).symm
/-- what stands before the zeros at the end -/
def headP (ps : List (Int × Int)) : List (Int × Int) := ps.take (trimL 0 (ps.map (·.1))).length
theorem head_q {ps : List (Int × Int)} (h : ∀ p ∈ ps, p.2 ≠ 0) : (headP ps).map qOf = trimL 0 (ps.map qOf) := trim_two (z := (0 : Int)) (y := (0 : Rat)) (fun p : Int × Int => p.1) qOf ps fun p hp => q_zero (h p hp)
theorem head_mem {ps : List (Int × Int)} {p : Int × Int} (h : p ∈ headP ps) : p ∈ ps := List.mem_of_mem_take h
theorem head_len {ps : List (Int × Int)} : (headP ps).length = (trimL 0 (ps.map (·.1))).length := by
  unfold headP
  have := trim_len (z := (0 : Int)) (ps.map (·.1))
  rw [List.length_map] at this
  rw [List.length_take, Nat.min_eq_left this]
theorem head_whole {ps : List (Int × Int)} (h : ∀ p ∈ ps, p.2 ≠ 0) {t : List Rat} {y : Rat} (ht : trimL 0 (ps.map qOf) = t ++ [y]) (y0 : y ≠ 0) :
    ∃ (zs : List Int) (z : Int), wholeZ (headP ps) = zs ++ [z] ∧ z ≠ 0 ∧ (zs ++ [z]).map (fun x : Int => (x : Rat) / (z : Rat)) = (t ++ [y]).map (· / y) := by
  have h2 : ∀ p ∈ headP ps, p.2 ≠ 0 := fun p hp => h p (head_mem hp)
  have e1 := whole_q h2
  obtain ⟨s0, _⟩ := scale_ok h2
  rw [head_q h, ht] at e1
  have sq : (scaleOf (headP ps) : Rat) ≠ 0 := rat_ne (by omega)
  generalize wholeZ (headP ps) = zz at e1
  generalize (scaleOf (headP ps) : Rat) = sc at e1 sq
  have hn : zz ≠ [] := fun e => by
    rw [e] at e1
    simp at e1
  obtain ⟨zs, z, rfl⟩ : ∃ zs z, zz = zs ++ [z] := ⟨zz.dropLast, zz.getLast hn, (List.dropLast_concat_getLast hn).symm⟩
  rw [List.map_append] at e1
  obtain ⟨e2, e3⟩ := List.append_inj' e1 (by simp)
  have e3 : (z : Rat) / sc = y := by simpa using e3
  have z0 : z ≠ 0 := fun q => y0 (by rw [← e3, q]; show (0 : Rat) / sc = 0; grind)
  have zq : (z : Rat) ≠ 0 := rat_ne z0
  refine ⟨zs, z, rfl, z0, ?_⟩
  rw [← e2, ← e3, List.map_append, List.map_append, List.map_map]
  congr 1
  · refine List.map_congr_left fun x _ => ?_
    show (x : Rat) / (z : Rat) = (x : Rat) / sc / ((z : Rat) / sc)
    grind
  · show [(z : Rat) / (z : Rat)] = [(z : Rat) / sc / ((z : Rat) / sc)]
    congr 1
    grind
def primF (zs : List Int) (z : Int) : Int := if z < 0 then -contentZ (zs ++ [z]) else contentZ (zs ++ [z])
theorem content_nn (zs : List Int) (z : Int) : 0 ≤ contentZ (zs ++ [z]) := by
  unfold contentZ
  rw [List.foldl_append]
  exact Int.natCast_nonneg _
theorem prim_math {zs : List Int} {z : Int} (z0 : z ≠ 0) : primF zs z ≠ 0 ∧ (primF zs z).natAbs ≤ z.natAbs ∧ ∃ (ws : List Int) (m : Int), (zs ++ [z]).map (·.fdiv (primF zs z)) = ws ++ [m] ∧ 0 < m ∧
    (ws ++ [m]).map (fun x : Int => (x : Rat) / (m : Rat)) = (zs ++ [z]).map (fun x : Int => (x : Rat) / (z : Rat)) ∧ ∀ w ∈ ws ++ [m], ∃ x ∈ zs ++ [z], w.natAbs ≤ x.natAbs := by
  have hz : z ∈ zs ++ [z] := by simp
  obtain ⟨c0, c1⟩ := content_ne hz z0
  have c2 := content_nn zs z
  have f0 : primF zs z ≠ 0 := by
    unfold primF
    split <;> omega
  have fa : (primF zs z).natAbs ≤ z.natAbs := by
    unfold primF
    split <;> omega
  have dv : ∀ x ∈ zs ++ [z], ∃ k, x = primF zs z * k := fun x hx => by
    obtain ⟨k, hk⟩ := content_dvd hx
    unfold primF
    split
    · exact ⟨-k, by rw [Int.neg_mul_neg]; exact hk⟩
    · exact ⟨k, hk⟩
  obtain ⟨m, hm⟩ := dv z hz
  have em : z.fdiv (primF zs z) = m := fdiv_is f0 hm
  have m0 : 0 < m := by
    have hs : (z < 0 → primF zs z < 0) ∧ (¬ z < 0 → 0 < primF zs z) := by
      unfold primF
      constructor
      · intro q
        rw [if_pos q]
        omega
      · intro q
        rw [if_neg q]
        omega
    by_cases q : z < 0
    · have f1 := hs.1 q
      rcases Int.lt_trichotomy m 0 with a | a | a
      · have := Int.mul_pos_of_neg_of_neg f1 a
        omega
      · rw [a, Int.mul_zero] at hm
        omega
      · exact a
    · have f1 := hs.2 q
      rcases Int.lt_trichotomy m 0 with a | a | a
      · have := Int.mul_neg_of_pos_of_neg f1 a
        omega
      · rw [a, Int.mul_zero] at hm
        omega
      · exact a
  refine ⟨f0, fa, zs.map (·.fdiv (primF zs z)), m, by rw [List.map_append, ← em]; rfl, m0, ?_, fun w hw => ?_⟩
  · have fq : (primF zs z : Rat) ≠ 0 := rat_ne f0
    have mq : (m : Rat) ≠ 0 := rat_ne (by omega)
    rw [List.map_append, List.map_append, List.map_map]
    congr 1
    · refine List.map_congr_left fun x hx => ?_
      obtain ⟨k, hk⟩ := dv x (List.mem_append_left _ hx)
      show ((x.fdiv (primF zs z) : Int) : Rat) / (m : Rat) = (x : Rat) / (z : Rat)
      rw [fdiv_is f0 hk]
      conv => rhs; rw [hk, hm]
      rw [Rat.intCast_mul, Rat.intCast_mul]
      grind
    · show [(m : Rat) / (m : Rat)] = [(z : Rat) / (z : Rat)]
      have zq : (z : Rat) ≠ 0 := rat_ne z0
      congr 1
      grind
  · have e : (zs ++ [z]).map (·.fdiv (primF zs z)) = zs.map (·.fdiv (primF zs z)) ++ [m] := by rw [List.map_append, ← em]; rfl
    rw [← e] at hw
    obtain ⟨x, hx, rfl⟩ := List.mem_map.mp hw
    obtain ⟨k, hk⟩ := dv x hx
    refine ⟨x, hx, ?_⟩
    rw [fdiv_is f0 hk]
    conv => rhs; rw [hk]
    rw [Int.natAbs_mul]
    exact Nat.le_mul_of_pos_left _ (by omega)
end RB

set_option Elab.async false
set_option linter.all false
set_option maxRecDepth 100000
set_option maxHeartbeats 2000000
namespace RB
open PySem PySem.Spec PyProof.Rows L2 SX
/-! ## bags as monic polynomials -/
theorem content_fold_scale (f : Int) : ∀ (l : List Int) (s : Int), (l.map (f * ·)).foldl (fun s z => (Int.gcd s z : Int)) ((f.natAbs : Int) * s) = (f.natAbs : Int) * l.foldl (fun s z => (Int.gcd s z : Int)) s
  | [], _ => rfl
  | z :: r, s => by
    rw [List.map_cons, List.foldl_cons, List.foldl_cons]
    have e : ((Int.gcd ((f.natAbs : Int) * s) (f * z) : Nat) : Int) = (f.natAbs : Int) * ((Int.gcd s z : Nat) : Int) := by
      rw [← Int.natCast_mul]
      congr 1
      unfold Int.gcd
      rw [Int.natAbs_mul, Int.natAbs_mul, Int.natAbs_natCast, Nat.gcd_mul_left]
    rw [e]
    exact content_fold_scale f r _
theorem content_scale (f : Int) (l : List Int) : contentZ (l.map (f * ·)) = (f.natAbs : Int) * contentZ l := by
  have := content_fold_scale f l 0
  rw [Int.mul_zero] at this
  exact this
theorem prim_content {zs : List Int} {z : Int} (z0 : z ≠ 0) : contentZ ((zs ++ [z]).map (·.fdiv (primF zs z))) = 1 := by
  obtain ⟨f0, _, _⟩ := prim_math (zs := zs) z0
  have hz : z ∈ zs ++ [z] := by simp
  obtain ⟨c0, c1⟩ := content_ne hz z0
  have c2 := content_nn zs z
  have fa : ((primF zs z).natAbs : Int) = contentZ (zs ++ [z]) := by
    unfold primF
    split <;> omega
  have e : ((zs ++ [z]).map (·.fdiv (primF zs z))).map (primF zs z * ·) = zs ++ [z] := by
    rw [List.map_map]
    have : ∀ x ∈ zs ++ [z], ((primF zs z * ·) ∘ fun x : Int => x.fdiv (primF zs z)) x = x := fun x hx => by
      obtain ⟨k, hk⟩ := content_dvd hx
      have : ∃ k, x = primF zs z * k := by
        unfold primF
        split
        · exact ⟨-k, by rw [Int.neg_mul_neg]; exact hk⟩
        · exact ⟨k, hk⟩
      obtain ⟨k, hk⟩ := this
      show primF zs z * x.fdiv (primF zs z) = x
      rw [fdiv_is f0 hk, ← hk]
    rw [List.map_congr_left this]
    exact List.map_id' _
  have h := content_scale (primF zs z) ((zs ++ [z]).map (·.fdiv (primF zs z)))
  rw [e, fa] at h
  have : contentZ (zs ++ [z]) * (contentZ ((zs ++ [z]).map (·.fdiv (primF zs z))) - 1) = 0 := by
    rw [Int.mul_sub, ← h]
    omega
  rcases Int.mul_eq_zero.mp this with q | q
  · exact absurd q c0
  · omega
/-- whole numbers without a common factor, the last positive, and the monic polynomial -/
structure Prim (W : List Int) (ms : List Rat) : Prop where
  shape : ∃ (ws : List Int) (m : Int), W = ws ++ [m] ∧ 0 < m ∧ (ws ++ [m]).map (fun x : Int => (x : Rat) / (m : Rat)) = ms
  one : contentZ W = 1
theorem Prim.uniq {W W2 : List Int} {ms : List Rat} (a : Prim W ms) (b : Prim W2 ms) : W = W2 := by
  obtain ⟨ws, m, rfl, m0, e1⟩ := a.shape
  obtain ⟨vs, n, rfl, n0, e2⟩ := b.shape
  have mq : (m : Rat) ≠ 0 := rat_ne (by omega)
  have nq : (n : Rat) ≠ 0 := rat_ne (by omega)
  have e3 : (ws ++ [m]).map (n * ·) = (vs ++ [n]).map (m * ·) := by
    have h := e1.trans e2.symm
    have h2 := congrArg (List.map fun q : Rat => (m : Rat) * (n : Rat) * q) h
    rw [List.map_map, List.map_map] at h2
    have l1 : (ws ++ [m]).map ((fun q : Rat => (m : Rat) * (n : Rat) * q) ∘ fun x : Int => (x : Rat) / (m : Rat)) = ((ws ++ [m]).map (n * ·)).map fun z : Int => (z : Rat) := by
      rw [List.map_map]
      refine List.map_congr_left fun x _ => ?_
      show (m : Rat) * (n : Rat) * ((x : Rat) / (m : Rat)) = ((n * x : Int) : Rat)
      rw [Rat.intCast_mul]
      grind
    have l2 : (vs ++ [n]).map ((fun q : Rat => (m : Rat) * (n : Rat) * q) ∘ fun x : Int => (x : Rat) / (n : Rat)) = ((vs ++ [n]).map (m * ·)).map fun z : Int => (z : Rat) := by
      rw [List.map_map]
      refine List.map_congr_left fun x _ => ?_
      show (m : Rat) * (n : Rat) * ((x : Rat) / (n : Rat)) = ((m * x : Int) : Rat)
      rw [Rat.intCast_mul]
      grind
    rw [l1, l2] at h2
    exact (List.map_inj_right (fun x y z => Rat.intCast_inj.mp z)).mp h2
  have c := congrArg contentZ e3
  rw [content_scale, content_scale, a.one, b.one] at c
  have mn : m = n := by omega
  subst mn
  refine (List.map_inj_right (f := (m * ·)) (fun x y z => ?_)).mp e3
  exact Int.eq_of_mul_eq_mul_left (by omega) z
/-- the monic polynomial of a product -/
theorem mon_mul {a b t : List Rat} {y : Rat} {ma mb : Rat} (ha : ∃ r, a = r ++ [1]) (hb : ∃ r, b = r ++ [1]) (y0 : y ≠ 0) (h : ∀ x, ev (t ++ [y]) x = ma * mb * (ev a x * ev b x)) (m0 : ma * mb ≠ 0) : (t ++ [y]).map (· / y) = mulQ a b ∧ y = ma * mb := by
  obtain ⟨ra, rfl⟩ := ha
  obtain ⟨rb, rfl⟩ := hb
  obtain ⟨m, em, el⟩ := mul_last ra 1 rb 1
  have e1 : (1 : Rat) * 1 = 1 := by decide +kernel
  rw [e1] at em
  have t1 : trimL 0 ((mulQ (ra ++ [1]) (rb ++ [1])).map (ma * mb * ·)) = (mulQ (ra ++ [1]) (rb ++ [1])).map (ma * mb * ·) := by
    rw [em, List.map_append]
    refine trim_keep ?_ _
    show ma * mb * 1 ≠ 0
    intro z
    exact m0 (by grind)
  have e2 : t ++ [y] = (mulQ (ra ++ [1]) (rb ++ [1])).map (ma * mb * ·) := by
    refine ev_inj (trim_keep y0 _) t1 fun x => ?_
    rw [h x, ev_smul, ev_mul]
  have ey : y = ma * mb := by
    rw [em, List.map_append] at e2
    have := (List.append_inj' e2 rfl).2
    have : y = ma * mb * 1 := by simpa using this
    grind
  refine ⟨?_, ey⟩
  rw [e2, List.map_map, ey]
  conv => rhs; rw [← List.map_id' (mulQ (ra ++ [1]) (rb ++ [1]))]
  refine List.map_congr_left fun z _ => ?_
  show ma * mb * z / (ma * mb) = z
  grind
end RB

set_option Elab.async false
set_option linter.all false
set_option maxRecDepth 100000
set_option maxHeartbeats 4000000
namespace RB
open PySem PySem.Spec PyProof.Rows L2
/-! ## operators of an own class, both sides of that class -/
section
variable {X : Cx} {CX : CXT} {n : Nat} {f C : Addr} {fd : FuncData} {ps : List Str} {sp : Sp} {E : XK}
def rOwn2 (C : Addr) (sp : Sp) (E : XK) : R2 := fun x y H Q => ∃ (a b dx dy : Addr) (fs gs : List (Str × V)), x = .ref a ∧ y = .ref b ∧ H a = some (.ins C dx fs) ∧ H b = some (.ins C dy gs) ∧ sp [.ref a, .ref b] H Q E
theorem op_own {op : Operator} (F : FnOk X.prog X.w X.K X.mg X.base CX n f fd ps sp) (hc : PySem.W.selfFirst X.K C = true) (hs : PySem.W.findIn X.K (.ref C) (PySem.dunder op.info.2) = some (some (.ref f))) (hf : PySem.W.isFn X.K (.ref f) = true)
    (hb : L2.Binds X.K fd ps []) (hr : Room n X.A) (hx : Passes CX X E) : OpR X (binaryOp op) (rOwn2 C sp E) := by
  intro pins s σ H x y v u Q I rx ry h
  obtain ⟨a, b, dx, dy, fs, gs, rfl, rfl, ha, hb', q⟩ := h
  cases rx
  cases ry
  obtain ⟨_, J, _⟩ := ins_get I.hok ha
  obtain ⟨_, J', _⟩ := ins_get I.hok hb'
  obtain ⟨_, J, _⟩ := J.look
  obtain ⟨_, J', _⟩ := J'.look
  obtain ⟨m, hF⟩ := I.fr
  refine PySem.W.binop_K hF I.ok.mod.kin J J'.type hc hs hf (wpAny_mono (run_fn (vs := [.ref a, .ref b]) F hr hb .nil hx I (.cons rfl (.cons rfl .nil)) (by simpa using q)) (fun v s' z => ?_) fun _ _ e => e)
  obtain ⟨z, H', I', rz, qz⟩ := z
  exact SlX.cmpback rz ⟨z, H', I', rz, qz⟩
theorem op_eqOwn (F : FnOk X.prog X.w X.K X.mg X.base CX n f fd ps sp) (hs : PySem.W.findIn X.K (.ref C) "__eq__" = some (some (.ref f))) (hf : PySem.W.isFn X.K (.ref f) = true) (hb : L2.Binds X.K fd ps []) (hr : Room n X.A) (hx : Passes CX X E) : OpR X (compareOp .Eq) (rOwn2 C sp E) := by
  intro pins s σ H x y v u Q I rx ry h
  obtain ⟨a, b, dx, dy, fs, gs, rfl, rfl, ha, hb', q⟩ := h
  cases rx
  cases ry
  obtain ⟨_, J, _⟩ := ins_get I.hok ha
  obtain ⟨_, J', _⟩ := ins_get I.hok hb'
  obtain ⟨_, J, _⟩ := J.look
  obtain ⟨_, J', _⟩ := J'.look
  obtain ⟨m, hF⟩ := I.fr
  show wpAny (model X.prog X.w) X.A (richCompare .Eq (.ref a) (.ref b)) (EP X pins σ Q) X.xe s
  refine PySem.W.cmp_K (op := .Eq) (tb := .ref C) hr.units0 hF I.ok.mod.kin J J'.type (by simp [PySem.W.notFirst]) hs hf (wpAny_mono (run_fn (vs := [.ref a, .ref b]) F hr hb .nil hx I (.cons rfl (.cons rfl .nil)) (by simpa using q)) (fun v s' z => ?_) fun _ _ e => e)
  obtain ⟨z, H', I', rz, qz⟩ := z
  exact SlX.cmpback rz ⟨z, H', I', rz, qz⟩
/-- what the written part says of a class with an own == and no own != -/
structure NeCls (K : PySem.W.Frag) (C f : Addr) : Prop where
  cls : ∃ (nm q : Str) (N : Addr) (bs : List Value) (hdct : Bool) (sn : List Str) (sub : List Value) (ab : Bool) (col : Option Bool) (dd : Option Addr) (k0 k1 k2 k3 k5 : Option Value) (newId : String),
    K.lookup C = some (excClassObj nm q C N bs [.type "object"] hdct sn sub ab col dd k0 k1 k2 k3 k5 newId) ∧ PySem.W.nsOkIn K N = true ∧ PySem.W.nsIn K N "__eq__" = some (some (.ref f)) ∧ PySem.W.nsIn K N "__ne__" = some none
  fn : ∃ of : Obj, K.lookup f = some of ∧ of.cls = .type "function"
def rNeOwn (C : Addr) (sp : Sp) (E : XK) : R2 := fun x y H Q => ∃ (a b dx dy : Addr) (fs gs : List (Str × V)), x = .ref a ∧ y = .ref b ∧ H a = some (.ins C dx fs) ∧ H b = some (.ins C dy gs) ∧ sp [.ref a, .ref b] H (fun v H' => ∃ t, v = .bl t ∧ Q (.bl (!t)) H') E
theorem ns_has {K : PySem.W.Frag} {h : Heap} {N : Addr} {mN : Str → Option Value} {x : Str} {v : Value} (X : K.In h) (G : h.Ns N mN) (e : PySem.W.nsIn K N x = some (some v)) : mN x = some v := by
  obtain ⟨o, es, ep, ho, hd, _, hf⟩ := G
  unfold PySem.W.nsIn at e
  split at e
  · rename_i _ _ _ _ _ q
    have z := X _ _ q
    rw [ho] at z
    cases z
    cases hd
    split at e
    · rename_i he
      rw [← hf]
      unfold nsFind findBy
      rw [← Array.find?_toList, he]
      exact Option.some.inj e
    · split at e <;> cases e
  · cases e
theorem op_neOwn (F : FnOk X.prog X.w X.K X.mg X.base CX n f fd ps sp) (T : NeCls X.K C f) (hb : L2.Binds X.K fd ps []) (hr : Room (n + 1) X.A) (hx : Passes CX X E) : OpR X (compareOp .NotEq) (rNeOwn C sp E) := by
  intro pins s σ H x y v u Q I rx ry h
  obtain ⟨a, b, dx, dy, fs, gs, rfl, rfl, ha, hb', q⟩ := h
  cases rx
  cases ry
  obtain ⟨_, J, _⟩ := ins_get I.hok ha
  obtain ⟨_, J', _⟩ := ins_get I.hok hb'
  obtain ⟨nm, qn, N, bs, hdct, sn, sub, ab, col, dd, k0, k1, k2, k3, k5, newId, hC, hN, he, hne⟩ := T.cls
  obtain ⟨of, hfo, hfc⟩ := T.fn
  have X' := I.kIn
  have G : s.heap.Ns N (s.heap.nsMap N) := .of_isNs (PySem.W.isNs_of_in X' hN)
  have own : s.heap.OwnEqNoNe a C f "object" [.type "object"] :=
    ⟨_, of, nm, qn, N, bs, hdct, sn, sub, ab, col, dd, k0, k1, k2, k3, k5, newId, _, _, J.obj, rfl, X' _ _ hC, G, ns_has X' G he, X' _ _ hfo, hfc, PySem.F.mro_object, PySem.F.cmp_object.eq.lookup, PySem.W.ns_none_of X' G hne⟩
  have hr1 : Room n X.A.in1 := Room.in1 hr
  have hl : ([.ref a, .ref b] : List Value).length = ps.length := F.len _ _ _ _ q
  have bd := hb s [.ref a, .ref b] X' (by rw [List.append_nil]; exact hl)
  rw [List.append_nil] at bd
  obtain ⟨hh, g, d, tt, os⟩ := s
  refine compareOp_ne_ownEq PySem.F.cmp_object own J'.obj rfl hr1.units0 (wpAny_call (codeAny_mono (F.run X.A.in1 X.stack _ H ⟨[.ref a, .ref b], []⟩ [.ref a, .ref b] [.ref a, .ref b] _ E hr1 I.env0.in1 bd (.cons rfl (.cons rfl .nil)) q) fun r s' hq => ?_))
  cases r with
  | error e => exact hx pins σ H _ e s' I hq
  | ok fl =>
    cases fl with
    | ret w =>
      obtain ⟨z, H', I', rz, t, ez, qz⟩ := I.after hq
      subst ez
      cases (show w = Value.bool t from rz)
      exact ⟨t, rfl, .bl (!t), H', I', rfl, qz⟩
    | next => exact False.elim hq
    | brk => exact False.elim hq
    | cont => exact False.elim hq
end
end RB

set_option Elab.async false
set_option linter.all false
set_option maxRecDepth 100000
set_option maxHeartbeats 2000000
/-! the end by facts: every function by a path, everything else by one list of Bools -/
namespace RBH
open PySem PySem.Spec PyProof.Rows L2 He
/-! ### paths -/
/-- a method read off a class -/
def fcv (K : PySem.W.Frag) (B : Addr) (m : Str) : Addr := match PySem.W.findCls K (.ref B) (.type "type") m with
  | some (.val (.ref a)) => a
  | _ => 0
def fcvB (K : PySem.W.Frag) (B : Addr) (m : Str) : Bool := match PySem.W.findCls K (.ref B) (.type "type") m with
  | some (.val (.ref _)) => true
  | _ => false
theorem fcv_ok {K : PySem.W.Frag} {B : Addr} {m : Str} (h : fcvB K B m = true) : PySem.W.findCls K (.ref B) (.type "type") m = some (.val (.ref (fcv K B m))) := by
  unfold fcvB at h
  unfold fcv
  split at h
  · rename_i a e
    rw [e]
  · cases h
/-- a class method's object -/
def fcg (K : PySem.W.Frag) (C : Addr) (m : Str) : Addr := match PySem.W.findCls K (.ref C) (.type "type") m with
  | some (.get _ (.ref a) _ _) => a
  | _ => 0
def fcgB (K : PySem.W.Frag) (C : Addr) (m : Str) : Bool := match PySem.W.findCls K (.ref C) (.type "type") m with
  | some (.get g (.ref _) o t) => decide (g = .builtin "classmethod.__get__") && (decide (o = .none) && decide (t = .ref C))
  | _ => false
theorem fcg_ok {K : PySem.W.Frag} {C : Addr} {m : Str} (h : fcgB K C m = true) : PySem.W.findCls K (.ref C) (.type "type") m = some (.get (.builtin "classmethod.__get__") (.ref (fcg K C m)) .none (.ref C)) := by
  unfold fcgB at h
  unfold fcg
  split at h
  · rename_i g a o t e
    obtain ⟨h1, h2⟩ := ba h
    obtain ⟨h3, h4⟩ := ba h2
    rw [e, of_decide_eq_true h1, of_decide_eq_true h3, of_decide_eq_true h4]
  · cases h
/-- the first of a record, the others -/
def rc0 (K : PySem.W.Frag) (p : Addr) (T : String) : Addr := match PySem.W.recIn K p T with
  | some (.ref a :: _) => a
  | _ => 0
def rcT (K : PySem.W.Frag) (p : Addr) (T : String) : List Value := match PySem.W.recIn K p T with
  | some (_ :: r) => r
  | _ => []
/-- the token of a module's int -/
def iTok (K : PySem.W.Frag) (x : Str) : Tok := match PySem.W.nsIn K mainGlobals x with
  | some (some (.int _ t)) => t
  | _ => default
/-- a def's defaults -/
def dfT (K : PySem.W.Frag) (f : Addr) : Addr := match K.lookup f with
  | some ⟨_, _, .func fd, _⟩ => (match fd.defaults with
    | .ref T => T
    | _ => 0)
  | _ => 0
/-! ### a class of errors -/
def excO (K : PySem.W.Frag) (C : Addr) : Bool := match K.lookup C with
  | some ⟨t, _, .cls cd, sl⟩ => decide (t = .type "type") && (match cd.mro, sl.toList with
    | .ref C' :: bm, [_, _, _, _, some (.builtin n), _] => C' == C && (n == "ValueError.__new__" && (!cd.hasDel && (cd.hasDict && PySem.HandSPX.refsVE bm)))
    | _, _ => false)
  | _ => false
theorem excO_ok {K : PySem.W.Frag} {C : Addr} (h : excO K C = true) : ∃ nm q N bs bm sn sub ab col dd k0 k1 k2 k3 k5, K.lookup C = some (excClassObj nm q C N bs bm true sn sub ab col dd k0 k1 k2 k3 k5 "ValueError.__new__") ∧ PySem.HandSPX.refsVE bm = true := by
  unfold excO at h
  split at h
  · rename_i t dd cd sl ho
    obtain ⟨h0, g⟩ := ba h
    clear h
    have h0 := of_decide_eq_true h0
    subst h0
    split at g
    · rename_i C' bm k0 k1 k2 k3 n k5 hm hs
      obtain ⟨h1, g⟩ := ba g
      obtain ⟨h2, g⟩ := ba g
      obtain ⟨h3, g⟩ := ba g
      obtain ⟨h4, h5⟩ := ba g
      have h1 := eq_of_beq h1
      have h2 := eq_of_beq h2
      subst h1 h2
      obtain ⟨nm, bs, mro, ns, qn, hd, sn, sub, ab, col, del⟩ := cd
      dsimp only at hm h3 h4
      have h3 : del = false := by
        cases del with
        | false => rfl
        | true => cases h3
      subst hm h3 h4
      have hsl : sl = #[k0, k1, k2, k3, some (.builtin "ValueError.__new__"), k5] := by
        obtain ⟨l⟩ := sl
        exact congrArg Array.mk hs
      subst hsl
      exact ⟨nm, qn, ns, bs, bm, sn, sub, ab, col, dd, k0, k1, k2, k3, k5, ho, h5⟩
    · cases g
  · cases h
/-! ### functions -/
def fnA (K : PySem.W.Frag) (a : Addr) : FnW := match K.lookup a with
  | some ⟨_, _, .func fd, _⟩ => some (fd.name, fd.qualname, fd.params, fd.body, fd.scope, fd.globals, fd.closure, fd.builtins)
  | _ => none
/-- one def: where it stands, what it is, whether it has defaults -/
structure DefR where
  at_ : PySem.W.Frag → Addr
  name : Str
  qual : Str
  params : Arguments
  body : List Stmt
  scope : Scope
  dfl : Bool := false
def DefR.val (d : DefR) : FnW := some (d.name, d.qual, d.params, .stmts d.body, d.scope, mainGlobals, [], builtinsNs)
def DefR.ok (K : PySem.W.Frag) (d : DefR) : Bool := PySem.W.keepIn K (.ref (d.at_ K)) && (match K.lookup (d.at_ K) with
  | some ⟨_, _, .func fd, _⟩ => PySem.W.codeIn K fd.code d.qual && (match fd.defaults with
    | .none => !d.dfl
    | .ref T => d.dfl && (match K.lookup T with
      | some ⟨_, _, .seq _ _, _⟩ => true
      | _ => false)
    | _ => false)
  | _ => false)
/-- what is known of a def -/
def DefR.Is (K : PySem.W.Frag) (d : DefR) (dV : Value) : Prop := ∃ oc od osl kV doc pm an cdv ct, K.lookup (d.at_ K) = some ⟨oc, od, .func (PySem.W.fnOf d.name d.qual d.params d.body d.scope dV kV doc pm an cdv ct), osl⟩ ∧ PySem.W.codeIn K cdv d.qual = true
theorem DefR.is {K : PySem.W.Frag} {d : DefR} (e : fnA K (d.at_ K) = d.val) (c : d.ok K = true) : PySem.W.keepIn K (.ref (d.at_ K)) = true ∧ ∃ dV, d.Is K dV ∧ (d.dfl = false → dV = .none) ∧ (d.dfl = true → ∃ oT its n, dV = .ref (dfT K (d.at_ K)) ∧ K.lookup (dfT K (d.at_ K)) = some oT ∧ oT.data = .seq its n) := by
  obtain ⟨kp, c2⟩ := ba c
  refine ⟨kp, ?_⟩
  unfold DefR.Is
  unfold dfT
  unfold fnA at e
  cases q : K.lookup (d.at_ K) with
  | none =>
    rw [q] at c2
    cases c2
  | some o =>
    obtain ⟨oc, od, dt, osl⟩ := o
    rw [q] at c2 e
    cases dt with
    | func fd =>
      obtain ⟨n1, n2, n3, n4, n5, n6, n7, n8, n9, n10, n11, n12, n13, n14, n15⟩ := fd
      have e2 : (some (n1, n2, n3, n4, n5, n6, n7, n15) : FnW) = some (d.name, d.qual, d.params, .stmts d.body, d.scope, mainGlobals, [], builtinsNs) := e
      simp only [Option.some.injEq, Prod.mk.injEq] at e2
      obtain ⟨h1, h2, h3, h4, h5, h6, h7, h8⟩ := e2
      subst h1 h2 h3 h4 h5 h6 h7 h8
      obtain ⟨k1, k2⟩ := ba c2
      refine ⟨n8, ⟨oc, od, osl, n9, n10, n11, n12, n13, n14, rfl, k1⟩, fun hd => ?_, fun hd => ?_⟩
      · cases n8 with
        | none => rfl
        | ref T =>
          have k3 : (d.dfl && _) = true := k2
          rw [hd] at k3
          cases k3
        | _ => cases k2
      · cases n8 with
        | none =>
          have k3 : (!d.dfl) = true := k2
          rw [hd] at k3
          cases k3
        | ref T =>
          obtain ⟨_, k3⟩ := ba (show (d.dfl && (match K.lookup T with
            | some ⟨_, _, .seq _ _, _⟩ => true
            | _ => false)) = true from k2)
          cases q2 : K.lookup T with
          | none =>
            rw [q2] at k3
            cases k3
          | some o2 =>
            obtain ⟨oc2, od2, dt2, osl2⟩ := o2
            rw [q2] at k3
            cases dt2 with
            | seq its n => exact ⟨_, its, n, rfl, rfl, rfl⟩
            | _ => cases k3
        | _ => cases k2
    | _ => cases c2
/-! ### the Hook -/
/-- what an object names, as far as it is looked at -/
def nx (g : Addr → Option Obj) (a : Addr) : List Addr := match g a with
  | some o => (match o.data with
    | .func fd => refV fd.code ++ refV fd.defaults
    | .cls cd => [cd.ns]
    | .dict es _ => es.toList.flatMap fun e => refV e.val
    | .seq its _ => its.toList.flatMap refV
    | .fields vs => (match o.cls with
      | .type c => (match c == "property" || c == "classmethod" with
        | true => (vs.toList.take 1).flatMap refV
        | false => [])
      | _ => [])
    | _ => [])
  | none => []
def lvl (g : Addr → Option Obj) : Nat → List Addr → List Addr
  | 0, _ => []
  | n + 1, as => as ++ lvl g n (as.flatMap (nx g))
/-- the part of the heap that is looked at -/
def frR (n : Nat) (g : Addr → Option Obj) : PySem.W.Frag := frT g (mainGlobals :: cStatics :: lvl g n (nx g mainGlobals))
abbrev AlR : Type := Bool × List FnW
def obsR (n : Nat) (fn : List DefR) (tf : List Defn) (ex : PySem.W.Frag → Bool) (g : Addr → Option Obj) : AlR := (ex (frR n g) && (tabsB g tf (frR n g) && fn.all fun d => d.ok (frR n g)), fn.map fun d => fnA (frR n g) (d.at_ (frR n g)))
def valR (fn : List DefR) : AlR := (true, fn.map DefR.val)
structure SaysR (fn : List DefR) (tf : List Defn) (ex : PySem.W.Frag → Bool) (h : Heap) (K : PySem.W.Frag) : Prop where
  more : ex K = true
  defs : ∀ d ∈ fn, d.ok K = true
  fns : fn.map (fun d => fnA K (d.at_ K)) = fn.map DefR.val
  hd : ∀ p ∈ tf, PySem.W.codeHdIn K (cT K p).1 (cT K p).2 = true
  out : ∀ p ∈ tf, K.lookup (cT K p).2 = none
  empty : ∀ p ∈ tf, h.get? (cT K p).2 = some { cls := .none, data := .fields #[] }
theorem saysR_of {n : Nat} {fn : List DefR} {tf : List Defn} {ex : PySem.W.Frag → Bool} {h : Heap} (e : obsR n fn tf ex h.get? = valR fn) : SaysR fn tf ex h (frR n h.get?) := by
  have e1 : (ex (frR n h.get?) && (tabsB h.get? tf (frR n h.get?) && fn.all fun d => d.ok (frR n h.get?))) = true := congrArg (fun z : AlR => z.1) e
  obtain ⟨h1, h2⟩ := ba e1
  obtain ⟨h2, h3⟩ := ba h2
  have key : ∀ p ∈ tf, PySem.W.codeHdIn (frR n h.get?) (cT (frR n h.get?) p).1 (cT (frR n h.get?) p).2 = true ∧ ∃ o, h.get? (cT (frR n h.get?) p).2 = some o ∧ emptyTab o = true := fun p hp => by
    obtain ⟨h3, h4⟩ := ba (List.all_eq_true.mp h2 p hp)
    refine ⟨h3, ?_⟩
    cases q : h.get? (cT (frR n h.get?) p).2 with
    | none =>
      rw [q] at h4
      cases h4
    | some o =>
      rw [q] at h4
      exact ⟨o, rfl, h4⟩
  exact ⟨h1, fun d hd => List.all_eq_true.mp h3 d hd, congrArg (fun z : AlR => z.2) e, fun p hp => (key p hp).1, fun p hp => by
    obtain ⟨_, o, q, z⟩ := key p hp
    exact frT_none q z, fun p hp => by
    obtain ⟨_, o, q, z⟩ := key p hp
    rw [q, emptyTab_eq z]⟩
def hookR (n : Nat) (fn : List DefR) (tf : List Defn) (ex : PySem.W.Frag → Bool) : PySem.W.Hook where
  α := AlR
  obs := fun s => obsR n fn tf ex s.heap.get?
  val := fun _ => valR fn
  says := fun _ h => ∃ K : PySem.W.Frag, K.In h ∧ SaysR fn tf ex h K
  of := fun _ _ e => ⟨_, frT_in, saysR_of e⟩
  keeps := fun _ _ _ ⟨K, hK, c⟩ k => ⟨K, PySem.W.Frag.In.keeps hK k, ⟨c.more, c.defs, c.fns, c.hd, c.out, fun p hp => k _ _ (c.empty p hp)⟩⟩
theorem obsR_eq {n : Nat} {fn : List DefR} {tf : List Defn} {ex : PySem.W.Frag → Bool} {g : Addr → Option Obj} {s : Shared} (h : ∀ a, g a = s.heap.get? a) : obsR n fn tf ex g = (hookR n fn tf ex).obs s := by
  have e : g = s.heap.get? := funext h
  rw [e] <;> rfl
section
variable {fn : List DefR} {tf : List Defn} {h : Heap} {K : PySem.W.Frag}
theorem SaysR.def_ {ex : PySem.W.Frag → Bool} (c : SaysR fn tf ex h K) (i : Nat) {d : DefR} (hi : fn[i]? = some d := by rfl) : PySem.W.keepIn K (.ref (d.at_ K)) = true ∧ ∃ dV, d.Is K dV ∧ (d.dfl = false → dV = .none) ∧ (d.dfl = true → ∃ oT its n, dV = .ref (dfT K (d.at_ K)) ∧ K.lookup (dfT K (d.at_ K)) = some oT ∧ oT.data = .seq its n) := by
  have e2 : (fn.map fun d => fnA K (d.at_ K))[i]? = (fn.map DefR.val)[i]? := by rw [c.fns]
  rw [List.getElem?_map, List.getElem?_map, hi] at e2
  exact DefR.is (Option.some.inj e2) (c.defs d (List.mem_of_getElem? hi))
theorem SaysR.def0 {ex : PySem.W.Frag → Bool} (c : SaysR fn tf ex h K) (i : Nat) {d : DefR} (hi : fn[i]? = some d := by rfl) (hd : d.dfl = false := by rfl) : PySem.W.keepIn K (.ref (d.at_ K)) = true ∧ d.Is K .none := by
  obtain ⟨k, dV, a, b, _⟩ := c.def_ i hi
  rw [b hd] at a
  exact ⟨k, a⟩
theorem SaysR.def1 {ex : PySem.W.Frag → Bool} (c : SaysR fn tf ex h K) (i : Nat) {d : DefR} (hi : fn[i]? = some d := by rfl) (hd : d.dfl = true := by rfl) : PySem.W.keepIn K (.ref (d.at_ K)) = true ∧ d.Is K (.ref (dfT K (d.at_ K))) ∧ ∃ oT its n, K.lookup (dfT K (d.at_ K)) = some oT ∧ oT.data = .seq its n := by
  obtain ⟨k, dV, a, _, b⟩ := c.def_ i hi
  obtain ⟨oT, its, n, e, h1, h2⟩ := b hd
  rw [e] at a
  exact ⟨k, a, oT, its, n, h1, h2⟩
theorem SaysR.get {chk : PySem.W.Frag → List Bool} (c : SaysR fn tf (fun K => (chk K).all id) h K) (i : Nat) {b : Bool} (hi : (chk K)[i]? = some b := by rfl) : b = true := List.all_eq_true.mp c.more b (List.mem_of_getElem? hi)
theorem SaysR.dec {chk : PySem.W.Frag → List Bool} (c : SaysR fn tf (fun K => (chk K).all id) h K) (i : Nat) {p : Prop} {d : Decidable p} (hi : (chk K)[i]? = some (@decide p d) := by rfl) : p := of_decide_eq_true (c.get i hi)
end
end RBH
namespace RBH
open PySem PySem.Spec PyProof.Rows L2 He
/-- a tuple of one -/
def oneB (K : PySem.W.Frag) (T : Addr) : Bool := match K.lookup T with
  | some ⟨_, _, .seq its _, _⟩ => decide (its.size = 1)
  | _ => false
theorem one_ok {K : PySem.W.Frag} {T : Addr} (h : oneB K T = true) : ∃ (oT : Obj) (z : Value) (n : Nat), K.lookup T = some oT ∧ oT.data = .seq #[z] n := by
  unfold oneB at h
  cases q : K.lookup T with
  | none =>
    rw [q] at h
    cases h
  | some o =>
    obtain ⟨oc, od, dt, osl⟩ := o
    rw [q] at h
    cases dt with
    | seq its n =>
      have h1 : its.size = 1 := of_decide_eq_true h
      obtain ⟨l⟩ := its
      match l, h1 with
      | [z], _ => exact ⟨_, z, n, rfl, rfl⟩
    | _ => cases h
end RBH

set_option Elab.async false
set_option linter.all false
set_option maxRecDepth 100000
set_option maxHeartbeats 4000000
namespace RB
open PySem PySem.Spec PyProof.Rows L2
def topS (i : Nat) : Stmt := PySem.Challenge.pw_rootbags_k70_residues_that_are_refused.main.body.getD i (.Pass ⟨0, 0, 0, 0⟩)
abbrev s_wall : Stmt := topS 0
abbrev sShared : Stmt := topS 16
abbrev s_least_multiple : Stmt := topS 17
abbrev sLowest : Stmt := topS 18
abbrev s_as_pair : Stmt := topS 19
abbrev s_rational : Stmt := topS 20
abbrev s_over_one_scale : Stmt := topS 21
abbrev s_trimmed : Stmt := topS 24
abbrev s_scaled : Stmt := topS 25
abbrev s_powers_of : Stmt := topS 26
abbrev s_stretched : Stmt := topS 27
abbrev s_difference : Stmt := topS 28
abbrev s_product : Stmt := topS 29
abbrev s_split_whole : Stmt := topS 30
abbrev s_exact_quotient : Stmt := topS 31
abbrev s_content : Stmt := topS 32
abbrev s_without_factor : Stmt := topS 33
abbrev s_primitive : Stmt := topS 34
abbrev s_rest_by_prime : Stmt := topS 35
abbrev s_are_plainly_apart : Stmt := topS 36
abbrev s_shared_whole : Stmt := topS 37
abbrev s_whole_parts : Stmt := topS 39
abbrev s_left_over : Stmt := topS 41
abbrev s_root_scale : Stmt := topS 42
abbrev s_monic_whole : Stmt := topS 43
abbrev s_sums_of_powers : Stmt := topS 44
abbrev s_numbers_of_sums : Stmt := topS 45
abbrev s_mixed_sums : Stmt := topS 46
abbrev s_pair_sum_numbers : Stmt := topS 47
abbrev s_pair_product_numbers : Stmt := topS 48
abbrev s_power_numbers : Stmt := topS 49
abbrev s_check_size : Stmt := topS 54
abbrev s_early_sizes : Stmt := topS 55
abbrev s_lowest_by : Stmt := topS 56
abbrev s_increase : Stmt := topS 59
abbrev s_companion : Stmt := topS 60
abbrev s_matrix_product : Stmt := topS 61
abbrev s_with_diagonal : Stmt := topS 62
abbrev s_matrix_of_values : Stmt := topS 63
abbrev s_first_traces : Stmt := topS 64
abbrev s_corner_vector : Stmt := topS 65
abbrev s_border_numbers : Stmt := topS 66
abbrev s_characteristic : Stmt := topS 67
abbrev s_numbers_of_matrix : Stmt := topS 68
abbrev s_check_road : Stmt := topS 72
abbrev s_check_exponent : Stmt := topS 73
abbrev s_values_by_matrix : Stmt := topS 74
abbrev s_powers : Stmt := topS 75
abbrev s_inverse_by : Stmt := topS 77
abbrev s_rest_by : Stmt := topS 78
abbrev s_power_rest : Stmt := topS 79
abbrev s_term_by : Stmt := topS 80
abbrev s_check_count : Stmt := topS 84
abbrev s_check_place : Stmt := topS 85
abbrev s_base_powers : Stmt := topS 86
abbrev s_next_number : Stmt := topS 87
abbrev s_term_pairs : Stmt := topS 88
abbrev s_lowest_terms : Stmt := topS 89
abbrev sDraws : Stmt := topS 92
abbrev sDraw : Stmt := topS 93
abbrev sPick : Stmt := topS 94
abbrev sField : Stmt := topS 95
abbrev sTry : Stmt := topS 96
abbrev sLaw : Stmt := topS 97
abbrev sBagInit : Stmt := inClass (topS 2) 0
abbrev sInvInit : Stmt := inClass (topS 3) 0
abbrev c_InvalidPolynomial_init : Stmt := inClass (topS 4) 0
abbrev c_SizeExceeded_init : Stmt := inClass (topS 5) 0
abbrev c_DigitsExceeded_init : Stmt := inClass (topS 6) 0
abbrev c_InvalidExponent_init : Stmt := inClass (topS 7) 0
abbrev c_InvalidCount_init : Stmt := inClass (topS 8) 0
abbrev c_InvalidRoad_init : Stmt := inClass (topS 9) 0
abbrev c_InvalidRow_init : Stmt := inClass (topS 10) 0
abbrev c_InvalidPlace_init : Stmt := inClass (topS 11) 0
abbrev c_InvalidModulus_init : Stmt := inClass (topS 12) 0
abbrev c_SharedDivisor_init : Stmt := inClass (topS 13) 0
abbrev c_Missing_init : Stmt := inClass (topS 14) 0
abbrev c_Bag_init : Stmt := inClass (topS 57) 1
abbrev c_Bag_of : Stmt := inClass (topS 57) 2
abbrev c_Bag_of_sums : Stmt := inClass (topS 57) 3
abbrev c_Bag_size : Stmt := inClass (topS 57) 4
abbrev c_Bag_coefficients : Stmt := inClass (topS 57) 5
abbrev c_Bag_power_sums : Stmt := inClass (topS 57) 6
abbrev c_Bag_often : Stmt := inClass (topS 57) 7
abbrev c_Bag_len : Stmt := inClass (topS 57) 8
abbrev c_Bag_eq : Stmt := inClass (topS 57) 9
abbrev c_Bag_repr : Stmt := inClass (topS 57) 10
abbrev c_Bag_contains : Stmt := inClass (topS 57) 11
abbrev c_Bag_or : Stmt := inClass (topS 57) 12
abbrev c_Bag_and : Stmt := inClass (topS 57) 13
abbrev c_Bag_neg : Stmt := inClass (topS 57) 14
abbrev c_Bag_add : Stmt := inClass (topS 57) 15
abbrev c_Bag_sub : Stmt := inClass (topS 57) 16
abbrev c_Bag_mul : Stmt := inClass (topS 57) 17
abbrev c_Row_init : Stmt := inClass (topS 90) 0
abbrev c_Row_terms : Stmt := inClass (topS 90) 1
abbrev c_Row_call : Stmt := inClass (topS 90) 2
abbrev c_Row_walk : Stmt := inClass (topS 90) 3
abbrev c_Row_residue : Stmt := inClass (topS 90) 4
abbrev c_Row_add : Stmt := inClass (topS 90) 5
abbrev c_Row_mul : Stmt := inClass (topS 90) 6
abbrev c_Row_neg : Stmt := inClass (topS 90) 7
abbrev c_Row_eq : Stmt := inClass (topS 90) 8
abbrev c_Row_len : Stmt := inClass (topS 90) 9
abbrev c_Row_repr : Stmt := inClass (topS 90) 10
abbrev c_Row_total : Stmt := inClass (topS 90) 11
abbrev c_Row_every : Stmt := inClass (topS 90) 12
abbrev c_Row_shifted : Stmt := inClass (topS 90) 13
end RB

set_option Elab.async false
set_option linter.all false
set_option maxRecDepth 100000
set_option maxHeartbeats 4000000
namespace RB
open PySem PySem.Spec PyProof.Rows L2
section
variable {P : Program} {w : World} {K : PySem.W.Frag} {mg : Str → Option Value} {base : Heap}
theorem sc_bag : FnScope ["self", "code"] ["self", "code"] (defScope sBagInit) := ⟨rfl, rfl, rfl, by decide +kernel, rfl, by decide +kernel, by decide +kernel⟩
theorem ok_bag {f : Addr} {oc dV kV doc pm cdv ct : Value} {od an : Option Addr} {osl : Array (Option Value)} {k : Nat} (lk : K.lookup f = some ⟨oc, od, .func (PySem.W.fnOf "__init__" "BagError.__init__" (defArgs sBagInit) (defBody sBagInit) (defScope sBagInit) dV kV doc pm an cdv ct), osl⟩) (hcd : PySem.W.codeIn K cdv "BagError.__init__" = true) :
    FnOk P w K mg base CX0 (k + 1) f (PySem.W.fnOf "__init__" "BagError.__init__" (defArgs sBagInit) (defBody sBagInit) (defScope sBagInit) dV kV doc pm an cdv ct) ["self", "code"] (spBag K) := by
  refine fn_of lk hcd sc_bag (fun vs H Q E h => ?_) fun A outer s H vs Q E hr h => ?_
  · obtain ⟨a, C, c, rfl, _⟩ := h
    rfl
  · obtain ⟨a, C, c, rfl, T, hno, ha, q⟩ := h
    exact ⟨_, pss_one (ps_ost (pv 0) (pv 1)), .str c, rfl, .ref a, rfl, a, C, rfl, T, hno, .inl ⟨ha, fun dx n ne => q dx n ne⟩⟩
theorem binds_bag {T : Addr} {kV doc pm cdv ct : Value} {an : Option Addr} {o : Obj} {z : Value} {n : Nat} (lT : K.lookup T = some o) (oT : o.data = .seq #[z] n) : L2.Binds K (PySem.W.fnOf "__init__" "BagError.__init__" (defArgs sBagInit) (defBody sBagInit) (defScope sBagInit) (.ref T) kV doc pm an cdv ct) ["self", "code"] [] := by
  intro s us X hl
  match us, hl with
  | [x, y], _ =>
    obtain ⟨k, e1, e2⟩ : ∃ k, bindArgs (PySem.W.fnOf "__init__" "BagError.__init__" (defArgs sBagInit) (defBody sBagInit) (defScope sBagInit) (.ref T) kV doc pm an cdv ct) ⟨[x, y], []⟩ = seqItems? (.ref T) >>= k ∧ k (some #[z]) = pure ((["self", "code"] : List Str).zip ([x, y] ++ [])) := ⟨_, rfl, rfl⟩
    refine BindsTo.of_looks fun M => ?_
    rw [e1]
    exact looks_items X lT oT (.of_pure e2)
theorem sc_inv : FnScope ["self"] ["self"] (defScope sInvInit) := ⟨rfl, rfl, rfl, by decide +kernel, rfl, by decide +kernel, by decide +kernel⟩
/-- raise InvalidNumber(): what the written part says of the two classes -/
structure TInv (K : PySem.W.Frag) (mg : Str → Option Value) (B C fB fC : Addr) (fdB fdC : FuncData) : Prop where
  oex : OexC K C
  gC : mg "InvalidNumber" = some (.ref C)
  gB : mg "BagError" = some (.ref B)
  no : PySem.W.findIn K (.ref C) "code" = some none
  iC : PySem.W.findIn K (.ref C) "__init__" = some (some (.ref fC))
  tC : PySem.W.typeIn K (.ref fC) = some (.type "function")
  rd : ClX.CRead K B (.type "type")
  at_ : PySem.W.findCls K (.ref B) (.type "type") "__init__" = some (.val (.ref fB))
  kB : PySem.W.keepIn K (.ref fB) = true
  bB : L2.Binds K fdB ["self", "code"] []
  FC : L2.Fun K "__init__" "InvalidNumber.__init__" sInvInit fC fdC
  bC : L2.Binds K fdC ["self"] []
theorem err_inv {B C fB fC : Addr} {fdB fdC : FuncData} (T : TInv K mg B C fB fC fdB fdC) (GB : FnOk P w K mg base CX0 1 fB fdB ["self", "code"] (spBag K)) : Err0 P w K mg base 2 "InvalidNumber" "InvalidNumber" C := by
  refine ⟨T.oex, T.gC, fC, fdC, ["self"], T.iC, T.tC, T.bC, ?_⟩
  refine T.FC.ok (k := 1) sc_inv (fun vs H Q E h => ?_) (fun cdv A outer s H vs Q E hr h => ?_)
  · obtain ⟨a, rfl, _⟩ := h
    rfl
  · obtain ⟨a, rfl, ha, q⟩ := h
    refine ⟨_, pss_one (ps_expr (pe_bcall (by rfl) T.gB T.rd T.at_ T.kB GB hr T.bB pass0 (pa_cons (pv 0) (pa_cons pe_str pa_nil)))), ?_⟩
    exact ⟨.ref a, rfl, a, C, _, rfl, T.oex, T.no, ha, fun dx n ne => q dx n ne⟩
theorem sc_shared : FnScope ["one", "other"] ["one", "other"] (defScope sShared) := ⟨rfl, rfl, rfl, by decide +kernel, rfl, by decide +kernel, by decide +kernel⟩
theorem ok_shared {f : Addr} {fd : FuncData} {k : Nat} (F : L2.Fun K "shared_factor" "shared_factor" sShared f fd) (mabs : mg "abs" = none) : FnOk P w K mg base CX0 (k + 1) f fd ["one", "other"] spGcd := by
  have nd := sc_shared.nd
  refine F.ok sc_shared (fun vs H Q E h => ?_) (fun cdv A outer s H vs Q E hr h => ?_)
  · obtain ⟨a, b, rfl, _⟩ := h
    rfl
  · obtain ⟨a, b, rfl, q⟩ := h
    refine ⟨_, pss_cons (ps_while PassesOwn.never (pt_cmpR op_ne (pv 1) pe_int (nomark _)) (pss_one (ps_par (i := 0) (j := 1) (by rfl) nd rfl rfl (by decide) rfl rfl (pa_cons (pv 1) (pa_cons (pe_op op_modN (pv 0) (pv 1)) pa_nil)) (by rfl))))
      (pss_one (ps_ret (pe_callB call_abs (by rfl) mabs (by decide +kernel) (pa_cons (pv 0) pa_nil)))), ?_⟩
    refine while_by (fun σ H' => ∃ x y : Int, σ = [some (.int x), some (.int y)] ∧ Int.gcd x y = Int.gcd a b ∧ H' = H) (fun σ _ => match σ with | [_, some (.int y)] => y.natAbs | _ => 0) ⟨a, b, rfl, rfl, rfl⟩ ?_ ?_
    · rintro σ H' ⟨x, y, rfl, g, rfl⟩
      refine ⟨.int y, rfl, rfl, _, rfl, ?_⟩
      by_cases c : y = 0
      · subst c
        refine iteF ?_
        refine ⟨.int x, rfl, x, rfl, ?_⟩
        have e : (if x < 0 then -x else x) = (Int.gcd a b : Int) := by
          rw [← g, Int.gcd_zero_right]
          split <;> omega
        rw [e]
        exact q
      · have cc : (!decide (V.int y = V.int 0)) = true := by simp [c]
        rw [cc]
        refine iteT ?_
        refine ⟨.int y, rfl, .int x, rfl, .int y, rfl, x, y, rfl, rfl, c, _, _, rfl, ⟨y, x.fmod y, rfl, ?_, rfl⟩, ?_⟩
        · rw [gcd_fmod, g]
        · exact natAbs_fmod_lt x y c
    · rintro σ H' Q1 Q2 imp ⟨v, hv, hs, k, hk, q1⟩
      exact ⟨v, hv, hs, k, hk, imp _ _ q1⟩
theorem sc_lowest : FnScope ["numerator", "denominator", "shared"] ["numerator", "denominator"] (defScope sLowest) := ⟨rfl, rfl, rfl, by decide +kernel, rfl, by decide +kernel, by decide +kernel⟩
theorem ok_lowest {f fS C : Addr} {fd fdS : FuncData} {k : Nat} (F : L2.Fun K "lowest" "lowest" sLowest f fd) (GS : FnOk P w K mg base CX0 1 fS fdS ["one", "other"] spGcd) (gS : mg "shared_factor" = some (.ref fS)) (kS : PySem.W.keepIn K (.ref fS) = true) (bS : L2.Binds K fdS ["one", "other"] [])
    (TE : Err0 P w K mg base 2 "InvalidNumber" "InvalidNumber" C) : FnOk P w K mg base (L2.CX P w) 4 f fd ["numerator", "denominator"] (spLowest C) := by
  have nd := sc_lowest.nd
  refine F.okX sc_lowest (fun vs H Q E h => ?_) (fun cdv A outer s H vs Q E hr h => ?_)
  · obtain ⟨n, d, rfl, _⟩ := h
    rfl
  · obtain ⟨n, d, rfl, d9, q0, q1⟩ := h
    refine ⟨_, pss_cons (ps_if (pt_cmpR op_eq (pv 1) pe_int (nomark _)) (pss_one (ps_raise rfl (takes_of rfl rfl rfl rfl) (pmk0 TE hr (by rfl)))) pss_nil)
      (pss_cons (ps_set (i := 2) nd rfl (.inl rfl) (pe_call GS (hr.mono (by decide)) (by rfl) gS kS bS .nil pass0 (pa_cons (pv 0) (pa_cons (pv 1) pa_nil))))
      (pss_cons (ps_if (pt_cmpR op_lt (pv 1) pe_int (nomark _)) (pss_one (ps_set (i := 2) nd rfl (.inl rfl) (pe_un un_neg (pv 2)))) pss_nil)
      (pss_one (ps_ret (pe_tup (pa_cons (pe_op op_fdivX (pv 0) (pv 2)) (pa_cons (pe_op op_fdivX (pv 1) (pv 2)) pa_nil))))))), ?_⟩
    refine ⟨.int d, rfl, rfl, _, rfl, ite2 (fun e => ?_) (fun e => ?_)⟩
    · exact q0 (V.int.inj (of_decide_eq_true e))
    · have hd : d ≠ 0 := fun z => e (decide_eq_true (congrArg V.int z))
      obtain ⟨⟨h1, h2⟩, h3⟩ := lowS_ok (n := n) hd d9
      refine ⟨.int n, rfl, .int d, rfl, n, d, rfl, ?_⟩
      refine ⟨.int d, rfl, d, 0, rfl, rfl, _, rfl, ite2 (fun e2 => ?_) (fun e2 => ?_)⟩
      · have es : lowS n d = -(Int.gcd n d : Int) := if_pos (of_decide_eq_true e2)
        rw [es] at h1 h2 q1
        exact ⟨_, rfl, _, rfl, .int n, rfl, _, rfl, n, _, rfl, rfl, ⟨h1, h2⟩, .int d, rfl, _, rfl, d, _, rfl, rfl, ⟨h1, h2⟩, lineN (by decide : 2 ≤ 1000), fun p np => q1 hd p np⟩
      · have es : lowS n d = (Int.gcd n d : Int) := if_neg fun z => e2 (decide_eq_true z)
        rw [es] at h1 h2 q1
        exact ⟨.int n, rfl, _, rfl, n, _, rfl, rfl, ⟨h1, h2⟩, .int d, rfl, _, rfl, d, _, rfl, rfl, ⟨h1, h2⟩, lineN (by decide : 2 ≤ 1000), fun p np => q1 hd p np⟩
theorem sc_draws : FnScope ["_law_script", "_law_salt", "_law_cell"] ["_law_script"] (defScope sDraws) := ⟨rfl, rfl, rfl, by decide +kernel, rfl, by decide +kernel, by decide +kernel⟩
theorem ok_draws {f : Addr} {fd : FuncData} {k : Nat} (F : L2.Fun K "_law_draws" "_law_draws" sDraws f fd) (mlist : mg "list" = none) : FnOk P w K mg base CX0 (k + 1) f fd ["_law_script"] (spDraws K) := by
  have nd := sc_draws.nd
  refine F.ok sc_draws (fun vs H Q E h => ?_) (fun cdv A outer s H vs Q E hr h => ?_)
  · obtain ⟨a, ns, rfl, _⟩ := h
    rfl
  · obtain ⟨a, ns, rfl, hS, hl, q⟩ := h
    refine ⟨_, pss_cons (ps_set (i := 1) nd rfl (.inl rfl) pe_int)
      (pss_cons (ps_for PassesOwn.never rfl (pi_list (pe_slice sl_list (pv 0) po_none (po_some pe_int))) (pg_name (i := 2) nd rfl (.inl rfl))
        (pss_one (ps_set (i := 1) nd rfl (.inl rfl) (pe_op op_mod (pe_op op_add (pe_op op_add (pe_op op_mul (pv 1) pe_int) (pe_op op_mod (pv 2) pe_int)) pe_int) pe_int))))
      (pss_one (ps_ret (pe_lst (pa_cons (pe_callTy call_list_of (by rfl) mlist (by decide +kernel) (pa_cons (pe_slice sl_list (pv 0) po_none (po_some pe_int)) pa_nil)) (pa_cons pe_int (pa_cons pe_int (pa_cons (pv 1) pa_nil)))))))), ?_⟩
    obtain ⟨ms, ecut, lms⟩ := SqL.cutInts ns none (some 63)
    refine ⟨.ref a, rfl, 63, rfl, a, _, rfl, hS, fun p np => ?_⟩
    rw [ecut]
    have s1 : Same H (upd H p (.lst (ms.map V.int))) := upd_new np
    have hp : SqL K (upd H p (.lst (ms.map V.int))) p (ms.map V.int) := .inl (.inl upd_same)
    refine ⟨p, rfl, ⟨_, hp⟩, for_list (K := K) (a := p) (xs := ms.map V.int) (fun i σ H' => ∃ (z : Int) (v : Option V), σ = [some (.ref a), some (.int z), v] ∧ 0 ≤ z ∧ z < 2147483647 ∧ H' = upd H p (.lst (ms.map V.int)))
      ⟨3810, none, rfl, by decide, by decide, rfl⟩ (fun i σ H' _ ⟨_, _, _, _, _, e⟩ => by rw [e]; exact hp) ?_ ?_⟩
    · rintro i y σ H' hi ⟨z, v, rfl, z0, z1, rfl⟩
      obtain ⟨n, hn, rfl⟩ : ∃ n, ms[i]? = some n ∧ V.int n = y := by
        rw [List.getElem?_map] at hi
        cases e : ms[i]? with
        | none =>
          rw [e] at hi
          cases hi
        | some n =>
          rw [e] at hi
          exact ⟨n, rfl, Option.some.inj hi⟩
      refine ⟨.int z, rfl, z, 40014, rfl, rfl, .inl ⟨by omega, by omega⟩, .int n, rfl, n, 2147483579, rfl, rfl, (by decide : (0 : Int) < 2147483579), _, _, rfl, rfl, _, 23, rfl, rfl, _, 2147483647, rfl, rfl, (by decide : (0 : Int) < 2147483647), ?_⟩
      exact ⟨_, _, rfl, Int.emod_nonneg _ (by decide), Int.emod_lt_of_pos _ (by decide), rfl⟩
    · rintro σ H' ⟨z, v, rfl, z0, z1, rfl⟩
      refine ⟨.ref a, rfl, 63, rfl, a, _, rfl, s1.seq hS, fun p2 np2 => ?_⟩
      rw [ecut]
      refine ⟨p2, _, rfl, .inl (.inl (.inl upd_same)), fun l nl => ?_⟩
      refine ⟨.int z, rfl, lineN (by decide : 4 ≤ 1000), fun r nr => ?_⟩
      have s2 := upd_new (o := .lst (ms.map V.int)) np2
      have s3 := upd_new (o := .lst (ms.map V.int)) nl
      have s4 := upd_new (o := .lst [.ref l, .int 0, .int 0, .int z]) nr
      refine q _ r (((s1.trans s2).trans s3).trans s4) (((s1.trans s2).trans s3).free nr) ⟨l, 0, 0, z, upd_same, ⟨ms, ?_, ?_⟩, by decide, by decide, z0, z1⟩
      · exact s4 _ _ upd_same
      · exact Nat.le_of_lt (small1000 (by omega))
theorem sc_draw : FnScope ["_law_rng", "_law_amount", "_law_cell", "_law_got", "_law_seed"] ["_law_rng", "_law_amount"] (defScope sDraw) := ⟨rfl, rfl, rfl, by decide +kernel, rfl, by decide +kernel, by decide +kernel⟩
theorem ok_draw {f : Addr} {fd : FuncData} {k : Nat} (F : L2.Fun K "_law_draw" "_law_draw" sDraw f fd) (mlen : mg "len" = none) : FnOk P w K mg base CX0 (k + 1) f fd ["_law_rng", "_law_amount"] spDraw := by
  have nd := sc_draw.nd
  refine F.ok sc_draw (fun vs H Q E h => ?_) (fun cdv A outer s H vs Q E hr h => ?_)
  · obtain ⟨a, ns, rfl, _⟩ := h
    rfl
  · obtain ⟨r, n, rfl, ⟨c, i, b, z, R0⟩, n0, n9, q⟩ := h
    refine ⟨_, C8.pss_cut (ps_if (PW.pt (pw_and (pt_cmpR op_eq (pe_ix ix_list (pv 0) pe_int (fun _ _ => rfl)) pe_int (nomark _)) (pw_and1 (pt_cmpR op_lt (pe_ix ix_list (pv 0) pe_int (fun _ _ => rfl)) (pe_callB call_len_seq (by rfl) mlen PySem.boot_len (pa_cons (pe_ix ix_list (pv 0) pe_int (fun _ _ => rfl)) pa_nil)) (nomark _)))))
        (pss_cons (ps_set (i := 2) nd rfl (.inl rfl) (pe_ix ix_list (pe_ix ix_list (pv 0) pe_int (fun _ _ => rfl)) (pe_ix ix_list (pv 0) pe_int (fun _ _ => rfl)) (fun _ _ => rfl)))
        (pss_cons (ps_asg (pe_op op_add (pe_ix ix_list (pv 0) pe_int (fun _ _ => rfl)) pe_int) (pg_sub (pv 0) pe_int set_list))
        (pss_one (ps_if (pt_cmpR op_ge (pv 2) (pe_op op_pow pe_int pe_int) (nomark _))
          (pss_one (ps_asg (pv 2) (pg_sub (pv 0) pe_int set_list)))
          (pss_one (ps_asg (pe_op op_mod (pe_op op_add (pe_op op_add (pe_op op_mul (pe_ix ix_list (pv 0) pe_int (fun _ _ => rfl)) pe_int) (pe_op op_mul (pe_op op_mod (pv 2) pe_int) pe_int)) pe_int) pe_int) (pg_sub (pv 0) pe_int set_list)))))))
        pss_nil)
      (pss_cons (ps_if (pt_cmpR op_gt (pe_ix ix_list (pv 0) pe_int (fun _ _ => rfl)) pe_int (nomark _))
        (pss_cons (ps_set (i := 3) nd rfl (.inl rfl) (pe_op op_mod (pe_ix ix_list (pv 0) pe_int (fun _ _ => rfl)) (pv 1)))
        (pss_cons (ps_asg (pe_op op_fdivW (pe_ix ix_list (pv 0) pe_int (fun _ _ => rfl)) (pv 1)) (pg_sub (pv 0) pe_int set_list))
        (pss_one (ps_ret (pv 3)))))
        pss_nil)
      (pss_cons (ps_set (i := 4) nd rfl (.inl rfl) (pe_ix ix_list (pv 0) pe_int (fun _ _ => rfl)))
      (pss_cons (ps_asg (pe_op op_mod (pe_op op_add (pe_op op_add (pe_op op_mul (pv 4) pe_int) (pe_op op_mul (pe_op op_fdiv (pv 4) pe_int) pe_int)) pe_int) pe_int) (pg_sub (pv 0) pe_int set_list))
      (pss_one (ps_ret (pe_op op_mod (pe_op op_add (pe_op op_fdiv (pe_ix ix_list (pv 0) pe_int (fun _ _ => rfl)) pe_int) (pe_op op_mul (pe_op op_mod (pe_ix ix_list (pv 0) pe_int (fun _ _ => rfl)) pe_int) pe_int)) (pv 1))))))), ?_⟩
    refine ⟨fun σ' H' => ∃ (x2 : Option V), σ' = [some (.ref r), some (.int n), x2, none, none] ∧ RngOk H' r ∧ But r H H', ?_, ?_⟩
    · have hL : SqL K H r [.ref c, .int i, .int b, .int z] := .inl (.inl R0.1)
      obtain ⟨cells, hc, lc⟩ := R0.2.1
      obtain ⟨_, _, i0, b0, z0, z1⟩ := id R0
      have out : ∃ x2 : Option V, (L2.start ["_law_rng", "_law_amount", "_law_cell", "_law_got", "_law_seed"] [.ref r, .int n] : L2.St) = [some (.ref r), some (.int n), x2, none, none] ∧ RngOk H r ∧ But r H H := ⟨none, rfl, ⟨c, i, b, z, R0⟩, .refl _ _⟩
      refine ⟨.ref r, rfl, r, _, 2, _, rfl, rfl, hL, atI_nat (j := 2) rfl, rfl, _, rfl, ite2 (fun e1 => ?_) (fun _ => iteF out)⟩
      refine ⟨.ref r, rfl, r, _, 1, _, rfl, rfl, hL, atI_nat (j := 1) rfl, .ref r, rfl, r, _, 0, _, rfl, rfl, hL, atI_nat (j := 0) rfl, c, _, rfl, .inl (.inl (.inl hc)), i, _, rfl, rfl, _, rfl, ite2 (fun e2 => ?_) (fun _ => out)⟩
      -- a cell is taken
      have hi : i < (cells.length : Int) := by
        have := of_decide_eq_true e2
        rw [List.length_map] at this
        exact this
      have hi2 : i.toNat < cells.length := by omega
      have at1 : atI (cells.map V.int) i = some (.int cells[i.toNat]) := at_of (j := i.toNat) (by omega) (by
        rw [List.getElem?_map]
        simp [hi2])
      refine ⟨.ref r, rfl, r, _, 0, _, rfl, rfl, hL, atI_nat (j := 0) rfl, .ref r, rfl, r, _, 1, _, rfl, rfl, hL, atI_nat (j := 1) rfl, c, _, i, _, rfl, rfl, .inl (.inl hc), at1, ?_⟩
      refine ⟨.ref r, rfl, r, _, 1, _, rfl, rfl, hL, atI_nat (j := 1) rfl, i, 1, rfl, rfl, .ref r, rfl, r, _, 1, 1, rfl, rfl, R0.1, rfl, ?_⟩
      have R1 : RngAt (upd H r (.lst [.ref c, .int (i + 1), .int b, .int z])) r c (i + 1) b z := R0.put (by omega) b0 z0 z1
      have hL1 : SqL K (upd H r (.lst [.ref c, .int (i + 1), .int b, .int z])) r [.ref c, .int (i + 1), .int b, .int z] := .inl (.inl upd_same)
      refine ⟨.int cells[i.toNat], rfl, 10, 18, rfl, rfl, ⟨by decide, by decide, by decide⟩, _, _, rfl, rfl, _, rfl, ite2 (fun e3 => ?_) (fun e3 => ?_)⟩
      · have g := of_decide_eq_true e3
        refine ⟨.int cells[i.toNat], rfl, .ref r, rfl, r, _, 2, 2, rfl, rfl, R1.1, rfl, ?_⟩
        exact ⟨_, rfl, ⟨c, _, _, _, R1.put (b' := cells[i.toNat]) (by omega) (Int.le_trans (by decide) g) z0 z1⟩, (But.upd R0.1).trans (But.upd R1.1)⟩
      · refine ⟨.ref r, rfl, r, _, 3, _, rfl, rfl, hL1, atI_nat (j := 3) rfl, z, 48271, rfl, rfl, .inl ⟨by omega, by omega⟩, .int cells[i.toNat], rfl, cells[i.toNat], 2147483579, rfl, rfl, (by decide : (0 : Int) < 2147483579), _, 69697, rfl, rfl, .inr ⟨by decide, by decide⟩, _, _, rfl, rfl, _, 29, rfl, rfl, _, 2147483647, rfl, rfl, (by decide : (0 : Int) < 2147483647), ?_⟩
        refine ⟨.ref r, rfl, r, _, 3, 3, rfl, rfl, R1.1, rfl, ?_⟩
        exact ⟨_, rfl, ⟨c, _, _, _, R1.put (by omega) b0 (Int.emod_nonneg _ (by decide)) (Int.emod_lt_of_pos _ (by decide))⟩, (But.upd R0.1).trans (But.upd R1.1)⟩
    · rintro σ' H' ⟨x2, rfl, ⟨c, i, b, z, R0⟩, bu⟩
      have hL : SqL K H' r [.ref c, .int i, .int b, .int z] := .inl (.inl R0.1)
      obtain ⟨_, _, i0, b0, z0, z1⟩ := id R0
      have nn : n ≠ 0 := by omega
      refine ⟨.ref r, rfl, r, _, 2, _, rfl, rfl, hL, atI_nat (j := 2) rfl, b, 0, rfl, rfl, _, rfl, ite2 (fun e1 => ?_) (fun _ => ?_)⟩
      · refine ⟨.ref r, rfl, r, _, 2, _, rfl, rfl, hL, atI_nat (j := 2) rfl, .int n, rfl, b, n, rfl, rfl, n0, ?_⟩
        refine ⟨.ref r, rfl, r, _, 2, _, rfl, rfl, hL, atI_nat (j := 2) rfl, .int n, rfl, b, n, rfl, rfl, ⟨n0, n9⟩, .ref r, rfl, r, _, 2, 2, rfl, rfl, R0.1, rfl, ?_⟩
        refine ⟨.int (b % n), rfl, q _ _ (Int.emod_nonneg _ nn) (Int.emod_lt_of_pos _ n0) ⟨c, _, _, _, R0.put i0 (Int.ediv_nonneg b0 (by omega)) z0 z1⟩ (bu.trans (But.upd R0.1))⟩
      · refine ⟨.ref r, rfl, r, _, 3, _, rfl, rfl, hL, atI_nat (j := 3) rfl, ?_⟩
        refine ⟨.int z, rfl, z, 62089, rfl, rfl, .inl ⟨by omega, by omega⟩, .int z, rfl, z, 65543, rfl, rfl, ⟨by decide, by decide⟩, _, 37, rfl, rfl, .inr ⟨by decide, by decide⟩, _, _, rfl, rfl, _, 1013904223, rfl, rfl, _, 2147483647, rfl, rfl, (by decide : (0 : Int) < 2147483647), ?_⟩
        refine ⟨.ref r, rfl, r, _, 3, 3, rfl, rfl, R0.1, rfl, ?_⟩
        have R1 : RngAt (upd H' r (.lst [.ref c, .int i, .int b, .int ((z * 62089 + z / 65543 * 37 + 1013904223) % 2147483647)])) r c i b ((z * 62089 + z / 65543 * 37 + 1013904223) % 2147483647) := R0.put i0 b0 (Int.emod_nonneg _ (by decide)) (Int.emod_lt_of_pos _ (by decide))
        have hL1 := (.inl (.inl R1.1) : SqL K _ r _)
        refine ⟨.ref r, rfl, r, _, 3, _, rfl, rfl, hL1, atI_nat (j := 3) rfl, _, 89, rfl, rfl, ⟨by decide, by decide⟩, .ref r, rfl, r, _, 3, _, rfl, rfl, hL1, atI_nat (j := 3) rfl, _, 8191, rfl, rfl, (by decide : (0 : Int) < 8191), _, 71, rfl, rfl, .inr ⟨by decide, by decide⟩, _, _, rfl, rfl, .int n, rfl, _, n, rfl, rfl, n0, ?_⟩
        exact q _ _ (Int.emod_nonneg _ nn) (Int.emod_lt_of_pos _ n0) ⟨c, _, _, _, R1⟩ (bu.trans (But.upd R0.1))
theorem sc_pick : FnScope ["_law_rng", "_law_things"] ["_law_rng", "_law_things"] (defScope sPick) := ⟨rfl, rfl, rfl, by decide +kernel, rfl, by decide +kernel, by decide +kernel⟩
theorem ok_pick {f fD : Addr} {fd fdD : FuncData} {k : Nat} (F : L2.Fun K "_law_pick" "_law_pick" sPick f fd) (mlen : mg "len" = none) (GD : FnOk P w K mg base CX0 k fD fdD ["_law_rng", "_law_amount"] spDraw) (gD : mg "_law_draw" = some (.ref fD)) (kD : PySem.W.keepIn K (.ref fD) = true) (bD : L2.Binds K fdD ["_law_rng", "_law_amount"] []) :
    FnOk P w K mg base CX0 (k + 1) f fd ["_law_rng", "_law_things"] (spPick K) := by
  have nd := sc_pick.nd
  refine F.ok sc_pick (fun vs H Q E h => ?_) (fun cdv A outer s H vs Q E hr h => ?_)
  · obtain ⟨a, ns, xs, rfl, _⟩ := h
    rfl
  · obtain ⟨r, t, xs, rfl, R, hT, ne, l0, l9, q⟩ := h
    refine ⟨_, pss_one (ps_ret (pe_ix ix_list (pv 1) (pe_call GD hr (by rfl) gD kD bD .nil pass0 (pa_cons (pv 0) (pa_cons (pe_callB call_len_seq (by rfl) mlen PySem.boot_len (pa_cons (pv 1) pa_nil)) pa_nil))) (fun _ _ => rfl))), ?_⟩
    refine ⟨.ref t, rfl, .ref r, rfl, .ref t, rfl, t, xs, rfl, .inl hT, r, _, rfl, R, by omega, ?_, fun v H' v0 v1 R' bu => ?_⟩
    · have : (xs.length : Int).natAbs.log2 < 10 := log2_lt (by rw [Int.natAbs_natCast]; omega) (by decide)
      omega
    · have hv : v.toNat < xs.length := by omega
      have hT' : SqL K H' t xs := by
        rcases hT with (h | ⟨o, h⟩) | h
        · exact .inl (.inl ((bu t ne).trans h))
        · exact .inl (.inr ⟨o, (bu t ne).trans h⟩)
        · exact .inr h
      exact ⟨t, xs, v, xs[v.toNat], rfl, rfl, hT', at_of (j := v.toNat) (by omega) (List.getElem?_eq_getElem hv), q _ v.toNat H' (List.getElem?_eq_getElem hv) R' bu⟩
theorem sc_field : FnScope ["_law_e"] ["_law_e"] (defScope sField) := ⟨rfl, rfl, rfl, by decide +kernel, rfl, by decide +kernel, by decide +kernel⟩
theorem ok_field {f : Addr} {fd : FuncData} {k : Nat} (F : L2.Fun K "_law_field" "_law_field" sField f fd) : FnP P w K mg base (k + 1) f fd ["_law_e"] (spField K) := by
  refine fnP_of F sc_field (fun p vs H Q E h => ?_) (fun cdv A outer s H vs Q p h => ?_)
  · obtain ⟨C, fs, c, v, rfl, _⟩ := h
    rfl
  · obtain ⟨C, fs, c, v, rfl, T, q⟩ := h
    obtain ⟨dd, hdd, hx⟩ := T.at_
    have rd : ∀ {n : Str} {q pos : Pos}, n ∈ errNames → attributeBase (.Name "_law_e" q) n (L2H.cxH CX0 P w K mg base ["_law_e"] "_law_field" (defScope sField) f cdv A outer s H E0 p).env (eval (.Name "_law_e" q) (L2H.cxH CX0 P w K mg base ["_law_e"] "_law_field" (defScope sField) f cdv A outer s H E0 p).env) = eval (.Name "_law_e" q) (L2H.cxH CX0 P w K mg base ["_law_e"] "_law_field" (defScope sField) f cdv A outer s H E0 p).env → PE (L2H.cxH CX0 P w K mg base ["_law_e"] "_law_field" (defScope sField) f cdv A outer s H E0 p) (.Attribute (.Name "_law_e" q) n pos) (tXP p n (tVar 0)) :=
      fun {n q pos} hn hb => pe_xp T.x.xf (T.x.no n hn) (List.mem_singleton.mpr rfl) T.cls T.flds (pv 0) hb
    refine ⟨_, pss_cons (ps_if (pt_cmpR op_in_seq (rd (by decide +kernel) (by rfl)) (pe_lst (pa_cons pe_str (pa_cons pe_str (pa_cons pe_str (pa_cons pe_str (pa_cons pe_str (pa_cons pe_str pa_nil))))))) (by rfl)) (pss_one (ps_ret (rd (by decide +kernel) (by rfl)))) pss_nil)
      (pss_cons (ps_if (pt_cmpR op_in_seq (rd (by decide +kernel) (by rfl)) (pe_lst (pa_cons pe_str (pa_cons pe_str (pa_cons pe_str (pa_cons pe_str (pa_cons pe_str pa_nil)))))) (by rfl)) (pss_one (ps_ret (rd (by decide +kernel) (by rfl)))) pss_nil)
      (pss_cons (ps_if (pt_cmpR op_in_seq (rd (by decide +kernel) (by rfl)) (pe_lst (pa_cons pe_str (pa_cons pe_str pa_nil))) (by rfl)) (pss_one (ps_ret (rd (by decide +kernel) (by rfl)))) pss_nil)
      (pss_cons (ps_if (pt_cmpR op_in_seq (rd (by decide +kernel) (by rfl)) (pe_lst (pa_cons pe_str (pa_cons pe_str pa_nil))) (by rfl)) (pss_one (ps_ret (rd (by decide +kernel) (by rfl)))) pss_nil)
      (pss_cons (ps_if (pt_cmpR op_in_seq (rd (by decide +kernel) (by rfl)) (pe_lst (pa_cons pe_str (pa_cons pe_str pa_nil))) (by rfl)) (pss_one (ps_ret (rd (by decide +kernel) (by rfl)))) pss_nil)
      (pss_cons (ps_if (pt_cmpR op_eq (rd (by decide +kernel) (by rfl)) pe_str (nomark _)) (pss_one (ps_ret (rd (by decide +kernel) (by rfl)))) pss_nil)
      (pss_cons (ps_if (pt_cmpR op_eq (rd (by decide +kernel) (by rfl)) pe_str (nomark _)) (pss_one (ps_ret (rd (by decide +kernel) (by rfl)))) pss_nil)
      (pss_cons (ps_if (pt_cmpR op_eq (rd (by decide +kernel) (by rfl)) pe_str (nomark _)) (pss_one (ps_ret (rd (by decide +kernel) (by rfl)))) pss_nil)
      (pss_cons (ps_if (pt_cmpR op_eq (rd (by decide +kernel) (by rfl)) pe_str (nomark _)) (pss_one (ps_ret (rd (by decide +kernel) (by rfl)))) pss_nil)
      (pss_one (ps_ret (pe_ifExp (pt_cmpR op_eq (rd (by decide +kernel) (by rfl)) pe_str (nomark _)) (rd (by decide +kernel) (by rfl)) pe_non))))))))))), ?_⟩
    have hv := T.val
    unfold fieldVal fieldOf at hv
    have hcd := T.code
    -- each list that is looked through is new
    refine ⟨.ref p.1, rfl, rfl, dd, fs, .str c, hdd, hx, hcd, lineN (by decide : 6 ≤ 1000), fun l1 n1 => ⟨l1, cLimit, rfl, .inl (.inl (.inl upd_same)), rfl, rfl, _, rfl, ite2 (fun e => ?_) (fun e1 => ?_)⟩⟩
    · rw [if_pos (show inV (.str c) cLimit = true from e)] at hv
      exact ⟨.ref p.1, rfl, rfl, dd, fs, v, hdd, upd_new n1 _ _ hx, hv, q _ (upd_new n1)⟩
    rw [if_neg (show ¬ inV (.str c) cLimit = true from e1)] at hv
    have s1 := upd_new (o := .lst cLimit) n1
    refine ⟨.ref p.1, rfl, rfl, dd, fs, .str c, hdd, s1 _ _ hx, hcd, lineN (by decide : 5 ≤ 1000), fun l2 n2 => ⟨l2, cName, rfl, .inl (.inl (.inl upd_same)), rfl, rfl, _, rfl, ite2 (fun e => ?_) (fun e1 => ?_)⟩⟩
    · rw [if_pos (show inV (.str c) cName = true from e)] at hv
      exact ⟨.ref p.1, rfl, rfl, dd, fs, v, hdd, upd_new n2 _ _ (s1 _ _ hx), hv, q _ (s1.trans (upd_new n2))⟩
    rw [if_neg (show ¬ inV (.str c) cName = true from e1)] at hv
    have s2 := s1.trans (upd_new (o := .lst cName) n2)
    refine ⟨.ref p.1, rfl, rfl, dd, fs, .str c, hdd, s2 _ _ hx, hcd, lineN (by decide : 2 ≤ 1000), fun l3 n3 => ⟨l3, cPos, rfl, .inl (.inl (.inl upd_same)), rfl, rfl, _, rfl, ite2 (fun e => ?_) (fun e1 => ?_)⟩⟩
    · rw [if_pos (show inV (.str c) cPos = true from e)] at hv
      exact ⟨.ref p.1, rfl, rfl, dd, fs, v, hdd, upd_new n3 _ _ (s2 _ _ hx), hv, q _ (s2.trans (upd_new n3))⟩
    rw [if_neg (show ¬ inV (.str c) cPos = true from e1)] at hv
    have s3 := s2.trans (upd_new (o := .lst cPos) n3)
    refine ⟨.ref p.1, rfl, rfl, dd, fs, .str c, hdd, s3 _ _ hx, hcd, lineN (by decide : 2 ≤ 1000), fun l4 n4 => ⟨l4, cMod, rfl, .inl (.inl (.inl upd_same)), rfl, rfl, _, rfl, ite2 (fun e => ?_) (fun e1 => ?_)⟩⟩
    · rw [if_pos (show inV (.str c) cMod = true from e)] at hv
      exact ⟨.ref p.1, rfl, rfl, dd, fs, v, hdd, upd_new n4 _ _ (s3 _ _ hx), hv, q _ (s3.trans (upd_new n4))⟩
    rw [if_neg (show ¬ inV (.str c) cMod = true from e1)] at hv
    have s4 := s3.trans (upd_new (o := .lst cMod) n4)
    refine ⟨.ref p.1, rfl, rfl, dd, fs, .str c, hdd, s4 _ _ hx, hcd, lineN (by decide : 2 ≤ 1000), fun l5 n5 => ⟨l5, cMany, rfl, .inl (.inl (.inl upd_same)), rfl, rfl, _, rfl, ite2 (fun e => ?_) (fun e1 => ?_)⟩⟩
    · rw [if_pos (show inV (.str c) cMany = true from e)] at hv
      exact ⟨.ref p.1, rfl, rfl, dd, fs, v, hdd, upd_new n5 _ _ (s4 _ _ hx), hv, q _ (s4.trans (upd_new n5))⟩
    rw [if_neg (show ¬ inV (.str c) cMany = true from e1)] at hv
    have s5 := s4.trans (upd_new (o := .lst cMany) n5)
    refine ⟨.ref p.1, rfl, rfl, dd, fs, .str c, hdd, s5 _ _ hx, hcd, rfl, _, rfl, ite2 (fun e => ?_) (fun e1 => ?_)⟩
    · rw [if_pos e] at hv
      exact ⟨.ref p.1, rfl, rfl, dd, fs, v, hdd, s5 _ _ hx, hv, q _ s5⟩
    rw [if_neg e1] at hv
    refine ⟨.ref p.1, rfl, rfl, dd, fs, .str c, hdd, s5 _ _ hx, hcd, rfl, _, rfl, ite2 (fun e => ?_) (fun e1 => ?_)⟩
    · rw [if_pos e] at hv
      exact ⟨.ref p.1, rfl, rfl, dd, fs, v, hdd, s5 _ _ hx, hv, q _ s5⟩
    rw [if_neg e1] at hv
    refine ⟨.ref p.1, rfl, rfl, dd, fs, .str c, hdd, s5 _ _ hx, hcd, rfl, _, rfl, ite2 (fun e => ?_) (fun e1 => ?_)⟩
    · rw [if_pos e] at hv
      exact ⟨.ref p.1, rfl, rfl, dd, fs, v, hdd, s5 _ _ hx, hv, q _ s5⟩
    rw [if_neg e1] at hv
    refine ⟨.ref p.1, rfl, rfl, dd, fs, .str c, hdd, s5 _ _ hx, hcd, rfl, _, rfl, ite2 (fun e => ?_) (fun e1 => ?_)⟩
    · rw [if_pos e] at hv
      exact ⟨.ref p.1, rfl, rfl, dd, fs, v, hdd, s5 _ _ hx, hv, q _ s5⟩
    rw [if_neg e1] at hv
    refine ⟨.ref p.1, rfl, rfl, dd, fs, .str c, hdd, s5 _ _ hx, hcd, rfl, _, rfl, ite2 (fun e => ?_) (fun e1 => ?_)⟩
    · rw [if_pos e] at hv
      exact ⟨.ref p.1, rfl, rfl, dd, fs, v, hdd, s5 _ _ hx, hv, q _ s5⟩
    · rw [if_neg e1] at hv
      have ev : V.non = v := Option.some.inj hv
      rw [ev]
      exact q _ s5
theorem sc_try : FnScope ["_law_ask", "_law_e"] ["_law_ask"] (defScope sTry) := ⟨rfl, rfl, rfl, by decide +kernel, rfl, by decide +kernel, by decide +kernel⟩
theorem try_gives {X : Cx} {f B M g : Addr} {fd : FuncData} {k : Nat} {cdg : Value} {q : Str} (FF : FnP X.prog X.w X.K X.mg X.base k f fd ["_law_e"] (spField X.K)) (gF : X.mg "_law_field" = some (.ref f)) (kF : PySem.W.keepIn X.K (.ref f) = true) (bF : L2.Binds X.K fd ["_law_e"] [])
    (gB : X.mg "BagError" = some (.ref B)) (gM : X.mg "Missing" = some (.ref M)) (hr : Room (k + 1) X.A) :
    LamX.GivesTo X ["_law_ask", "_law_e"] "_law_try" (defScope sTry) g cdg (defBody sTry) "_law_ask" q (TTry X.K B M) := by
  intro fl c' s H Q tl act hc h
  have hr2 : L2H.RoomH k (X.A.deeper (envOfC "_law_try" (defScope sTry) s.heap.objs.size g cdg)) := L2H.roomH_of (hr.deeper _)
  have nd := sc_try.nd
  refine ⟨_, pss_one (ps_named (X := (cxOf C8.CX0 X.prog X.w X.K X.mg X.base ["_law_ask", "_law_e"] "_law_try" (defScope sTry) g cdg X.A X.stack s H C8.E0).nox) (i := 1) (n := "_law_e")
    (tb := fun W D σ H => ∃ Ech : XK, (∀ cls d σ' H', Ech cls d H' → W cls d σ' H') ∧ σ[0]? = some (some (.ref fl)) ∧ H c' = some (LamX.CodeO c' q) ∧ tl Ech H fun v H1 => 2 ≤ sizeLine ∧ ∀ p, H1 p = none → D.rt (.ref p) (upd H1 p (.tup [.str "value", v])))
    (l := [(.ref B, tCaught X.K), (.ref M, tCaught X.K)]) rfl rfl nd rfl rfl (fun W pn xe tk => ?_)
    (.cons ⟨by rfl, by decide, .inl gB⟩ (suite_caught FF gF kF bF hr2 rfl (.inl rfl) (by rfl) (by rfl) (by rfl) (by rfl) (by rfl) (by rfl)) (.cons ⟨by rfl, by decide, .inl gM⟩ (suite_caught FF gF kF bF hr2 rfl (.inl rfl) (by rfl) (by rfl) (by rfl) (by rfl) (by rfl) (by rfl)) .nil))), ?_⟩
  · refine ⟨fun pins s' σ H' D I h' => ?_⟩
    obtain ⟨Ech, hW, h1, h2, h3⟩ := h'
    refine (pss_one (ps_ret (pe_tup (pa_cons pe_str (pa_cons (act W pn xe Ech _ _ tk hW) pa_nil))))).run pins s' σ H' D I ?_
    exact ⟨h1, h2, h3⟩
  · refine ⟨ErrTo X.K B M Q, fun cls d σ' H' z => ?_, rfl, hc, ?_⟩
    · obtain ⟨C, dd, fs, c, v, e1, e2, hx, T, ⟨b, k1, k2⟩, hcd, hv, hq⟩ := z
      subst e1
      subst e2
      have fin : ∀ a, σ'.length = 2 → tCaught X.K a (.ref C) (some dd) (gone 1 { nx := fun _ H' => Q .non H', rt := Q }) (σ'.set 1 (some (.ref a))) H' := fun a hl =>
        ⟨List.getElem?_set_self (by omega), C, dd, fs, c, v, rfl, rfl, hx, T, hcd, hv, hq⟩
      exact ⟨b, k1, fun _ a _ hl => fin a hl, fun hb => ⟨true, k2 hb, fun _ a _ hl => fin a hl, fun z => Bool.noConfusion z⟩⟩
    · exact h
theorem sc_pol : FnScope ["self"] ["self"] (defScope c_InvalidPolynomial_init) := ⟨rfl, rfl, rfl, by decide +kernel, rfl, by decide +kernel, by decide +kernel⟩
/-- raise InvalidPolynomial(): what the written part says of the two classes -/
structure TPol (K : PySem.W.Frag) (mg : Str → Option Value) (B C fB fC : Addr) (fdB fdC : FuncData) : Prop where
  oex : OexC K C
  gC : mg "InvalidPolynomial" = some (.ref C)
  gB : mg "BagError" = some (.ref B)
  no : PySem.W.findIn K (.ref C) "code" = some none
  iC : PySem.W.findIn K (.ref C) "__init__" = some (some (.ref fC))
  tC : PySem.W.typeIn K (.ref fC) = some (.type "function")
  rd : ClX.CRead K B (.type "type")
  at_ : PySem.W.findCls K (.ref B) (.type "type") "__init__" = some (.val (.ref fB))
  kB : PySem.W.keepIn K (.ref fB) = true
  bB : L2.Binds K fdB ["self", "code"] []
  FC : L2.Fun K "__init__" "InvalidPolynomial.__init__" c_InvalidPolynomial_init fC fdC
  bC : L2.Binds K fdC ["self"] []
theorem err_pol {B C fB fC : Addr} {fdB fdC : FuncData} (T : TPol K mg B C fB fC fdB fdC) (GB : FnOk P w K mg base CX0 1 fB fdB ["self", "code"] (spBag K)) : Err0 P w K mg base 2 "InvalidPolynomial" "InvalidPolynomial" C := by
  refine ⟨T.oex, T.gC, fC, fdC, ["self"], T.iC, T.tC, T.bC, ?_⟩
  refine T.FC.ok (k := 1) sc_pol (fun vs H Q E h => ?_) (fun cdv A outer s H vs Q E hr h => ?_)
  · obtain ⟨a, rfl, _⟩ := h
    rfl
  · obtain ⟨a, rfl, ha, q⟩ := h
    refine ⟨_, pss_one (ps_expr (pe_bcall (by rfl) T.gB T.rd T.at_ T.kB GB hr T.bB pass0 (pa_cons (pv 0) (pa_cons pe_str pa_nil)))), ?_⟩
    exact ⟨.ref a, rfl, a, C, _, rfl, T.oex, T.no, ha, fun dx n ne => q dx n ne⟩
theorem sc_InvalidPlace : FnScope ["self", "place"] ["self", "place"] (defScope c_InvalidPlace_init) := ⟨rfl, rfl, rfl, by decide +kernel, rfl, by decide +kernel, by decide +kernel⟩
/-- raise InvalidPlace(..): what the written part says of the two classes -/
structure TInvalidPlace (K : PySem.W.Frag) (mg : Str → Option Value) (B C fB fC : Addr) (fdB fdC : FuncData) : Prop where
  oex : OexC K C
  gC : mg "InvalidPlace" = some (.ref C)
  gB : mg "BagError" = some (.ref B)
  no : PySem.W.findIn K (.ref C) "code" = some none
  noF : PySem.W.findIn K (.ref C) "place" = some none
  iC : PySem.W.findIn K (.ref C) "__init__" = some (some (.ref fC))
  tC : PySem.W.typeIn K (.ref fC) = some (.type "function")
  rd : ClX.CRead K B (.type "type")
  at_ : PySem.W.findCls K (.ref B) (.type "type") "__init__" = some (.val (.ref fB))
  kB : PySem.W.keepIn K (.ref fB) = true
  bB : L2.Binds K fdB ["self", "code"] []
  FC : L2.Fun K "__init__" "InvalidPlace.__init__" c_InvalidPlace_init fC fdC
  bC : L2.Binds K fdC ["self", "place"] []
theorem err_InvalidPlace {B C fB fC : Addr} {fdB fdC : FuncData} (T : TInvalidPlace K mg B C fB fC fdB fdC) (GB : FnOk P w K mg base CX0 1 fB fdB ["self", "code"] (spBag K)) : Err1 P w K mg base 2 "InvalidPlace" "InvalidPlace" "place" C := by
  refine ⟨T.oex, T.gC, fC, fdC, ["self", "place"], T.iC, T.tC, T.bC, ?_⟩
  refine T.FC.ok (k := 1) sc_InvalidPlace (fun vs H Q E h => ?_) (fun cdv A outer s H vs Q E hr h => ?_)
  · obtain ⟨a, v, rfl, _⟩ := h
    rfl
  · obtain ⟨a, v, rfl, ha, q⟩ := h
    refine ⟨_, pss_cons (ps_expr (pe_bcall (by rfl) T.gB T.rd T.at_ T.kB GB hr T.bB pass0 (pa_cons (pv 0) (pa_cons pe_str pa_nil)))) (pss_one (ps_ost (pv 0) (pv 1))), ?_⟩
    refine ⟨.ref a, rfl, a, C, _, rfl, T.oex, T.no, ha, fun dx n ne => ?_⟩
    refine ⟨v, rfl, .ref a, rfl, a, C, rfl, T.oex, T.noF, .inr ⟨dx, _, upd_same, ?_, by decide, q dx n ne⟩⟩
    rw [upd_ne ne, upd_same]
theorem sc_InvalidModulus : FnScope ["self", "modulus"] ["self", "modulus"] (defScope c_InvalidModulus_init) := ⟨rfl, rfl, rfl, by decide +kernel, rfl, by decide +kernel, by decide +kernel⟩
/-- raise InvalidModulus(..): what the written part says of the two classes -/
structure TInvalidModulus (K : PySem.W.Frag) (mg : Str → Option Value) (B C fB fC : Addr) (fdB fdC : FuncData) : Prop where
  oex : OexC K C
  gC : mg "InvalidModulus" = some (.ref C)
  gB : mg "BagError" = some (.ref B)
  no : PySem.W.findIn K (.ref C) "code" = some none
  noF : PySem.W.findIn K (.ref C) "modulus" = some none
  iC : PySem.W.findIn K (.ref C) "__init__" = some (some (.ref fC))
  tC : PySem.W.typeIn K (.ref fC) = some (.type "function")
  rd : ClX.CRead K B (.type "type")
  at_ : PySem.W.findCls K (.ref B) (.type "type") "__init__" = some (.val (.ref fB))
  kB : PySem.W.keepIn K (.ref fB) = true
  bB : L2.Binds K fdB ["self", "code"] []
  FC : L2.Fun K "__init__" "InvalidModulus.__init__" c_InvalidModulus_init fC fdC
  bC : L2.Binds K fdC ["self", "modulus"] []
theorem err_InvalidModulus {B C fB fC : Addr} {fdB fdC : FuncData} (T : TInvalidModulus K mg B C fB fC fdB fdC) (GB : FnOk P w K mg base CX0 1 fB fdB ["self", "code"] (spBag K)) : Err1 P w K mg base 2 "InvalidModulus" "InvalidModulus" "modulus" C := by
  refine ⟨T.oex, T.gC, fC, fdC, ["self", "modulus"], T.iC, T.tC, T.bC, ?_⟩
  refine T.FC.ok (k := 1) sc_InvalidModulus (fun vs H Q E h => ?_) (fun cdv A outer s H vs Q E hr h => ?_)
  · obtain ⟨a, v, rfl, _⟩ := h
    rfl
  · obtain ⟨a, v, rfl, ha, q⟩ := h
    refine ⟨_, pss_cons (ps_expr (pe_bcall (by rfl) T.gB T.rd T.at_ T.kB GB hr T.bB pass0 (pa_cons (pv 0) (pa_cons pe_str pa_nil)))) (pss_one (ps_ost (pv 0) (pv 1))), ?_⟩
    refine ⟨.ref a, rfl, a, C, _, rfl, T.oex, T.no, ha, fun dx n ne => ?_⟩
    refine ⟨v, rfl, .ref a, rfl, a, C, rfl, T.oex, T.noF, .inr ⟨dx, _, upd_same, ?_, by decide, q dx n ne⟩⟩
    rw [upd_ne ne, upd_same]
theorem sc_SharedDivisor : FnScope ["self", "modulus"] ["self", "modulus"] (defScope c_SharedDivisor_init) := ⟨rfl, rfl, rfl, by decide +kernel, rfl, by decide +kernel, by decide +kernel⟩
/-- raise SharedDivisor(..): what the written part says of the two classes -/
structure TSharedDivisor (K : PySem.W.Frag) (mg : Str → Option Value) (B C fB fC : Addr) (fdB fdC : FuncData) : Prop where
  oex : OexC K C
  gC : mg "SharedDivisor" = some (.ref C)
  gB : mg "BagError" = some (.ref B)
  no : PySem.W.findIn K (.ref C) "code" = some none
  noF : PySem.W.findIn K (.ref C) "modulus" = some none
  iC : PySem.W.findIn K (.ref C) "__init__" = some (some (.ref fC))
  tC : PySem.W.typeIn K (.ref fC) = some (.type "function")
  rd : ClX.CRead K B (.type "type")
  at_ : PySem.W.findCls K (.ref B) (.type "type") "__init__" = some (.val (.ref fB))
  kB : PySem.W.keepIn K (.ref fB) = true
  bB : L2.Binds K fdB ["self", "code"] []
  FC : L2.Fun K "__init__" "SharedDivisor.__init__" c_SharedDivisor_init fC fdC
  bC : L2.Binds K fdC ["self", "modulus"] []
theorem err_SharedDivisor {B C fB fC : Addr} {fdB fdC : FuncData} (T : TSharedDivisor K mg B C fB fC fdB fdC) (GB : FnOk P w K mg base CX0 1 fB fdB ["self", "code"] (spBag K)) : Err1 P w K mg base 2 "SharedDivisor" "SharedDivisor" "modulus" C := by
  refine ⟨T.oex, T.gC, fC, fdC, ["self", "modulus"], T.iC, T.tC, T.bC, ?_⟩
  refine T.FC.ok (k := 1) sc_SharedDivisor (fun vs H Q E h => ?_) (fun cdv A outer s H vs Q E hr h => ?_)
  · obtain ⟨a, v, rfl, _⟩ := h
    rfl
  · obtain ⟨a, v, rfl, ha, q⟩ := h
    refine ⟨_, pss_cons (ps_expr (pe_bcall (by rfl) T.gB T.rd T.at_ T.kB GB hr T.bB pass0 (pa_cons (pv 0) (pa_cons pe_str pa_nil)))) (pss_one (ps_ost (pv 0) (pv 1))), ?_⟩
    refine ⟨.ref a, rfl, a, C, _, rfl, T.oex, T.no, ha, fun dx n ne => ?_⟩
    refine ⟨v, rfl, .ref a, rfl, a, C, rfl, T.oex, T.noF, .inr ⟨dx, _, upd_same, ?_, by decide, q dx n ne⟩⟩
    rw [upd_ne ne, upd_same]
end
end RB

set_option Elab.async false
set_option linter.all false
set_option maxRecDepth 100000
set_option maxHeartbeats 4000000
namespace RB
open PySem PySem.Spec PyProof.Rows L2 SX
section
variable {P : Program} {w : World} {K : PySem.W.Frag} {mg : Str → Option Value} {base : Heap}
theorem sc_least : FnScope ["one", "other"] ["one", "other"] (defScope s_least_multiple) := ⟨rfl, rfl, rfl, by decide +kernel, rfl, by decide +kernel, by decide +kernel⟩
theorem ok_least {f fS : Addr} {fd fdS : FuncData} (F : L2.Fun K "least_multiple" "least_multiple" s_least_multiple f fd) (mabs : mg "abs" = none) (GS : FnOk P w K mg base CX0 1 fS fdS ["one", "other"] spGcd) (gS : mg "shared_factor" = some (.ref fS)) (kS : PySem.W.keepIn K (.ref fS) = true) (bS : L2.Binds K fdS ["one", "other"] []) : FnOk P w K mg base CX0 2 f fd ["one", "other"] spLeast := by
  have nd := sc_least.nd
  refine F.ok sc_least (fun vs H Q E h => ?_) (fun cdv A outer s H vs Q E hr h => ?_)
  · obtain ⟨s, d, rfl, _⟩ := h
    rfl
  · obtain ⟨s, d, rfl, s0, d0, d9, sd, q⟩ := h
    refine ⟨_, pss_one (ps_ret (pe_callB call_abs (by rfl) mabs (by decide +kernel) (pa_cons (pe_op op_mulW (pe_op op_fdivX (pv 0) (pe_call GS hr (by rfl) gS kS bS .nil pass0 (pa_cons (pv 0) (pa_cons (pv 1) pa_nil)))) (pv 1)) pa_nil))), ?_⟩
    obtain ⟨c1, c2⟩ := lcm_sizes s0 d0 d9 sd
    refine ⟨.int s, rfl, .int s, rfl, .int d, rfl, s, d, rfl, s, _, rfl, rfl, c1, .int d, rfl, _, d, rfl, rfl, c2, _, rfl, ?_⟩
    have e : (if s.fdiv (Int.gcd s d : Int) * d < 0 then -(s.fdiv (Int.gcd s d : Int) * d) else s.fdiv (Int.gcd s d : Int) * d) = lcmI s d := by
      unfold lcmI
      split <;> omega
    rw [e]
    exact q
theorem sc_trimmed : FnScope ["numbers", "many"] ["numbers"] (defScope s_trimmed) := ⟨rfl, rfl, rfl, by decide +kernel, rfl, by decide +kernel, by decide +kernel⟩
theorem ok_trimmed {f : Addr} {fd : FuncData} {k : Nat} (F : L2.Fun K "trimmed" "trimmed" s_trimmed f fd) (mlen : mg "len" = none) : FnOk P w K mg base CX0 (k + 1) f fd ["numbers"] (spTrimZ K) := by
  have nd := sc_trimmed.nd
  refine F.ok sc_trimmed (fun vs H Q E h => ?_) (fun cdv A outer s H vs Q E hr h => ?_)
  · obtain ⟨v, zs, rfl, _⟩ := h
    rfl
  · obtain ⟨v, zs, rfl, hv, q⟩ := h
    refine ⟨_, pss_cons (ps_set (i := 1) nd rfl (.inl rfl) (pe_callB call_len (by rfl) mlen PySem.boot_len (pa_cons (pv 0) pa_nil)))
      (pss_cons (ps_while PassesOwn.never (PW.pt (pw_and (pt_cmpR op_gt (pv 1) pe_int (nomark _)) (pw_and1 (pt_cmpR op_eq (pe_ix ix_list (pv 0) (pe_op op_sub (pv 1) pe_int) (fun _ _ => rfl)) pe_int (nomark _))))) (pss_one (ps_set (i := 1) nd rfl (.inl rfl) (pe_op op_sub (pv 1) pe_int))))
      (pss_one (ps_ret (pe_slice sl_list (pv 0) po_none (po_some (pv 1)))))), ?_⟩
    obtain ⟨a, rfl, ha, hl⟩ := at_dz hv
    have sq : SqL K H a (zs.map V.int) := .inl (.inl ha)
    refine ⟨.ref a, rfl, _, _, rfl, .inl ⟨_, sq, rfl⟩, ?_⟩
    rw [List.length_map]
    refine while_by (fun σ H' => ∃ m : Nat, σ = [some (.ref a), some (.int (m : Int))] ∧ m ≤ zs.length ∧ trimL 0 zs = trimL 0 (zs.take m) ∧ H = H') (fun σ _ => match σ with | [_, some (.int m)] => m.toNat | _ => 0) ⟨zs.length, rfl, Nat.le_refl _, by rw [List.take_length], rfl⟩ ?_ ?_
    · rintro σ H' ⟨m, rfl, hm, et, rfl⟩
      have fin : trimL 0 (zs.take m) = zs.take m → tRet (tSl (rSlL K) (tVar 0) tNoPart (tPart (tVar 1))) { nx := fun _ H' => Q .non H', rt := Q } [some (.ref a), some (.int (m : Int))] H := fun e => by
        refine ⟨.ref a, rfl, .int m, rfl, m, rfl, a, _, rfl, sq, fun p np => ?_⟩
        rw [cut_to (by rw [List.length_map]; exact hm), ← List.map_take, ← e, ← et]
        exact q _ _ (upd_new np) (dz_at upd_same (Nat.le_trans (trim_len _) hl))
      refine ⟨.int m, rfl, m, 0, rfl, rfl, _, rfl, ite2 (fun e => ?_) (fun e => ?_)⟩
      · have m0 : 0 < m := by
          have : (0 : Int) < (m : Int) := of_decide_eq_true e
          omega
        obtain ⟨j, rfl⟩ : ∃ j, m = j + 1 := ⟨m - 1, by omega⟩
        obtain ⟨y, hy⟩ : ∃ y, zs[j]? = some y := ⟨zs[j], List.getElem?_eq_getElem (by omega)⟩
        have ej : (((j + 1 : Nat) : Int) - 1) = ((j : Nat) : Int) := by omega
        refine ⟨.ref a, rfl, .int ((j + 1 : Nat) : Int), rfl, _, 1, rfl, rfl, a, _, _, .int y, rfl, rfl, sq, ?_, rfl, _, rfl, ite2 (fun e2 => ?_) (fun e2 => ?_)⟩
        · rw [ej]
          exact atI_nat (by rw [List.getElem?_map, hy]; rfl)
        · have y0 : y = 0 := V.int.inj (of_decide_eq_true e2)
          rw [y0] at hy
          refine ⟨.int ((j + 1 : Nat) : Int), rfl, _, 1, rfl, rfl, ⟨j, ?_, by omega, ?_, rfl⟩, ?_⟩
          · show [some (V.ref a), some (V.int (((j + 1 : Nat) : Int) - 1))] = _
            rw [ej]
          · rw [et, trim_take hy]
          · show (((j + 1 : Nat) : Int) - 1).toNat < ((j + 1 : Nat) : Int).toNat
            omega
        · have y0 : y ≠ 0 := fun z => e2 (decide_eq_true (congrArg V.int z))
          exact fin (trim_done hy y0)
      · have m0 : m = 0 := by
          have : ¬ (0 : Int) < (m : Int) := fun z => e (decide_eq_true z)
          omega
        refine iteF (fin ?_)
        rw [m0]
        rfl
    · rintro σ H' Q1 Q2 imp ⟨v, hv, i, j, e1, e2, b, hb, hh⟩
      refine ⟨v, hv, i, j, e1, e2, b, hb, ?_⟩
      cases b with
      | false => exact imp _ _ hh
      | true =>
        obtain ⟨v1, h1, v2, h2, i2, j2, e3, e4, p, xs, i3, v3, e5, e6, h3, h4, e7, b2, h5, hh⟩ := hh
        exact ⟨v1, h1, v2, h2, i2, j2, e3, e4, p, xs, i3, v3, e5, e6, h3, h4, e7, b2, h5, imp _ _ hh⟩
theorem ints_get {zs : List Int} {i : Nat} {x : V} {d : Dat} {g : Int → Int} (h : (zs.map V.int)[i]? = some x) (h2 : ((zs.map g).map Dat.int)[i]? = some d) : ∃ z, z ∈ zs ∧ x = .int z ∧ d = .int (g z) := by
  rw [List.getElem?_map] at h
  rw [List.map_map, List.getElem?_map] at h2
  cases e : zs[i]? with
  | none => rw [e] at h; cases h
  | some z =>
    rw [e] at h h2
    exact ⟨z, List.mem_of_getElem? e, (Option.some.inj h).symm, (Option.some.inj h2).symm⟩
theorem tupDs_map {α : Type} {f : α → Dat} (h : ∀ a, tupD (f a) = true) (l : List α) : tupDs (l.map f) = true := tupDs_all.mpr fun d hd => by
  obtain ⟨a, _, rfl⟩ := List.mem_map.mp hd
  exact h a
theorem sc_without : FnScope ["numbers", "factor", "number"] ["numbers", "factor"] (defScope s_without_factor) := ⟨rfl, rfl, rfl, by decide +kernel, rfl, by decide +kernel, by decide +kernel⟩
theorem ok_without {f : Addr} {fd : FuncData} {k : Nat} (F : L2.Fun K "without_factor" "without_factor" s_without_factor f fd) : FnOk P w K mg base CX0 (k + 1) f fd ["numbers", "factor"] (spWithout K) := by
  have nd := sc_without.nd
  refine F.ok sc_without (fun vs H Q E h => ?_) (fun cdv A outer s H vs Q E hr h => ?_)
  · obtain ⟨v, zs, f, rfl, _⟩ := h
    rfl
  · obtain ⟨v, zs, f, rfl, hv, hc, q⟩ := h
    refine ⟨_, pss_one (ps_ret (pe_lc (own := [("number", 2)]) (g := gName 2) (tt := tYes) (by rfl) nd (pi_list (pv 0)) (blkOk_by (N := ["numbers", "factor", "number"]) (sc := defScope s_without_factor) (by decide +kernel)) (fun _ _ _ _ _ => pg_name (i := 2) nd rfl (.inl rfl) (hf := .inr rfl)) (fun _ _ _ _ _ => pts_nil) (fun _ _ _ _ _ => pe_op op_fdivX (pv 2) (pv 1)))), ?_⟩
    obtain ⟨a, rfl, ha, hl⟩ := at_dz hv
    refine ⟨.ref a, rfl, a, rfl, ⟨_, .inl (.inl ha)⟩, fun D nD => ?_⟩
    refine lc_dats (xs := zs.map V.int) ((zs.map fun z : Int => z.fdiv f).map Dat.int) (by simp) (by simpa using hl) (tupDs_map (fun _ => rfl) _) nD (fun H' s => .inl (.inl (s _ _ ha))) (fun i x d H' k e hx hd s1 hk => ?_) (fun H' s1 hD => q _ _ s1 hD)
    obtain ⟨z, hz, rfl, rfl⟩ := ints_get hx hd
    refine ⟨rfl, yesI ?_⟩
    exact ⟨.int z, rfl, .int f, rfl, z, f, rfl, rfl, hc (List.ne_nil_of_mem hz), hk _ _ (Same.refl _) (.int _)⟩
theorem sc_content : FnScope ["numbers", "shared", "number"] ["numbers"] (defScope s_content) := ⟨rfl, rfl, rfl, by decide +kernel, rfl, by decide +kernel, by decide +kernel⟩
theorem ok_content {f fS : Addr} {fd fdS : FuncData} (F : L2.Fun K "content" "content" s_content f fd) (GS : FnOk P w K mg base CX0 1 fS fdS ["one", "other"] spGcd) (gS : mg "shared_factor" = some (.ref fS)) (kS : PySem.W.keepIn K (.ref fS) = true) (bS : L2.Binds K fdS ["one", "other"] []) : FnOk P w K mg base CX0 2 f fd ["numbers"] (spContent K) := by
  have nd := sc_content.nd
  refine F.ok sc_content (fun vs H Q E h => ?_) (fun cdv A outer s H vs Q E hr h => ?_)
  · obtain ⟨v, zs, rfl, _⟩ := h
    rfl
  · obtain ⟨v, zs, rfl, hv, q⟩ := h
    refine ⟨_, pss_cons (ps_set (i := 1) nd rfl (.inl rfl) pe_int)
      (pss_cons (ps_for PassesOwn.never rfl (pi_list (pv 0)) (pg_name (i := 2) nd rfl (.inl rfl)) (pss_one (ps_set (i := 1) nd rfl (.inl rfl) (pe_call GS hr (by rfl) gS kS bS .nil pass0 (pa_cons (pv 1) (pa_cons (pv 2) pa_nil))))))
      (pss_one (ps_ret (pv 1)))), ?_⟩
    obtain ⟨a, rfl, ha, hl⟩ := at_dz hv
    have sq : SqL K H a (zs.map V.int) := .inl (.inl ha)
    refine ⟨.ref a, rfl, a, rfl, ⟨_, sq⟩, for_list (xs := zs.map V.int) (fun i σ H' => ∃ x2, σ = [some (.ref a), some (.int (contentZ (zs.take i))), x2] ∧ H = H') ⟨_, rfl, rfl⟩ ?_ ?_ ?_⟩
    · rintro i σ H' _ ⟨_, _, rfl⟩
      exact sq
    · rintro i x σ H' hx ⟨x2, rfl, rfl⟩
      rw [List.getElem?_map] at hx
      cases e : zs[i]? with
      | none => rw [e] at hx; cases hx
      | some z =>
        rw [e] at hx
        obtain rfl : V.int z = x := Option.some.inj hx
        refine ⟨.int _, rfl, .int z, rfl, _, z, rfl, some (.int z), ?_, rfl⟩
        unfold contentZ
        rw [List.take_add_one, e, List.foldl_append]
        rfl
    · rintro σ H' ⟨x2, rfl, rfl⟩
      rw [List.length_map, List.take_length]
      exact ⟨_, rfl, q⟩
end
end RB

set_option Elab.async false
set_option linter.all false
set_option maxRecDepth 100000
set_option maxHeartbeats 4000000
namespace RB
open PySem PySem.Spec PyProof.Rows L2 SX
theorem keeps_none {r p : Addr} {H H' : Hp} (k : Keeps r H H') (R : RngOk H' r) (n : H' p = none) : H p = none := by
  cases e : H p with
  | none => rfl
  | some o => exact absurd ((k p o e (rng_ne_new R n)).symm.trans n) (by simp)
theorem low_one (n : Int) : Low n 1 := ⟨by decide, by simp⟩
section
variable {P : Program} {w : World} {K : PySem.W.Frag} {mg : Str → Option Value} {base : Heap}
theorem sc_as_pair : FnScope ["value", "numerator", "denominator"] ["value"] (defScope s_as_pair) := ⟨rfl, rfl, rfl, by decide +kernel, rfl, by decide +kernel, by decide +kernel⟩
theorem ok_as_pair {f C : Addr} {fd : FuncData} (F : L2.Fun K "as_pair" "as_pair" s_as_pair f fd) (misi : mg "isinstance" = none) (mint : mg "int" = none) (TE : Err0 P w K mg base 2 "InvalidNumber" "InvalidNumber" C) : FnOk P w K mg base (L2.CX P w) 4 f fd ["value"] (spPair C) := by
  have nd := sc_as_pair.nd
  refine F.okX sc_as_pair (fun vs H Q E h => ?_) (fun cdv A outer s H vs Q E hr h => ?_)
  · obtain ⟨v, n, d, rfl, _⟩ := h
    rfl
  · obtain ⟨v, n, d, rfl, hv, q0, q1⟩ := h
    refine ⟨_, pss_cons (ps_if (pt_val (pe_isi (i := 0) rfl (.inl rfl) (by rfl) misi (by rfl) mint boot_int)) (pss_one (ps_ret (pe_tup (pa_cons (pv 0) (pa_cons pe_int pa_nil))))) pss_nil)
      (pss_cons (ps_asg (pv 0) (pg_tup (by rfl) (pgs_cons (pg_name (i := 1) nd rfl (.inl rfl)) (pgs_cons (pg_name (i := 2) nd rfl (.inl rfl)) pgs_nil))))
      (pss_cons (ps_if (pt_cmpR op_eq (pv 2) pe_int (nomark _)) (pss_one (ps_raise rfl (takes_of rfl rfl rfl rfl) (pmk0 TE hr (by rfl)))) pss_nil)
      (pss_one (ps_ret (pe_tup (pa_cons (pv 1) (pa_cons (pv 2) pa_nil))))))), ?_⟩
    rcases hv with ⟨rfl, rfl⟩ | ⟨a, rfl, ha⟩
    · refine ⟨.int n, .int n, _, rfl, .int n, kit_int _, _, rfl, iteT ?_⟩
      exact ⟨.int n, rfl, lineN (by decide : 2 ≤ 1000), fun p np => q1 (by decide) p np⟩
    · refine ⟨.ref a, .tup [.int n, .int d], _, rfl, .tup ha (by decide : 2 ≤ 100000) (.cons (.int _) (.cons (.int _) .nil)), kit_int _, _, rfl, iteF ?_⟩
      refine ⟨.ref a, rfl, a, [.int n, .int d], rfl, .inl (.inl ha), rfl, .int n, [.int d], rfl, .int d, [], rfl, rfl, ?_⟩
      refine ⟨.int d, rfl, rfl, _, rfl, ite2 (fun e => ?_) (fun e => ?_)⟩
      · exact q0 (V.int.inj (of_decide_eq_true e))
      · have hd : d ≠ 0 := fun z => e (decide_eq_true (congrArg V.int z))
        exact ⟨.int n, rfl, .int d, rfl, lineN (by decide : 2 ≤ 1000), fun p np => q1 hd p np⟩
end
end RB

set_option Elab.async false
set_option linter.all false
set_option maxRecDepth 100000
set_option maxHeartbeats 4000000
namespace RB
open PySem PySem.Spec PyProof.Rows L2 SX
/-- what sizes the law's polynomials have -/
def Sized (M : Nat) (ps : List (Int × Int)) : Prop := (∀ p ∈ ps, p.1.natAbs < 2 ^ M ∧ p.2.natAbs < 2 ^ M) ∧ 0 < M ∧ M ≤ 8000 ∧ M * (ps.length + 2) ≤ 400000
/-- a list of pairs -/
def dp (p : Int × Int) : Dat := .tup [.int p.1, .int p.2]
/-- as_pair of a pair whose denominator is not zero: nothing is raised -/
def spPair1 : Sp := fun vs H Q _ => ∃ (v : V) (n d : Int), vs = [v] ∧ RatV H v n d ∧ d ≠ 0 ∧ ∀ p, H p = none → Q (.ref p) (upd H p (.tup [.int n, .int d]))
def spScale (K : PySem.W.Frag) : Sp := fun vs H Q _ => ∃ (a : Addr) (xs : List V) (ps : List (Int × Int)) (M : Nat), vs = [.ref a] ∧ H a = some (.lst xs) ∧ AtAll K H xs (ps.map dp) ∧ ps.length ≤ 1000 ∧ (∀ p ∈ ps, p.2 ≠ 0) ∧ Sized M ps ∧
  ∀ u l H', Same H H' → H' u = some (.tup [.ref l, .int (scaleOf ps)]) → At K H' (.ref l) (dz (wholeZ ps)) → Q (.ref u) H'
def spParts (K : PySem.W.Frag) : Sp := fun vs H Q _ => ∃ (a : Addr) (xs : List V) (ps : List (Int × Int)) (M : Nat), vs = [.ref a] ∧ H a = some (.lst xs) ∧ AtAll K H xs (ps.map dp) ∧ ps.length ≤ 1000 ∧ (∀ p ∈ ps, p.2 ≠ 0) ∧ Sized M ps ∧
  ∀ u l H', Same H H' → H' u = some (.tup [.ref l, .int (scaleOf ps)]) → At K H' (.ref l) (dz (trimL 0 (wholeZ ps))) → Q (.ref u) H'
theorem pair_get {K : PySem.W.Frag} {H : Hp} {ps : List (Int × Int)} {ys : List V} (hA : AtAll K H ys (ps.map dp)) : ∀ (i : Nat) (y : V), ys[i]? = some y → ∃ (p : Int × Int) (t : Addr), ps[i]? = some p ∧ y = .ref t ∧ H t = some (.tup [.int p.1, .int p.2]) := fun i y hy => by
  have hi := (List.getElem?_eq_some_iff.mp hy).1
  have hl := hA.length
  rw [List.length_map] at hl
  have e2 : ps[i]? = some ps[i] := List.getElem?_eq_getElem (by omega)
  have := hA.get hy (d := .tup [.int ps[i].1, .int ps[i].2]) (by rw [List.getElem?_map, e2]; rfl)
  obtain ⟨t, zs, rfl, h1, h2, h3⟩ := at_tup this
  cases h3 with
  | cons a1 h3 =>
    cases a1
    cases h3 with
    | cons a2 h3 =>
      cases a2
      cases h3
      exact ⟨ps[i], t, e2, rfl, h1⟩
theorem scale_size {M : Nat} {ps : List (Int × Int)} (h0 : ∀ p ∈ ps, p.2 ≠ 0) (h : Sized M ps) : (scaleOf ps).natAbs.log2 ≤ M * ps.length := by
  have h1 := scale_le (M := M) ps 1 (by decide) (fun p hp => ⟨h0 p hp, (h.1 p hp).2⟩)
  rw [Int.one_mul] at h1
  obtain ⟨p0, _⟩ := scale_ok h0
  have h2 : (scaleOf ps).natAbs ≤ 2 ^ (M * ps.length) := by
    have : scaleOf ps ≤ ((2 ^ (M * ps.length) : Nat) : Int) := by
      rw [Int.natCast_pow]
      exact h1
    omega
  have := log2_mono h2
  rw [Nat.log2_two_pow] at this
  exact this
theorem Sized.take {M : Nat} {ps : List (Int × Int)} (h : Sized M ps) (i : Nat) : Sized M (ps.take i) := by
  obtain ⟨h1, h2, h3, h4⟩ := h
  refine ⟨fun p hp => h1 p (List.mem_of_mem_take hp), h2, h3, Nat.le_trans (Nat.mul_le_mul_left _ ?_) h4⟩
  have := List.length_take_le i ps
  rw [List.length_take]
  omega
theorem log_of {M : Nat} {z : Int} (h : z.natAbs < 2 ^ M) (h0 : 0 < M) : z.natAbs.log2 < M := log2_lt h h0
section
variable {P : Program} {w : World} {K : PySem.W.Frag} {mg : Str → Option Value} {base : Heap}
theorem sc_pair1 : FnScope ["value", "numerator", "denominator"] ["value"] (defScope s_as_pair) := ⟨rfl, rfl, rfl, by decide +kernel, rfl, by decide +kernel, by decide +kernel⟩
theorem ok_pair1 {f : Addr} {fd : FuncData} (F : L2.Fun K "as_pair" "as_pair" s_as_pair f fd) (misi : mg "isinstance" = none) (mint : mg "int" = none) : FnOk P w K mg base CX0 1 f fd ["value"] spPair1 := by
  have nd := sc_pair1.nd
  refine F.ok sc_pair1 (fun vs H Q E h => ?_) (fun cdv A outer s H vs Q E hr h => ?_)
  · obtain ⟨v, n, d, rfl, _⟩ := h
    rfl
  · obtain ⟨v, n, d, rfl, hv, d0, q1⟩ := h
    refine ⟨_, pss_cons (ps_if (pt_val (pe_isi (i := 0) rfl (.inl rfl) (by rfl) misi (by rfl) mint boot_int)) (pss_one (ps_ret (pe_tup (pa_cons (pv 0) (pa_cons pe_int pa_nil))))) pss_nil)
      (pss_cons (ps_asg (pv 0) (pg_tup (by rfl) (pgs_cons (pg_name (i := 1) nd rfl (.inl rfl)) (pgs_cons (pg_name (i := 2) nd rfl (.inl rfl)) pgs_nil))))
      (pss_cons (ps_if (pt_cmpR op_eq (pv 2) pe_int (nomark _)) (pss_one ps_never) pss_nil)
      (pss_one (ps_ret (pe_tup (pa_cons (pv 1) (pa_cons (pv 2) pa_nil))))))), ?_⟩
    rcases hv with ⟨rfl, rfl⟩ | ⟨a, rfl, ha⟩
    · refine ⟨.int n, .int n, _, rfl, .int n, kit_int _, _, rfl, iteT ?_⟩
      exact ⟨.int n, rfl, lineN (by decide : 2 ≤ 1000), fun p np => q1 p np⟩
    · refine ⟨.ref a, .tup [.int n, .int d], _, rfl, .tup ha (by decide : 2 ≤ 100000) (.cons (.int _) (.cons (.int _) .nil)), kit_int _, _, rfl, iteF ?_⟩
      refine ⟨.ref a, rfl, a, [.int n, .int d], rfl, .inl (.inl ha), rfl, .int n, [.int d], rfl, .int d, [], rfl, rfl, ?_⟩
      refine ⟨.int d, rfl, rfl, _, rfl, ite2 (fun e => ?_) (fun e => ?_)⟩
      · exact absurd (V.int.inj (of_decide_eq_true e)) d0
      · exact ⟨.int n, rfl, .int d, rfl, lineN (by decide : 2 ≤ 1000), fun p np => q1 p np⟩
abbrev scaleN : List Str := ["values", "pairs", "scale", "pair", "value", "above", "below"]
theorem sc_scale : FnScope scaleN ["values"] (defScope s_over_one_scale) := ⟨rfl, rfl, rfl, by decide +kernel, rfl, by decide +kernel, by decide +kernel⟩
theorem ok_scale {f fA fM : Addr} {fd dA dM : FuncData} (F : L2.Fun K "over_one_scale" "over_one_scale" s_over_one_scale f fd)
    (GA : FnOk P w K mg base CX0 1 fA dA ["value"] spPair1) (gA : mg "as_pair" = some (.ref fA)) (kA : PySem.W.keepIn K (.ref fA) = true) (bA : L2.Binds K dA ["value"] [])
    (GM : FnOk P w K mg base CX0 2 fM dM ["one", "other"] spLeast) (gM : mg "least_multiple" = some (.ref fM)) (kM : PySem.W.keepIn K (.ref fM) = true) (bM : L2.Binds K dM ["one", "other"] []) :
    FnOk P w K mg base CX0 3 f fd ["values"] (spScale K) := by
  have nd := sc_scale.nd
  refine F.ok sc_scale (fun vs H Q E h => ?_) (fun cdv A outer s H vs Q E hr h => ?_)
  · obtain ⟨a, xs, ps, M, rfl, _⟩ := h
    rfl
  · obtain ⟨a, xs, ps, M, rfl, ha, hg, hlen, hd0, hS, q⟩ := h
    have hr1 : Room 1 _ := hr.mono (by decide : 1 ≤ 2)
    refine ⟨_, pss_cons (ps_setLc (i := 1) (own := [("value", 4)]) (g := gName 4) (tt := tYes) (by rfl) nd rfl rfl (sw_true rfl rfl rfl (by decide +kernel)) (pi_list (pv 0)) (blkOk_by (N := scaleN) (sc := defScope s_over_one_scale) (by decide +kernel)) (fun _ _ _ _ _ => pg_name (i := 4) nd rfl (.inl rfl) (hf := .inr rfl)) (fun _ _ _ _ _ => pts_nil) (fun _ _ _ _ _ => pe_call GA hr1 (by rfl) gA kA bA .nil pass0 (pa_cons (pv 4) pa_nil)))
      (pss_cons (ps_set (i := 2) nd rfl (.inr rfl) pe_int)
      (pss_cons (ps_for PassesOwn.never rfl (pi_list (pv 1)) (pg_name (i := 3) nd rfl (.inl rfl)) (pss_one (ps_set (i := 2) nd rfl (.inr rfl) (pe_call GM hr (by rfl) gM kM bM .nil pass0 (pa_cons (pv 2) (pa_cons (pe_ix ix_tup (pv 3) pe_int (fun _ _ => rfl)) pa_nil))))))
      (pss_one (ps_ret (pe_tup (pa_cons (pe_lc (own := [("above", 5), ("below", 6)]) (g := gTup K 2 (gCons (gName 5) (gCons (gName 6) gNil))) (tt := tYes) (by rfl) nd (pi_list (pv 1)) (blkOk_by (N := scaleN) (sc := defScope s_over_one_scale) (by decide +kernel)) (fun _ _ _ _ _ => pg_tup (by rfl) (pgs_cons (pg_name (i := 5) nd rfl (.inl rfl) (hf := .inr rfl)) (pgs_cons (pg_name (i := 6) nd rfl (.inl rfl) (hf := .inr rfl)) pgs_nil))) (fun _ _ _ _ _ => pts_nil) (fun _ _ _ _ _ => pe_op op_mulW (pv 5) (pe_op op_fdivX (pv 2) (pv 6)))) (pa_cons (pv 2) pa_nil))))))), ?_⟩
    refine ⟨.ref a, rfl, a, rfl, ⟨_, .inl (.inl ha)⟩, fun D nD => ?_⟩
    obtain ⟨hS1, hM0, hM8, hM4⟩ := id hS
    have hgl : xs.length = ps.length := by rw [hg.length, List.length_map]
    refine lc_dats (xs := xs) (ps.map dp) (by rw [List.length_map, hgl]) (by rw [List.length_map]; omega) (tupDs_map (fun _ => rfl) _) nD (fun H' s => .inl (.inl (s _ _ ha))) (fun i x d H' k e hx hd s1 hk => ?_) (fun H1 s1 hD => ?_)
    · obtain ⟨p, t, e2, rfl, ht⟩ := pair_get hg i x hx
      rw [List.getElem?_map, e2] at hd
      obtain rfl : dp p = d := Option.some.inj hd
      refine ⟨rfl, yesI ?_⟩
      refine ⟨.ref t, rfl, .ref t, p.1, p.2, rfl, .inr ⟨t, rfl, s1 _ _ ht⟩, hd0 p (List.mem_of_getElem? e2), fun u nu => hk _ _ (upd_new nu) (.tup upd_same (by decide : 2 ≤ 100000) (.cons (.int _) (.cons (.int _) .nil)))⟩
    · obtain ⟨_, ys, e1, hD1, hD2, hA⟩ := at_lst hD
      cases e1
      have sq : SqL K H1 D ys := .inl (.inl hD1)
      have hlen2 : ys.length = ps.length := by rw [hA.length, List.length_map]
      have item := pair_get hA
      refine ⟨.ref D, rfl, D, rfl, ⟨_, sq⟩, for_list (xs := ys) (fun i σ H' => ∃ x3, σ = [some (.ref a), some (.ref D), some (.int (scaleOf (ps.take i))), x3, none, none, none] ∧ H1 = H') ⟨none, rfl, rfl⟩ ?_ ?_ ?_⟩
      · rintro i σ H' _ ⟨_, _, rfl⟩
        exact sq
      · rintro i x σ H' hx ⟨x3, rfl, rfl⟩
        obtain ⟨p, t, e2, rfl, ht⟩ := item i x hx
        have hp := List.mem_of_getElem? e2
        have hz : ∀ p ∈ ps.take i, p.2 ≠ 0 := fun p hp => hd0 p (List.mem_of_mem_take hp)
        have l1 := scale_size hz (hS.take i)
        have l2 := log_of (hS1 p hp).2 hM0
        refine ⟨.int _, rfl, .ref t, rfl, t, _, 1, _, rfl, rfl, .inl (.inl ht), atI_nat (j := 1) rfl, _, p.2, rfl, (scale_ok hz).1, hd0 p hp, by omega, ?_, some (.ref t), ?_, rfl⟩
        · have : M * (ps.take i).length ≤ M * (ps.length + 2) := Nat.mul_le_mul_left _ (by rw [List.length_take]; omega)
          have : M ≤ M * (ps.length + 2) := Nat.le_mul_of_pos_right _ (by omega)
          omega
        · rw [List.take_add_one, e2]
          show _ = [some (V.ref a), some (V.ref D), some (V.int (scaleOf (ps.take i ++ [p]))), some (V.ref t), none, none, none]
          rw [scale_snoc]
          rfl
      · rintro σ H' ⟨x3, rfl, rfl⟩
        rw [hlen2, List.take_length]
        refine ⟨.ref D, rfl, D, rfl, ⟨_, sq⟩, fun E2 nE => ?_⟩
        refine lc_dats (xs := ys) ((wholeZ ps).map Dat.int) (by rw [List.length_map, wholeZ, List.length_map, hlen2]) (by rw [List.length_map, wholeZ, List.length_map]; omega) (tupDs_map (fun _ => rfl) _) nE (fun H' s => .inl (.inl (s _ _ hD1))) (fun i x d H' k e hx hd s2 hk => ?_) (fun H2 s2 hE => ?_)
        · obtain ⟨p, t, e2, rfl, ht⟩ := item i x hx
          have hp := List.mem_of_getElem? e2
          rw [wholeZ, List.map_map, List.getElem?_map, e2] at hd
          obtain rfl : Dat.int (p.1 * (scaleOf ps).fdiv p.2) = d := Option.some.inj hd
          refine ⟨t, _, rfl, .inl (.inl (s2 _ _ ht)), rfl, _, [_], rfl, _, [], rfl, rfl, rfl, yesI ?_⟩
          have l1 := scale_size hd0 hS
          have l2 := log_of (hS1 p hp).2 hM0
          have l3 := log_of (hS1 p hp).1 hM0
          obtain ⟨k2, hk2⟩ := (scale_ok hd0).2 p hp
          have d0 := hd0 p hp
          have l4 : ((scaleOf ps).fdiv p.2).natAbs.log2 ≤ M * ps.length := by
            rw [fdiv_is d0 hk2]
            refine Nat.le_trans (log2_mono ?_) l1
            conv => rhs; rw [hk2]
            rw [Int.natAbs_mul]
            exact Nat.le_mul_of_pos_left _ (by omega)
          have l5 : M * (ps.length + 2) = M * ps.length + M + M := by
            rw [Nat.mul_add]
            omega
          refine ⟨.int p.1, rfl, .int _, rfl, .int p.2, rfl, _, p.2, rfl, rfl, ⟨d0, by omega⟩, p.1, _, rfl, rfl, ?_, hk _ _ (Same.refl _) (.int _)⟩
          unfold CMulW
          omega
        · refine ⟨.int _, rfl, lineN (by decide : 2 ≤ 1000), fun r nr => q r E2 _ ((s1.trans s2).trans (upd_new nr)) upd_same (hE.same (upd_new nr))⟩
abbrev partsN : List Str := ["poly", "numbers", "scale"]
theorem sc_parts : FnScope partsN ["poly"] (defScope s_whole_parts) := ⟨rfl, rfl, rfl, by decide +kernel, rfl, by decide +kernel, by decide +kernel⟩
theorem ok_parts {f fO fT : Addr} {fd dO dT : FuncData} (F : L2.Fun K "whole_parts" "whole_parts" s_whole_parts f fd)
    (GO : FnOk P w K mg base CX0 3 fO dO ["values"] (spScale K)) (gO : mg "over_one_scale" = some (.ref fO)) (kO : PySem.W.keepIn K (.ref fO) = true) (bO : L2.Binds K dO ["values"] [])
    (GT : FnOk P w K mg base CX0 1 fT dT ["numbers"] (spTrimZ K)) (gT : mg "trimmed" = some (.ref fT)) (kT : PySem.W.keepIn K (.ref fT) = true) (bT : L2.Binds K dT ["numbers"] []) :
    FnOk P w K mg base CX0 5 f fd ["poly"] (spParts K) := by
  have nd := sc_parts.nd
  refine F.ok sc_parts (fun vs H Q E h => ?_) (fun cdv A outer s H vs Q E hr h => ?_)
  · obtain ⟨a, xs, ps, M, rfl, _⟩ := h
    rfl
  · obtain ⟨a, xs, ps, M, rfl, ha, hg, hlen, hd0, hS, q⟩ := h
    have hr1 : Room 1 _ := hr.mono (by decide : 1 ≤ 4)
    have hr3 : Room 3 _ := hr.mono (by decide : 3 ≤ 4)
    refine ⟨_, pss_cons (ps_asg (pe_call GO hr3 (by rfl) gO kO bO .nil pass0 (pa_cons (pv 0) pa_nil)) (pg_tup (by rfl) (pgs_cons (pg_name (i := 1) nd rfl (.inl rfl)) (pgs_cons (pg_name (i := 2) nd rfl (.inl rfl)) pgs_nil))))
      (pss_one (ps_ret (pe_tup (pa_cons (pe_call GT hr1 (by rfl) gT kT bT .nil pass0 (pa_cons (pv 1) pa_nil)) (pa_cons (pv 2) pa_nil))))), ?_⟩
    refine ⟨.ref a, rfl, a, xs, ps, M, rfl, ha, hg, hlen, hd0, hS, fun u E2 H1 s1 hu hE => ?_⟩
    refine ⟨u, _, rfl, .inl (.inl hu), rfl, .ref E2, [.int _], rfl, .int _, [], rfl, rfl, ?_⟩
    refine ⟨.ref E2, rfl, .ref E2, wholeZ ps, rfl, hE, fun v H3 s3 hv => ?_⟩
    obtain ⟨l, rfl, hl1, hl2⟩ := at_dz hv
    exact ⟨.int _, rfl, lineN (by decide : 2 ≤ 1000), fun r nr => q r l _ ((s1.trans s3).trans (upd_new nr)) upd_same (hv.same (upd_new nr))⟩
end
end RB

set_option Elab.async false
set_option linter.all false
set_option maxRecDepth 100000
set_option maxHeartbeats 4000000
namespace RB
open PySem PySem.Spec PyProof.Rows L2 SX
def spPrim (K : PySem.W.Frag) : Sp := fun vs H Q _ => ∃ (v : V) (zs : List Int) (z : Int), vs = [v] ∧ At K H v (dz (zs ++ [z])) ∧ z ≠ 0 ∧ z.natAbs.log2 < 9000 ∧ ∀ u H', Same H H' → At K H' u (dz ((zs ++ [z]).map (·.fdiv (primF zs z)))) → Q u H'
def spCheck : Sp := fun vs H Q _ => ∃ n : Int, vs = [.int n] ∧ n ≤ 40 ∧ Q .non H
section
variable {P : Program} {w : World} {K : PySem.W.Frag} {mg : Str → Option Value} {base : Heap}
theorem sc_prim : FnScope ["numbers", "factor"] ["numbers"] (defScope s_primitive) := ⟨rfl, rfl, rfl, by decide +kernel, rfl, by decide +kernel, by decide +kernel⟩
theorem ok_prim {f fC fW : Addr} {fd dC dW : FuncData} (F : L2.Fun K "primitive" "primitive" s_primitive f fd)
    (GC : FnOk P w K mg base CX0 2 fC dC ["numbers"] (spContent K)) (gC : mg "content" = some (.ref fC)) (kC : PySem.W.keepIn K (.ref fC) = true) (bC : L2.Binds K dC ["numbers"] [])
    (GW : FnOk P w K mg base CX0 1 fW dW ["numbers", "factor"] (spWithout K)) (gW : mg "without_factor" = some (.ref fW)) (kW : PySem.W.keepIn K (.ref fW) = true) (bW : L2.Binds K dW ["numbers", "factor"] []) :
    FnOk P w K mg base CX0 3 f fd ["numbers"] (spPrim K) := by
  have nd := sc_prim.nd
  refine F.ok sc_prim (fun vs H Q E h => ?_) (fun cdv A outer s H vs Q E hr h => ?_)
  · obtain ⟨v, zs, z, rfl, _⟩ := h
    rfl
  · obtain ⟨v, zs, z, rfl, hv, z0, z9, q⟩ := h
    have hr1 : Room 1 _ := hr.mono (by decide : 1 ≤ 2)
    refine ⟨_, pss_cons (ps_if (pt_cmpR (op_eqD hr.units) (pv 0) (pe_lst pa_nil) (nomark _)) (pss_one (ps_ret (pe_lst pa_nil))) pss_nil)
      (pss_cons (ps_set (i := 1) nd rfl (.inl rfl) (pe_call GC hr (by rfl) gC kC bC .nil pass0 (pa_cons (pv 0) pa_nil)))
      (C8.pss_cut (ps_if (pt_cmpR op_lt (pe_ix ix_list (pv 0) (pe_un un_neg pe_int) (fun _ _ => rfl)) pe_int (nomark _)) (pss_one (ps_set (i := 1) nd rfl (.inl rfl) (pe_un un_neg (pv 1)))) pss_nil)
      (pss_one (ps_ret (pe_call GW hr1 (by rfl) gW kW bW .nil pass0 (pa_cons (pv 0) (pa_cons (pv 1) pa_nil))))))), ?_⟩
    obtain ⟨a, rfl, ha, hl⟩ := at_dz hv
    refine ⟨.ref a, rfl, Nat.zero_le _, fun e1 n1 => ?_⟩
    have s1 := upd_new (o := .lst []) n1
    refine eq_read (hv.same s1) (dz_at (zs := []) upd_same (Nat.zero_le _)) (num_dz _) (num_dz _) (Nat.le_trans (deep_dz _) (by decide)) (Nat.le_trans (deep_dz _) (by decide)) fun t ht => ⟨_, rfl, ?_⟩
    have t0 : t = false := by
      cases t with
      | false => rfl
      | true =>
        have := dz_inj (ht.mp rfl)
        simp at this
    subst t0
    refine iteF ⟨.ref a, rfl, .ref a, _, rfl, hv.same s1, ?_⟩
    refine ⟨fun σ H' => σ = [some (.ref a), some (.int (primF zs z))] ∧ H' = upd H e1 (.lst []), ?_, ?_⟩
    · refine ⟨.ref a, rfl, 1, rfl, a, _, -1, .int z, rfl, rfl, .inl (.inl (s1 _ _ ha)), ?_, z, 0, rfl, rfl, _, rfl, ite2 (fun e => ?_) (fun e => ?_)⟩
      · rw [List.map_append]
        exact atI_last _ _
      · have e : z < 0 := of_decide_eq_true e
        refine ⟨.int _, rfl, _, rfl, ?_, rfl⟩
        show [some (V.ref a), some (V.int (-contentZ (zs ++ [z])))] = _
        unfold primF
        rw [if_pos e]
      · have e : ¬ z < 0 := fun x => e (decide_eq_true x)
        refine ⟨?_, rfl⟩
        unfold primF
        rw [if_neg e]
        rfl
    · rintro σ H' ⟨rfl, rfl⟩
      obtain ⟨f0, f1, _⟩ := prim_math (zs := zs) z0
      refine ⟨.ref a, rfl, .int _, rfl, .ref a, _, _, rfl, hv.same s1, fun _ => ⟨f0, ?_⟩, fun u H2 s2 hu => q _ _ (s1.trans s2) hu⟩
      have := log2_mono f1
      omega
theorem sc_check : FnScope ["size"] ["size"] (defScope s_check_size) := ⟨rfl, rfl, rfl, by decide +kernel, rfl, by decide +kernel, by decide +kernel⟩
theorem ok_check {f : Addr} {fd : FuncData} {k : Nat} {tM : Tok} (F : L2.Fun K "check_size" "check_size" s_check_size f fd) (mM : mg "MAX_SIZE" = some (.int 40 tM)) : FnOk P w K mg base CX0 (k + 1) f fd ["size"] spCheck := by
  have nd := sc_check.nd
  refine F.ok sc_check (fun vs H Q E h => ?_) (fun cdv A outer s H vs Q E hr h => ?_)
  · obtain ⟨n, rfl, _⟩ := h
    rfl
  · obtain ⟨n, rfl, hn, q⟩ := h
    refine ⟨_, pss_one (ps_if (pt_cmpR op_gt (pv 0) (pe_glob (v := .int 40) (by rfl) mM ⟨_, rfl⟩) (nomark _)) (pss_one ps_never) pss_nil), ?_⟩
    refine ⟨.int n, rfl, n, 40, rfl, rfl, _, rfl, ite2 (fun e => ?_) (fun _ => q)⟩
    have e : (40 : Int) < n := of_decide_eq_true e
    omega
end
end RB

set_option Elab.async false
set_option linter.all false
set_option maxRecDepth 100000
set_option maxHeartbeats 4000000
namespace RB
open PySem PySem.Spec PyProof.Rows L2 SX
def BadP (C : Addr) (H : Hp) (E : XK) : Prop := ∀ x, H x = none → E (.ref C) (some x) (upd H x (.xd [("code", .str "InvalidPolynomial")]))
theorem AtAll.take {K : PySem.W.Frag} {H : Hp} : ∀ {xs : List V} {ds : List Dat} (n : Nat), AtAll K H xs ds → AtAll K H (xs.take n) (ds.take n)
  | _, _, 0, _ => by
    rw [List.take_zero, List.take_zero]
    exact .nil
  | _, _, n + 1, .nil => .nil
  | _, _, n + 1, .cons a t => .cons a (AtAll.take n t)
/-- 10 ** 100 -/
def huge : Int := 10000000000000000000000000000000000000000000000000000000000000000000000000000000000000000000000000000
/-- a bag: its object at x, its whole numbers -/
def BagAt (C : Addr) (H : Hp) (x : Addr) (ws : List Int) : Prop := ∃ dx l : Addr, H x = some (.ins C dx [("whole", .ref l)]) ∧ H l = some (.lst (ws.map V.int))
def spInit (K : PySem.W.Frag) (C CN CP : Addr) : Sp := fun vs H Q E => ∃ (x dx a : Addr) (xs : List V) (ps : List (Int × Int)) (M : Nat), vs = [.ref x, .ref a] ∧ H x = some (.ins C dx []) ∧ H a = some (.tup xs) ∧ GivenV H xs ps ∧ ps.length ≤ 1000 ∧
  ((∃ p ∈ ps, p.2 = 0) → ∀ H', Same H H' → Bad CN H' E) ∧
  ((∀ p ∈ ps, p.2 ≠ 0) → (trimL 0 (ps.map qOf) = [] → ∀ H', Same H H' → BadP CP H' E) ∧
    ∀ (t : List Rat) (y : Rat), trimL 0 (ps.map qOf) = t ++ [y] → y ≠ 0 → Sized M ps ∧ t.length ≤ 40 ∧ (∀ z ∈ wholeZ (headP ps), z.natAbs < huge.natAbs) ∧
      ∀ (ws : List Int) (m : Int) (H' : Hp), 0 < m → (∀ w ∈ ws ++ [m], w.natAbs < huge.natAbs) → contentZ (ws ++ [m]) = 1 → (∀ w ∈ ws ++ [m], ∃ z ∈ wholeZ (headP ps), w.natAbs ≤ z.natAbs) → (ws ++ [m]).map (fun x : Int => (x : Rat) / (m : Rat)) = (t ++ [y]).map (· / y) → (∀ b o, H b = some o → b ≠ x → H' b = some o) → BagAt C H' x (ws ++ [m]) → Q .non H')
structure TBag (K : PySem.W.Frag) (mg : Str → Option Value) (C : Addr) : Prop where
  cl : Cls K C
  nW : NoAttr K C "whole"
  len : mg "len" = none
  any : mg "any" = none
  abs : mg "abs" = none
  long : ∃ t, mg "TOO_LONG" = some (.int huge t)
theorem huge_log {z : Int} (h : z.natAbs < huge.natAbs) : z.natAbs.log2 < 400 := log2_lt (Nat.lt_trans h (by decide +kernel)) (by decide)
section
variable {P : Program} {w : World} {K : PySem.W.Frag} {mg : Str → Option Value} {base : Heap}
abbrev initN : List Str := ["self", "parts", "pairs", "many", "value", "pair", "number"]
theorem sc_init : FnScope initN ["self", "parts"] (defScope c_Bag_init) := ⟨rfl, rfl, rfl, by decide +kernel, rfl, by decide +kernel, by decide +kernel⟩
theorem ok_init {f fA fT fK fP fW C CN CP : Addr} {fd dA dT dK dP dW : FuncData} (F : L2.Fun K "__init__" "Bag.__init__" c_Bag_init f fd) (T : TBag K mg C)
    (TE : Err0 P w K mg base 2 "InvalidPolynomial" "InvalidPolynomial" CP)
    (GA : FnOk P w K mg base (L2.CX P w) 4 fA dA ["value"] (spPair CN)) (gA : mg "as_pair" = some (.ref fA)) (kA : PySem.W.keepIn K (.ref fA) = true) (bA : L2.Binds K dA ["value"] [])
    (GT : FnOk P w K mg base CX0 1 fT dT ["numbers"] (spTrimZ K)) (gT : mg "trimmed" = some (.ref fT)) (kT : PySem.W.keepIn K (.ref fT) = true) (bT : L2.Binds K dT ["numbers"] [])
    (GK : FnOk P w K mg base CX0 1 fK dK ["size"] spCheck) (gK : mg "check_size" = some (.ref fK)) (kK : PySem.W.keepIn K (.ref fK) = true) (bK : L2.Binds K dK ["size"] [])
    (GP : FnOk P w K mg base CX0 3 fP dP ["numbers"] (spPrim K)) (gP : mg "primitive" = some (.ref fP)) (kP : PySem.W.keepIn K (.ref fP) = true) (bP : L2.Binds K dP ["numbers"] [])
    (GW : FnOk P w K mg base CX0 5 fW dW ["poly"] (spParts K)) (gW : mg "whole_parts" = some (.ref fW)) (kW : PySem.W.keepIn K (.ref fW) = true) (bW : L2.Binds K dW ["poly"] []) :
    FnOk P w K mg base (L2.CX P w) 6 f fd ["self", "parts"] (spInit K C CN CP) := by
  have nd := sc_init.nd
  obtain ⟨tL, mL⟩ := T.long
  refine F.okX sc_init (fun vs H Q E h => ?_) (fun cdv A outer s H vs Q E hr h => ?_)
  · obtain ⟨x, dx, a, xs, ps, M, rfl, _⟩ := h
    rfl
  · obtain ⟨x, dx, a, xs, ps, M, rfl, hx, ha, hg, hlen, q0, q1⟩ := h
    have hr1 : Room 1 _ := hr.mono (by decide : 1 ≤ 5)
    have hr3 : Room 3 _ := hr.mono (by decide : 3 ≤ 5)
    have hr4 : Room 4 _ := hr.mono (by decide : 4 ≤ 5)
    refine ⟨_, pss_cons (ps_setLcX (i := 2) (own := [("value", 4)]) (g := gName 4) (by rfl) nd rfl rfl (sw_true rfl rfl rfl (by decide +kernel)) rfl rfl (takes_of rfl rfl rfl rfl) (pi_tup (pv 1)) (blkOk_by (N := initN) (sc := defScope c_Bag_init) (by decide +kernel)) (fun _ _ _ _ _ => pg_name (i := 4) nd rfl (.inl rfl) (hf := .inr rfl)) (fun _ _ _ _ _ => pe_call GA hr4 (by rfl) gA kA bA .nil passes_blk (pa_cons (pv 4) pa_nil)))
      (pss_cons (ps_set (i := 3) nd rfl (.inl rfl) (pe_callB call_len (by rfl) T.len PySem.boot_len (pa_cons (pe_call GT hr1 (by rfl) gT kT bT .nil pass0 (pa_cons (pe_lc (own := [("pair", 5)]) (g := gName 5) (tt := tYes) (te := tOp (rIxT K) (tVar 5) (tC (.int 0))) (by rfl) nd (pi_list (pv 2)) (blkOk_by (N := initN) (sc := defScope c_Bag_init) (by decide +kernel)) (fun _ _ _ _ _ => pg_name (i := 5) nd rfl (.inl rfl) (hf := .inr rfl)) (fun _ _ _ _ _ => pts_nil) (fun _ _ _ _ _ => pe_ix ix_tup (pv 5) pe_int (fun _ _ => rfl))) pa_nil)) pa_nil)))
      (pss_cons (ps_if (pt_cmpR op_eq (pv 3) pe_int (nomark _)) (pss_one (ps_raise rfl (takes_of rfl rfl rfl rfl) (pmk0 TE hr3 (by rfl)))) pss_nil)
      (pss_cons (ps_expr (pe_call GK hr1 (by rfl) gK kK bK .nil pass0 (pa_cons (pe_op op_sub (pv 3) pe_int) pa_nil)))
      (pss_cons (ps_fld (pv 0) (pe_call GP hr3 (by rfl) gP kP bP .nil pass0 (pa_cons (pe_ix ix_tup (pe_call GW hr (by rfl) gW kW bW .nil pass0 (pa_cons (pe_slice sl_list (pv 2) po_none (po_some (pv 3))) pa_nil)) pe_int (fun _ _ => rfl)) pa_nil)) rfl)
      (pss_one (ps_if (pt_val (pe_callB (cr_any rfl) (by rfl) T.any (by decide +kernel) (pa_cons (pe_lc (own := [("number", 6)]) (g := gName 6) (tt := tYes) (by rfl) nd (pi_list (pe_fld (pv 0) rfl)) (blkOk_by (N := initN) (sc := defScope c_Bag_init) (by decide +kernel)) (fun _ _ _ _ _ => pg_name (i := 6) nd rfl (.inl rfl) (hf := .inr rfl)) (fun _ _ _ _ _ => pts_nil) (fun _ _ _ _ _ => pe_cmpR op_ge (pe_callB call_abs (by rfl) T.abs (by decide +kernel) (pa_cons (pv 6) pa_nil)) (pe_glob (v := .int huge) (by rfl) mL ⟨_, rfl⟩) (nomark _))) pa_nil))) (pss_one ps_never) pss_nil)))))), ?_⟩
    refine ⟨.ref a, rfl, a, rfl, ⟨_, .inl (.inl ha)⟩, fun D nD => ?_⟩
    by_cases hd0 : ∀ p ∈ ps, p.2 ≠ 0
    case neg =>
      have hz : ∃ p ∈ ps, p.2 = 0 := Classical.byContradiction fun n => hd0 fun p hp z => n ⟨p, hp, z⟩
      have q0 := q0 hz
      refine lc_tup (xs := xs) (fun i H' => Same H H' ∧ (∃ ys : List V, H' D = some (.lst ys) ∧ ys.length = i) ∧ ∀ p ∈ ps.take i, p.2 ≠ 0) ⟨upd_new nD, ⟨[], upd_same, rfl⟩, fun p hp => absurd hp (by simp)⟩ (fun i H' _ p => .inl (.inl (p.1 _ _ ha))) (fun i x H' hx p => ?_) (fun H' p => ?_)
      · obtain ⟨s1, ⟨ys, hy1, hy2⟩, p3⟩ := p
        have hi : i < ps.length := by
          rw [← hg.1]
          exact (List.getElem?_eq_some_iff.mp hx).1
        have e2 : ps[i]? = some ps[i] := List.getElem?_eq_getElem hi
        refine ⟨rfl, yesI ?_⟩
        refine ⟨x, rfl, x, ps[i].1, ps[i].2, rfl, (hg.2 i x _ hx e2).same s1, fun _ => q0 H' s1, fun hd u nu => ?_⟩
        refine ⟨ys, upd_new nu _ _ hy1, by rw [sizeLine_eq, hy2]; have := hg.1; omega, fun b o eb => ?_, ⟨_, upd_same, by rw [List.length_append, hy2]; rfl⟩, fun p hp => ?_⟩
        · rw [upd_ne (ne_of_none eb nD)]
          exact upd_new nu _ _ (s1 _ _ eb)
        · rw [List.take_add_one, e2] at hp
          rcases List.mem_append.mp hp with z | z
          · exact p3 p z
          · have : p = ps[i] := by simpa using z
            rw [this]
            exact hd
      · obtain ⟨s1, _, p3⟩ := p
        rw [hg.1, List.take_length] at p3
        exact absurd p3 hd0
    obtain ⟨qE, q⟩ := q1 hd0
    refine lc_datsT (xs := xs) (ps.map dp) (by rw [List.length_map, hg.1]) (by rw [List.length_map]; omega) (tupDs_map (fun _ => rfl) _) nD (fun H' s => .inl (.inl (s _ _ ha))) (fun i x d H' k e hx hd s1 hk => ?_) (fun H1 s1 hD => ?_)
    · rw [List.getElem?_map] at hd
      cases e2 : ps[i]? with
      | none => rw [e2] at hd; cases hd
      | some p =>
        rw [e2] at hd
        obtain rfl : dp p = d := Option.some.inj hd
        refine ⟨rfl, yesI ?_⟩
        refine ⟨x, rfl, x, p.1, p.2, rfl, (hg.2 i x p hx e2).same s1, fun z => absurd z (hd0 p (List.mem_of_getElem? e2)), fun _ u nu => hk _ _ (upd_new nu) (.tup upd_same (by decide : 2 ≤ 100000) (.cons (.int _) (.cons (.int _) .nil)))⟩
    obtain ⟨_, ys, e1, hD1, hD2, hA⟩ := at_lst hD
    cases e1
    have hyl : ys.length = ps.length := by rw [hA.length, List.length_map]
    have item := pair_get hA
    refine ⟨.ref D, rfl, D, rfl, ⟨_, .inl (.inl hD1)⟩, fun D2 nD2 => ?_⟩
    refine lc_dats (xs := ys) ((ps.map (·.1)).map Dat.int) (by rw [List.length_map, List.length_map, hyl]) (by rw [List.length_map, List.length_map]; omega) (tupDs_map (fun _ => rfl) _) nD2 (fun H' s => .inl (.inl (s _ _ hD1))) (fun i x d H' k e hx hd s2 hk => ?_) (fun H2 s2 hE => ?_)
    · obtain ⟨p, t, e2, rfl, ht⟩ := item i x hx
      rw [List.map_map, List.getElem?_map, e2] at hd
      obtain rfl : Dat.int p.1 = d := Option.some.inj hd
      refine ⟨rfl, yesI ?_⟩
      exact ⟨.ref t, rfl, t, _, 0, _, rfl, rfl, .inl (.inl (s2 _ _ ht)), atI_nat (j := 0) rfl, hk _ _ (Same.refl _) (.int _)⟩
    refine ⟨.ref D2, (ps.map fun p : Int × Int => p.1), rfl, hE, fun u H3 s3 hu => ?_⟩
    obtain ⟨l3, rfl, hl3, hl4⟩ := at_dz hu
    refine ⟨.ref l3, _, rfl, .inl ⟨_, .inl (.inl hl3), rfl⟩, ?_⟩
    rw [List.length_map]
    have s13 : Same H H3 := (s1.trans s2).trans s3
    refine ⟨.int _, rfl, rfl, _, rfl, ite2 (fun e => ?_) (fun e => ?_)⟩
    · have e : (((trimL 0 (ps.map (·.1))).length : Nat) : Int) = 0 := V.int.inj (of_decide_eq_true e)
      refine qE ?_ H3 s13
      rw [← head_q hd0]
      have : (headP ps).length = 0 := by rw [head_len]; omega
      rw [List.length_eq_zero_iff.mp this]
      rfl
    have hn0 : trimL 0 (ps.map qOf) ≠ [] := fun z => e (by
      rw [← head_q hd0, List.map_eq_nil_iff, ← List.length_eq_zero_iff, head_len] at z
      rw [z]
      rfl)
    obtain ⟨t, y, ht, y0⟩ := (trim_shape (z := (0 : Rat)) (ps.map qOf)).resolve_left hn0
    obtain ⟨hS, t40, hbig, q⟩ := q t y ht y0
    obtain ⟨zs, z, ez, z0, er⟩ := head_whole hd0 ht y0
    have hml : (headP ps).length = t.length + 1 := by
      have := congrArg List.length (head_q hd0)
      rw [ht, List.length_map, List.length_append] at this
      exact this
    have hml2 : (trimL 0 (ps.map (·.1))).length = t.length + 1 := by rw [← head_len]; exact hml
    have hle : (trimL 0 (ps.map (·.1))).length ≤ ps.length := by
      have := trim_len (z := (0 : Int)) (ps.map (·.1))
      rwa [List.length_map] at this
    refine ⟨.int _, rfl, _, 1, rfl, rfl, _, rfl, by rw [hml2]; omega, ?_⟩
    refine ⟨.ref D, rfl, .int _, rfl, _, rfl, D, _, rfl, .inl (.inl ((s2.trans s3) _ _ hD1)), fun p np => ?_⟩
    rw [cut_to (by rw [hyl]; exact hle)]
    have s4 := upd_new (o := .lst (ys.take (trimL 0 (ps.map (·.1))).length)) np
    refine ⟨p, _, headP ps, M, rfl, upd_same, ?_, by rw [hml]; omega, fun p hp => hd0 p (head_mem hp), hS.take _, fun u l H5 s5 hu5 hl5 => ?_⟩
    · have := (hA.same ((s2.trans s3).trans s4)).take (trimL 0 (ps.map (·.1))).length
      rwa [← List.map_take] at this
    rw [ez, trim_keep z0] at hl5
    refine ⟨u, _, 0, _, rfl, rfl, .inl (.inl hu5), atI_nat (j := 0) rfl, ?_⟩
    have zb : z.natAbs < huge.natAbs := hbig z (by rw [ez]; simp)
    refine ⟨.ref l, zs, z, rfl, hl5, z0, by have := huge_log zb; omega, fun v H6 s6 hv6 => ?_⟩
    obtain ⟨f0, f1, ws, m, ew, m0, er2, hw⟩ := prim_math (zs := zs) z0
    rw [ew] at hv6
    have hcont : contentZ (ws ++ [m]) = 1 := by
      have := prim_content (zs := zs) z0
      rwa [ew] at this
    have hwz : ∀ w ∈ ws ++ [m], ∃ z ∈ wholeZ (headP ps), w.natAbs ≤ z.natAbs := fun w hwm => by
      obtain ⟨x, hx, hle⟩ := hw w hwm
      exact ⟨x, by rw [ez]; exact hx, hle⟩
    have hwb : ∀ w ∈ ws ++ [m], w.natAbs < huge.natAbs := fun w hwm => by
      obtain ⟨x, hx, hle⟩ := hw w hwm
      exact Nat.lt_of_le_of_lt hle (hbig x (by rw [ez]; exact hx))
    obtain ⟨lw, rfl, hlw, hlw2⟩ := at_dz hv6
    have s16 : Same H H6 := (((s13.trans s4).trans s5).trans s6)
    have hx6 := s16 _ _ hx
    refine ⟨.ref x, rfl, x, C, dx, [], rfl, hx6, T.cl, T.nW, (by show 0 < 1000; decide), ?_⟩
    have nlx : lw ≠ x := ne_of hlw hx6 (by intro q; cases q)
    have epf : putF "whole" (V.ref lw) [] = ([("whole", V.ref lw)] : List (Str × V)) := rfl
    rw [epf]
    have hlw7 : upd H6 x (.ins C dx [("whole", .ref lw)]) lw = some (.lst ((ws ++ [m]).map V.int)) := by rw [upd_ne nlx]; exact hlw
    refine ⟨.ref x, rfl, x, C, dx, [("whole", .ref lw)], .ref lw, rfl, upd_same, T.cl, T.nW, rfl, lw, rfl, ⟨_, .inl (.inl hlw7)⟩, fun D7 nD7 => ?_⟩
    refine lc_dats (xs := (ws ++ [m]).map V.int) ((ws ++ [m]).map fun _ => Dat.bl false) (by rw [List.length_map, List.length_map]) (by rw [List.length_map]; exact hlw2) (tupDs_map (fun _ => rfl) _) nD7 (fun H' s => .inl (.inl (s _ _ hlw7))) (fun i x d H' k e hx hd s2 hk => ?_) (fun H8 s8 hD8 => ?_)
    · rw [List.getElem?_map] at hx hd
      cases e2 : (ws ++ [m])[i]? with
      | none => rw [e2] at hx; cases hx
      | some w2 =>
        rw [e2] at hx hd
        obtain rfl : V.int w2 = x := Option.some.inj hx
        obtain rfl : Dat.bl false = d := Option.some.inj hd
        refine ⟨rfl, yesI ?_⟩
        refine ⟨.int w2, rfl, w2, rfl, _, huge, rfl, rfl, ?_⟩
        have hb := hwb w2 (List.mem_of_getElem? e2)
        have e3 : decide (huge ≤ (if w2 < 0 then -w2 else w2)) = false := by
          have : (if w2 < 0 then -w2 else w2) = (w2.natAbs : Int) := by split <;> omega
          rw [this]
          have hbb : (huge.natAbs : Int) = huge := by decide +kernel
          refine decide_eq_false ?_
          rw [← hbb]
          omega
        show k (V.bl (decide (huge ≤ (if w2 < 0 then -w2 else w2)))) H'
        rw [e3]
        exact hk _ _ (Same.refl _) (.bl _)
    obtain ⟨_, bs, e3, hb1, hb2, hbA⟩ := at_lst hD8
    cases e3
    have ebs : bs = (List.replicate (ws ++ [m]).length false).map V.bl := by
      have : ∀ (l : List Int) (xs : List V), AtAll K H8 xs (l.map fun _ => Dat.bl false) → xs = (List.replicate l.length false).map V.bl := by
        intro l
        induction l with
        | nil =>
          intro xs h
          cases h
          rfl
        | cons c r ih =>
          intro xs h
          cases h with
          | cons a t =>
            cases a
            rw [ih _ t]
            rfl
      exact this _ _ hbA
    refine ⟨D7, List.replicate (ws ++ [m]).length false, rfl, .inl (.inl (ebs ▸ hb1)), _, rfl, ?_⟩
    have ea : (List.replicate (ws ++ [m]).length false).any id = false := by simp
    rw [ea]
    refine iteF (q ws m H8 m0 hwb hcont hwz (er2.trans er) (fun b o eb nb => s8 _ _ ?_) ⟨dx, lw, s8 _ _ upd_same, s8 _ _ hlw7⟩)
    rw [upd_ne nb]
    exact s16 _ _ eb
end
end RB

set_option Elab.async false
set_option linter.all false
set_option maxRecDepth 100000
set_option maxHeartbeats 4000000
namespace RB
open PySem PySem.Spec PyProof.Rows L2 SX
def spInitL (K : PySem.W.Frag) (C CN CP : Addr) : Sp := fun vs H Q E => ∃ (x dx a : Addr) (xs : List V) (ps : List (Int × Int)) (M : Nat), vs = [.ref x, .ref a] ∧ H x = some (.ins C dx []) ∧ H a = some (.lst xs) ∧ GivenV H xs ps ∧ ps.length ≤ 1000 ∧
  ((∃ p ∈ ps, p.2 = 0) → ∀ H', Same H H' → Bad CN H' E) ∧
  ((∀ p ∈ ps, p.2 ≠ 0) → (trimL 0 (ps.map qOf) = [] → ∀ H', Same H H' → BadP CP H' E) ∧
    ∀ (t : List Rat) (y : Rat), trimL 0 (ps.map qOf) = t ++ [y] → y ≠ 0 → Sized M ps ∧ t.length ≤ 40 ∧ (∀ z ∈ wholeZ (headP ps), z.natAbs < huge.natAbs) ∧
      ∀ (ws : List Int) (m : Int) (H' : Hp), 0 < m → (∀ w ∈ ws ++ [m], w.natAbs < huge.natAbs) → contentZ (ws ++ [m]) = 1 → (∀ w ∈ ws ++ [m], ∃ z ∈ wholeZ (headP ps), w.natAbs ≤ z.natAbs) → (ws ++ [m]).map (fun x : Int => (x : Rat) / (m : Rat)) = (t ++ [y]).map (· / y) → (∀ b o, H b = some o → b ≠ x → H' b = some o) → BagAt C H' x (ws ++ [m]) → Q .non H')
section
variable {P : Program} {w : World} {K : PySem.W.Frag} {mg : Str → Option Value} {base : Heap}
theorem ok_initL {f fA fT fK fP fW C CN CP : Addr} {fd dA dT dK dP dW : FuncData} (F : L2.Fun K "__init__" "Bag.__init__" c_Bag_init f fd) (T : TBag K mg C)
    (TE : Err0 P w K mg base 2 "InvalidPolynomial" "InvalidPolynomial" CP)
    (GA : FnOk P w K mg base (L2.CX P w) 4 fA dA ["value"] (spPair CN)) (gA : mg "as_pair" = some (.ref fA)) (kA : PySem.W.keepIn K (.ref fA) = true) (bA : L2.Binds K dA ["value"] [])
    (GT : FnOk P w K mg base CX0 1 fT dT ["numbers"] (spTrimZ K)) (gT : mg "trimmed" = some (.ref fT)) (kT : PySem.W.keepIn K (.ref fT) = true) (bT : L2.Binds K dT ["numbers"] [])
    (GK : FnOk P w K mg base CX0 1 fK dK ["size"] spCheck) (gK : mg "check_size" = some (.ref fK)) (kK : PySem.W.keepIn K (.ref fK) = true) (bK : L2.Binds K dK ["size"] [])
    (GP : FnOk P w K mg base CX0 3 fP dP ["numbers"] (spPrim K)) (gP : mg "primitive" = some (.ref fP)) (kP : PySem.W.keepIn K (.ref fP) = true) (bP : L2.Binds K dP ["numbers"] [])
    (GW : FnOk P w K mg base CX0 5 fW dW ["poly"] (spParts K)) (gW : mg "whole_parts" = some (.ref fW)) (kW : PySem.W.keepIn K (.ref fW) = true) (bW : L2.Binds K dW ["poly"] []) :
    FnOk P w K mg base (L2.CX P w) 6 f fd ["self", "parts"] (spInitL K C CN CP) := by
  have nd := sc_init.nd
  obtain ⟨tL, mL⟩ := T.long
  refine F.okX sc_init (fun vs H Q E h => ?_) (fun cdv A outer s H vs Q E hr h => ?_)
  · obtain ⟨x, dx, a, xs, ps, M, rfl, _⟩ := h
    rfl
  · obtain ⟨x, dx, a, xs, ps, M, rfl, hx, ha, hg, hlen, q0, q1⟩ := h
    have hr1 : Room 1 _ := hr.mono (by decide : 1 ≤ 5)
    have hr3 : Room 3 _ := hr.mono (by decide : 3 ≤ 5)
    have hr4 : Room 4 _ := hr.mono (by decide : 4 ≤ 5)
    refine ⟨_, pss_cons (ps_setLcX (i := 2) (own := [("value", 4)]) (g := gName 4) (by rfl) nd rfl rfl (sw_true rfl rfl rfl (by decide +kernel)) rfl rfl (takes_of rfl rfl rfl rfl) (pi_list (pv 1)) (blkOk_by (N := initN) (sc := defScope c_Bag_init) (by decide +kernel)) (fun _ _ _ _ _ => pg_name (i := 4) nd rfl (.inl rfl) (hf := .inr rfl)) (fun _ _ _ _ _ => pe_call GA hr4 (by rfl) gA kA bA .nil passes_blk (pa_cons (pv 4) pa_nil)))
      (pss_cons (ps_set (i := 3) nd rfl (.inl rfl) (pe_callB call_len (by rfl) T.len PySem.boot_len (pa_cons (pe_call GT hr1 (by rfl) gT kT bT .nil pass0 (pa_cons (pe_lc (own := [("pair", 5)]) (g := gName 5) (tt := tYes) (te := tOp (rIxT K) (tVar 5) (tC (.int 0))) (by rfl) nd (pi_list (pv 2)) (blkOk_by (N := initN) (sc := defScope c_Bag_init) (by decide +kernel)) (fun _ _ _ _ _ => pg_name (i := 5) nd rfl (.inl rfl) (hf := .inr rfl)) (fun _ _ _ _ _ => pts_nil) (fun _ _ _ _ _ => pe_ix ix_tup (pv 5) pe_int (fun _ _ => rfl))) pa_nil)) pa_nil)))
      (pss_cons (ps_if (pt_cmpR op_eq (pv 3) pe_int (nomark _)) (pss_one (ps_raise rfl (takes_of rfl rfl rfl rfl) (pmk0 TE hr3 (by rfl)))) pss_nil)
      (pss_cons (ps_expr (pe_call GK hr1 (by rfl) gK kK bK .nil pass0 (pa_cons (pe_op op_sub (pv 3) pe_int) pa_nil)))
      (pss_cons (ps_fld (pv 0) (pe_call GP hr3 (by rfl) gP kP bP .nil pass0 (pa_cons (pe_ix ix_tup (pe_call GW hr (by rfl) gW kW bW .nil pass0 (pa_cons (pe_slice sl_list (pv 2) po_none (po_some (pv 3))) pa_nil)) pe_int (fun _ _ => rfl)) pa_nil)) rfl)
      (pss_one (ps_if (pt_val (pe_callB (cr_any rfl) (by rfl) T.any (by decide +kernel) (pa_cons (pe_lc (own := [("number", 6)]) (g := gName 6) (tt := tYes) (by rfl) nd (pi_list (pe_fld (pv 0) rfl)) (blkOk_by (N := initN) (sc := defScope c_Bag_init) (by decide +kernel)) (fun _ _ _ _ _ => pg_name (i := 6) nd rfl (.inl rfl) (hf := .inr rfl)) (fun _ _ _ _ _ => pts_nil) (fun _ _ _ _ _ => pe_cmpR op_ge (pe_callB call_abs (by rfl) T.abs (by decide +kernel) (pa_cons (pv 6) pa_nil)) (pe_glob (v := .int huge) (by rfl) mL ⟨_, rfl⟩) (nomark _))) pa_nil))) (pss_one ps_never) pss_nil)))))), ?_⟩
    refine ⟨.ref a, rfl, a, rfl, ⟨_, .inl (.inl ha)⟩, fun D nD => ?_⟩
    by_cases hd0 : ∀ p ∈ ps, p.2 ≠ 0
    case neg =>
      have hz : ∃ p ∈ ps, p.2 = 0 := Classical.byContradiction fun n => hd0 fun p hp z => n ⟨p, hp, z⟩
      have q0 := q0 hz
      refine lc_list (xs := xs) (fun i H' => Same H H' ∧ (∃ ys : List V, H' D = some (.lst ys) ∧ ys.length = i) ∧ ∀ p ∈ ps.take i, p.2 ≠ 0) ⟨upd_new nD, ⟨[], upd_same, rfl⟩, fun p hp => absurd hp (by simp)⟩ (fun i H' _ p => .inl (.inl (p.1 _ _ ha))) (fun i x H' hx p => ?_) (fun H' p => ?_)
      · obtain ⟨s1, ⟨ys, hy1, hy2⟩, p3⟩ := p
        have hi : i < ps.length := by
          rw [← hg.1]
          exact (List.getElem?_eq_some_iff.mp hx).1
        have e2 : ps[i]? = some ps[i] := List.getElem?_eq_getElem hi
        refine ⟨rfl, yesI ?_⟩
        refine ⟨x, rfl, x, ps[i].1, ps[i].2, rfl, (hg.2 i x _ hx e2).same s1, fun _ => q0 H' s1, fun hd u nu => ?_⟩
        refine ⟨ys, upd_new nu _ _ hy1, by rw [sizeLine_eq, hy2]; have := hg.1; omega, fun b o eb => ?_, ⟨_, upd_same, by rw [List.length_append, hy2]; rfl⟩, fun p hp => ?_⟩
        · rw [upd_ne (ne_of_none eb nD)]
          exact upd_new nu _ _ (s1 _ _ eb)
        · rw [List.take_add_one, e2] at hp
          rcases List.mem_append.mp hp with z | z
          · exact p3 p z
          · have : p = ps[i] := by simpa using z
            rw [this]
            exact hd
      · obtain ⟨s1, _, p3⟩ := p
        rw [hg.1, List.take_length] at p3
        exact absurd p3 hd0
    obtain ⟨qE, q⟩ := q1 hd0
    refine lc_dats (xs := xs) (ps.map dp) (by rw [List.length_map, hg.1]) (by rw [List.length_map]; omega) (tupDs_map (fun _ => rfl) _) nD (fun H' s => .inl (.inl (s _ _ ha))) (fun i x d H' k e hx hd s1 hk => ?_) (fun H1 s1 hD => ?_)
    · rw [List.getElem?_map] at hd
      cases e2 : ps[i]? with
      | none => rw [e2] at hd; cases hd
      | some p =>
        rw [e2] at hd
        obtain rfl : dp p = d := Option.some.inj hd
        refine ⟨rfl, yesI ?_⟩
        refine ⟨x, rfl, x, p.1, p.2, rfl, (hg.2 i x p hx e2).same s1, fun z => absurd z (hd0 p (List.mem_of_getElem? e2)), fun _ u nu => hk _ _ (upd_new nu) (.tup upd_same (by decide : 2 ≤ 100000) (.cons (.int _) (.cons (.int _) .nil)))⟩
    obtain ⟨_, ys, e1, hD1, hD2, hA⟩ := at_lst hD
    cases e1
    have hyl : ys.length = ps.length := by rw [hA.length, List.length_map]
    have item := pair_get hA
    refine ⟨.ref D, rfl, D, rfl, ⟨_, .inl (.inl hD1)⟩, fun D2 nD2 => ?_⟩
    refine lc_dats (xs := ys) ((ps.map (·.1)).map Dat.int) (by rw [List.length_map, List.length_map, hyl]) (by rw [List.length_map, List.length_map]; omega) (tupDs_map (fun _ => rfl) _) nD2 (fun H' s => .inl (.inl (s _ _ hD1))) (fun i x d H' k e hx hd s2 hk => ?_) (fun H2 s2 hE => ?_)
    · obtain ⟨p, t, e2, rfl, ht⟩ := item i x hx
      rw [List.map_map, List.getElem?_map, e2] at hd
      obtain rfl : Dat.int p.1 = d := Option.some.inj hd
      refine ⟨rfl, yesI ?_⟩
      exact ⟨.ref t, rfl, t, _, 0, _, rfl, rfl, .inl (.inl (s2 _ _ ht)), atI_nat (j := 0) rfl, hk _ _ (Same.refl _) (.int _)⟩
    refine ⟨.ref D2, (ps.map fun p : Int × Int => p.1), rfl, hE, fun u H3 s3 hu => ?_⟩
    obtain ⟨l3, rfl, hl3, hl4⟩ := at_dz hu
    refine ⟨.ref l3, _, rfl, .inl ⟨_, .inl (.inl hl3), rfl⟩, ?_⟩
    rw [List.length_map]
    have s13 : Same H H3 := (s1.trans s2).trans s3
    refine ⟨.int _, rfl, rfl, _, rfl, ite2 (fun e => ?_) (fun e => ?_)⟩
    · have e : (((trimL 0 (ps.map (·.1))).length : Nat) : Int) = 0 := V.int.inj (of_decide_eq_true e)
      refine qE ?_ H3 s13
      rw [← head_q hd0]
      have : (headP ps).length = 0 := by rw [head_len]; omega
      rw [List.length_eq_zero_iff.mp this]
      rfl
    have hn0 : trimL 0 (ps.map qOf) ≠ [] := fun z => e (by
      rw [← head_q hd0, List.map_eq_nil_iff, ← List.length_eq_zero_iff, head_len] at z
      rw [z]
      rfl)
    obtain ⟨t, y, ht, y0⟩ := (trim_shape (z := (0 : Rat)) (ps.map qOf)).resolve_left hn0
    obtain ⟨hS, t40, hbig, q⟩ := q t y ht y0
    obtain ⟨zs, z, ez, z0, er⟩ := head_whole hd0 ht y0
    have hml : (headP ps).length = t.length + 1 := by
      have := congrArg List.length (head_q hd0)
      rw [ht, List.length_map, List.length_append] at this
      exact this
    have hml2 : (trimL 0 (ps.map (·.1))).length = t.length + 1 := by rw [← head_len]; exact hml
    have hle : (trimL 0 (ps.map (·.1))).length ≤ ps.length := by
      have := trim_len (z := (0 : Int)) (ps.map (·.1))
      rwa [List.length_map] at this
    refine ⟨.int _, rfl, _, 1, rfl, rfl, _, rfl, by rw [hml2]; omega, ?_⟩
    refine ⟨.ref D, rfl, .int _, rfl, _, rfl, D, _, rfl, .inl (.inl ((s2.trans s3) _ _ hD1)), fun p np => ?_⟩
    rw [cut_to (by rw [hyl]; exact hle)]
    have s4 := upd_new (o := .lst (ys.take (trimL 0 (ps.map (·.1))).length)) np
    refine ⟨p, _, headP ps, M, rfl, upd_same, ?_, by rw [hml]; omega, fun p hp => hd0 p (head_mem hp), hS.take _, fun u l H5 s5 hu5 hl5 => ?_⟩
    · have := (hA.same ((s2.trans s3).trans s4)).take (trimL 0 (ps.map (·.1))).length
      rwa [← List.map_take] at this
    rw [ez, trim_keep z0] at hl5
    refine ⟨u, _, 0, _, rfl, rfl, .inl (.inl hu5), atI_nat (j := 0) rfl, ?_⟩
    have zb : z.natAbs < huge.natAbs := hbig z (by rw [ez]; simp)
    refine ⟨.ref l, zs, z, rfl, hl5, z0, by have := huge_log zb; omega, fun v H6 s6 hv6 => ?_⟩
    obtain ⟨f0, f1, ws, m, ew, m0, er2, hw⟩ := prim_math (zs := zs) z0
    rw [ew] at hv6
    have hcont : contentZ (ws ++ [m]) = 1 := by
      have := prim_content (zs := zs) z0
      rwa [ew] at this
    have hwz : ∀ w ∈ ws ++ [m], ∃ z ∈ wholeZ (headP ps), w.natAbs ≤ z.natAbs := fun w hwm => by
      obtain ⟨x, hx, hle⟩ := hw w hwm
      exact ⟨x, by rw [ez]; exact hx, hle⟩
    have hwb : ∀ w ∈ ws ++ [m], w.natAbs < huge.natAbs := fun w hwm => by
      obtain ⟨x, hx, hle⟩ := hw w hwm
      exact Nat.lt_of_le_of_lt hle (hbig x (by rw [ez]; exact hx))
    obtain ⟨lw, rfl, hlw, hlw2⟩ := at_dz hv6
    have s16 : Same H H6 := (((s13.trans s4).trans s5).trans s6)
    have hx6 := s16 _ _ hx
    refine ⟨.ref x, rfl, x, C, dx, [], rfl, hx6, T.cl, T.nW, (by show 0 < 1000; decide), ?_⟩
    have nlx : lw ≠ x := ne_of hlw hx6 (by intro q; cases q)
    have epf : putF "whole" (V.ref lw) [] = ([("whole", V.ref lw)] : List (Str × V)) := rfl
    rw [epf]
    have hlw7 : upd H6 x (.ins C dx [("whole", .ref lw)]) lw = some (.lst ((ws ++ [m]).map V.int)) := by rw [upd_ne nlx]; exact hlw
    refine ⟨.ref x, rfl, x, C, dx, [("whole", .ref lw)], .ref lw, rfl, upd_same, T.cl, T.nW, rfl, lw, rfl, ⟨_, .inl (.inl hlw7)⟩, fun D7 nD7 => ?_⟩
    refine lc_dats (xs := (ws ++ [m]).map V.int) ((ws ++ [m]).map fun _ => Dat.bl false) (by rw [List.length_map, List.length_map]) (by rw [List.length_map]; exact hlw2) (tupDs_map (fun _ => rfl) _) nD7 (fun H' s => .inl (.inl (s _ _ hlw7))) (fun i x d H' k e hx hd s2 hk => ?_) (fun H8 s8 hD8 => ?_)
    · rw [List.getElem?_map] at hx hd
      cases e2 : (ws ++ [m])[i]? with
      | none => rw [e2] at hx; cases hx
      | some w2 =>
        rw [e2] at hx hd
        obtain rfl : V.int w2 = x := Option.some.inj hx
        obtain rfl : Dat.bl false = d := Option.some.inj hd
        refine ⟨rfl, yesI ?_⟩
        refine ⟨.int w2, rfl, w2, rfl, _, huge, rfl, rfl, ?_⟩
        have hb := hwb w2 (List.mem_of_getElem? e2)
        have e3 : decide (huge ≤ (if w2 < 0 then -w2 else w2)) = false := by
          have : (if w2 < 0 then -w2 else w2) = (w2.natAbs : Int) := by split <;> omega
          rw [this]
          have hbb : (huge.natAbs : Int) = huge := by decide +kernel
          refine decide_eq_false ?_
          rw [← hbb]
          omega
        show k (V.bl (decide (huge ≤ (if w2 < 0 then -w2 else w2)))) H'
        rw [e3]
        exact hk _ _ (Same.refl _) (.bl _)
    obtain ⟨_, bs, e3, hb1, hb2, hbA⟩ := at_lst hD8
    cases e3
    have ebs : bs = (List.replicate (ws ++ [m]).length false).map V.bl := by
      have : ∀ (l : List Int) (xs : List V), AtAll K H8 xs (l.map fun _ => Dat.bl false) → xs = (List.replicate l.length false).map V.bl := by
        intro l
        induction l with
        | nil =>
          intro xs h
          cases h
          rfl
        | cons c r ih =>
          intro xs h
          cases h with
          | cons a t =>
            cases a
            rw [ih _ t]
            rfl
      exact this _ _ hbA
    refine ⟨D7, List.replicate (ws ++ [m]).length false, rfl, .inl (.inl (ebs ▸ hb1)), _, rfl, ?_⟩
    have ea : (List.replicate (ws ++ [m]).length false).any id = false := by simp
    rw [ea]
    refine iteF (q ws m H8 m0 hwb hcont hwz (er2.trans er) (fun b o eb nb => s8 _ _ ?_) ⟨dx, lw, s8 _ _ upd_same, s8 _ _ hlw7⟩)
    rw [upd_ne nb]
    exact s16 _ _ eb
end
end RB

set_option Elab.async false
set_option linter.all false
set_option maxRecDepth 100000
set_option maxHeartbeats 4000000
namespace RB
open PySem PySem.Spec PyProof.Rows L2 SX
def spCoef (K : PySem.W.Frag) (C : Addr) : Sp := fun vs H Q _ => ∃ (x : Addr) (ws : List Int) (m : Int), vs = [.ref x] ∧ BagAt C H x (ws ++ [m]) ∧ 0 < m ∧ m.natAbs < huge.natAbs ∧ ws.length ≤ 1000 ∧
  ∀ u H', Same H H' → H u = none → At K H' (.ref u) (dql ((ws ++ [m]).map fun x : Int => (x : Rat) / (m : Rat))) → Q (.ref u) H'
section
variable {P : Program} {w : World} {K : PySem.W.Frag} {mg : Str → Option Value} {base : Heap}
theorem sc_coef : FnScope ["self", "number"] ["self"] (defScope c_Bag_coefficients) := ⟨rfl, rfl, rfl, by decide +kernel, rfl, by decide +kernel, by decide +kernel⟩
theorem ok_coef {f fL C CN : Addr} {fd dL : FuncData} (F : L2.Fun K "coefficients" "Bag.coefficients" c_Bag_coefficients f fd) (T : TBag K mg C)
    (GL : FnOk P w K mg base (L2.CX P w) 4 fL dL ["numerator", "denominator"] (spLowest CN)) (gL : mg "lowest" = some (.ref fL)) (kL : PySem.W.keepIn K (.ref fL) = true) (bL : L2.Binds K dL ["numerator", "denominator"] []) :
    FnOk P w K mg base CX0 5 f fd ["self"] (spCoef K C) := by
  have nd := sc_coef.nd
  refine F.ok sc_coef (fun vs H Q E h => ?_) (fun cdv A outer s H vs Q E hr h => ?_)
  · obtain ⟨x, ws, m, rfl, _⟩ := h
    rfl
  · obtain ⟨x, ws, m, rfl, ⟨dx, l, hx, hl⟩, m0, m9, hlen, q⟩ := h
    refine ⟨_, pss_one (ps_ret (pe_lc (own := [("number", 1)]) (g := gName 1) (tt := tYes) (te := tCall (spLowest CN) [] (fun _ _ _ => False) (tCons (tVar 1) (tCons (tOp (rIxL K) (tFld K (tVar 0) "whole") (tUn (rU fun i => .int (-i)) (tC (.int 1)))) tNil))) (by rfl) nd (pi_list (pe_fld (pv 0) rfl)) (blkOk_by (N := ["self", "number"]) (sc := defScope c_Bag_coefficients) (by decide +kernel)) (fun _ _ _ _ _ => pg_name (i := 1) nd rfl (.inl rfl) (hf := .inr rfl)) (fun _ _ _ _ _ => pts_nil)
      (fun _ _ _ _ _ => pe_call GL hr (by rfl) gL kL bL .nil passL (pa_cons (pv 1) (pa_cons (pe_ix ix_list (pe_fld (pv 0) rfl) (pe_un un_neg pe_int) (fun _ _ => rfl)) pa_nil))))), ?_⟩
    refine ⟨.ref x, rfl, x, C, dx, [("whole", .ref l)], .ref l, rfl, hx, T.cl, T.nW, rfl, l, rfl, ⟨_, .inl (.inl hl)⟩, fun D nD => ?_⟩
    refine lc_dats (xs := (ws ++ [m]).map V.int) (((ws ++ [m]).map fun x : Int => (x : Rat) / (m : Rat)).map dq) (by simp) (by simp; omega) (tupDs_map (fun _ => rfl) _) nD (fun H' s => .inl (.inl (s _ _ hl))) (fun i y d H' k e hy hd s1 hk => ?_) (fun H1 s1 hD => q D _ s1 nD hD)
    rw [List.getElem?_map] at hy
    rw [List.map_map, List.getElem?_map] at hd
    cases e2 : (ws ++ [m])[i]? with
    | none => rw [e2] at hy; cases hy
    | some z =>
      rw [e2] at hy hd
      obtain rfl : V.int z = y := Option.some.inj hy
      obtain rfl : dq ((z : Rat) / (m : Rat)) = d := Option.some.inj hd
      refine ⟨rfl, yesI ?_⟩
      refine ⟨.int z, rfl, .ref x, rfl, x, C, dx, [("whole", .ref l)], .ref l, rfl, s1 _ _ hx, T.cl, T.nW, rfl, 1, rfl, l, _, -1, .int m, rfl, rfl, .inl (.inl (s1 _ _ hl)), ?_, z, m, rfl, ?_, fun zz => absurd zz (by omega), fun _ p np => hk _ _ (upd_new np) (dq_at ?_)⟩
      · rw [List.map_append]
        exact atI_last _ _
      · have := huge_log m9
        omega
      · obtain ⟨e3, e4⟩ := low_rat (n := z) (d := m) (by omega)
        rw [← e3, ← e4]
        exact upd_same
end
end RB

set_option Elab.async false
set_option linter.all false
set_option maxRecDepth 100000
set_option maxHeartbeats 4000000
namespace RB
open PySem PySem.Spec PyProof.Rows L2 SX
theorem log_le {a k : Nat} (h : a ≤ 2 ^ k) : a.log2 ≤ k := by
  have := log2_mono h
  rw [Nat.log2_two_pow] at this
  exact this
theorem mul_abs {x y : Int} {m n : Nat} (hx : x.natAbs ≤ 2 ^ m) (hy : y.natAbs ≤ 2 ^ n) : (x * y).natAbs ≤ 2 ^ (m + n) := by
  rw [Int.natAbs_mul, Nat.pow_add]
  exact Nat.mul_le_mul hx hy
theorem sz_zero : SzQ 1 0 := ⟨by decide, by decide⟩
theorem ev_setadd (x : Rat) (c t : Int) : ∀ (l : List Int) (n : Nat), l[n]? = some c → ev (zq (l.set n (c + t))) x = ev (zq l) x + (t : Rat) * pw x n
  | [], n, h => by simp at h
  | d :: r, 0, h => by
    obtain rfl : d = c := by simpa using h
    show ((d + t : Int) : Rat) + x * ev (zq r) x = ((d : Rat) + x * ev (zq r) x) + (t : Rat) * 1
    rw [Rat.intCast_add]
    grind
  | d :: r, n + 1, h => by
    show (d : Rat) + x * ev (zq (r.set n (c + t))) x = ((d : Rat) + x * ev (zq r) x) + (t : Rat) * (x * pw x n)
    rw [ev_setadd x c t r n (by simpa using h)]
    grind
theorem pw_add (x : Rat) : ∀ m n : Nat, pw x (m + n) = pw x m * pw x n
  | 0, n => by
    rw [Nat.zero_add]
    show _ = 1 * pw x n
    grind
  | m + 1, n => by
    rw [Nat.add_right_comm]
    show x * pw x (m + n) = x * pw x m * pw x n
    rw [pw_add x m n]
    grind
theorem ev_snoc (x : Rat) (c : Int) : ∀ l : List Int, ev (zq (l ++ [c])) x = ev (zq l) x + (c : Rat) * pw x l.length
  | [] => by
    show (c : Rat) + x * 0 = 0 + (c : Rat) * 1
    grind
  | d :: r => by
    show (d : Rat) + x * ev (zq (r ++ [c])) x = ((d : Rat) + x * ev (zq r) x) + (c : Rat) * (x * pw x r.length)
    rw [ev_snoc x c r]
    grind
theorem ev_take (x : Rat) {l : List Int} {i : Nat} {c : Int} (h : l[i]? = some c) : ev (zq (l.take (i + 1))) x = ev (zq (l.take i)) x + (c : Rat) * pw x i := by
  have hi := (List.getElem?_eq_some_iff.mp h).1
  rw [List.take_add_one, h]
  show ev (zq (l.take i ++ [c])) x = _
  rw [ev_snoc, List.length_take, Nat.min_eq_left (by omega)]
/-- under way in row i at column j, c the row's number -/
structure ProdAt (a b : List Int) (m i j : Nat) (c : Int) (P : List Int) : Prop where
  len : P.length = a.length + b.length - 1
  eq : ∀ x : Rat, ev (zq P) x = ev (zq (a.take i)) x * ev (zq b) x + (c : Rat) * pw x i * ev (zq (b.take j)) x
  bd : ∀ (k : Nat) (z : Int), P[k]? = some z → z.natAbs ≤ (if k < i + j then i + 1 else i) * 2 ^ m
theorem ProdAt.step {a b : List Int} {m i j : Nat} {c d p : Int} {P : List Int} (h : ProdAt a b m i j c P) (hd : b[j]? = some d) (hp : P[i + j]? = some p) (hm : (c * d).natAbs ≤ 2 ^ m) : ProdAt a b m i (j + 1) c (P.set (i + j) (p + c * d)) := by
  refine ⟨by rw [List.length_set, h.len], fun x => ?_, fun k z hz => ?_⟩
  · rw [ev_setadd x p _ _ _ hp, h.eq x, ev_take x hd, pw_add, Rat.intCast_mul]
    grind
  · by_cases e : k = i + j
    · subst e
      have hl := (List.getElem?_eq_some_iff.mp hp).1
      rw [List.getElem?_set_self hl] at hz
      obtain rfl : p + c * d = z := Option.some.inj hz
      have h1 := h.bd _ _ hp
      rw [if_neg (by omega)] at h1
      rw [if_pos (by omega), Nat.add_mul, Nat.one_mul]
      have := Int.natAbs_add_le p (c * d)
      omega
    · rw [List.getElem?_set_ne (by omega)] at hz
      have h1 := h.bd _ _ hz
      by_cases e2 : k < i + j
      · rw [if_pos e2] at h1
        rw [if_pos (by omega)]
        exact h1
      · rw [if_neg e2] at h1
        rw [if_neg (by omega)]
        exact h1
theorem ProdAt.row {a b : List Int} {m i : Nat} {c c' : Int} {P : List Int} (h : ProdAt a b m i b.length c P) (hc : a[i]? = some c) : ProdAt a b m (i + 1) 0 c' P := by
  refine ⟨h.len, fun x => ?_, fun k z hz => ?_⟩
  · rw [h.eq x, List.take_length, ev_take x hc]
    show _ = _ + _ * (0 : Rat)
    grind
  · have h1 := h.bd _ _ hz
    refine Nat.le_trans h1 (Nat.mul_le_mul_right _ ?_)
    split <;> split <;> omega
theorem ProdAt.start {a b : List Int} {m : Nat} {c : Int} : ProdAt a b m 0 0 c (List.replicate (a.length + b.length - 1) 0) := by
  refine ⟨by simp, fun x => ?_, fun k z hz => ?_⟩
  · have := ev_zeros x (a.length + b.length - 1) []
    rw [List.append_nil] at this
    rw [this]
    show _ * (0 : Rat) = 0 * _ + _ * (0 : Rat)
    grind
  · have : z = 0 := by
      have := List.mem_of_getElem? hz
      exact (List.mem_replicate.mp this).2
    rw [this]
    simp
def spProd (K : PySem.W.Frag) : Sp := fun vs H Q _ => ∃ (v u : V) (a b : List Int) (m1 m2 : Nat), vs = [v, u] ∧ At K H v (dz a) ∧ At K H u (dz b) ∧ a.length ≤ 400 ∧ b.length ≤ 400 ∧ (∀ z ∈ a, z.natAbs ≤ 2 ^ m1) ∧ (∀ z ∈ b, z.natAbs ≤ 2 ^ m2) ∧ m1 + m2 ≤ 400000 ∧
  ∀ Pr u H', Same H H' → At K H' u (dz Pr) → (∀ x : Rat, ev (zq Pr) x = ev (zq a) x * ev (zq b) x) → (Pr.length ≤ a.length + b.length ∧ (0 < a.length → 0 < b.length → Pr.length + 1 = a.length + b.length)) → (∀ z ∈ Pr, z.natAbs ≤ 401 * 2 ^ (m1 + m2)) → Q u H'
section
variable {P : Program} {w : World} {K : PySem.W.Frag} {mg : Str → Option Value} {base : Heap}
abbrev prodN : List Str := ["one", "other", "numbers", "at", "left", "shift", "right", "place"]
theorem sc_prod : FnScope prodN ["one", "other"] (defScope s_product) := ⟨rfl, rfl, rfl, by decide +kernel, rfl, by decide +kernel, by decide +kernel⟩
theorem ok_product {f : Addr} {fd : FuncData} {k : Nat} (F : L2.Fun K "product" "product" s_product f fd) (mlen : mg "len" = none) (mrange : mg "range" = none) (menum : mg "enumerate" = none) : FnOk P w K mg base CX0 (k + 1) f fd ["one", "other"] (spProd K) := by
  have nd := sc_prod.nd
  refine F.ok sc_prod (fun vs H Q E h => ?_) (fun cdv A outer s H vs Q E hr h => ?_)
  · obtain ⟨v, u, a, b, m1, m2, rfl, _⟩ := h
    rfl
  · obtain ⟨v, u, a, b, m1, m2, rfl, hv, hu, la, lb, ba, bb, hm, q⟩ := h
    refine ⟨_, pss_cons (ps_if (PW.pt (pw_or (pt_cmpR (op_eqD hr.units) (pv 0) (pe_lst pa_nil) (nomark _)) (pw_or1 (pt_cmpR (op_eqD hr.units) (pv 1) (pe_lst pa_nil) (nomark _))))) (pss_one (ps_ret (pe_lst pa_nil))) pss_nil)
      (pss_cons (ps_setLc (i := 2) (own := [("place", 7)]) (g := gName 7) (tt := tYes) (by rfl) nd rfl rfl (sw_true rfl rfl rfl (by decide +kernel)) (pi_range1 (by rfl) mrange (pa_cons (pe_op op_sub (pe_op op_add (pe_callB call_len (by rfl) mlen PySem.boot_len (pa_cons (pv 0) pa_nil)) (pe_callB call_len (by rfl) mlen PySem.boot_len (pa_cons (pv 1) pa_nil))) pe_int) pa_nil)) (blkOk_by (N := prodN) (sc := defScope s_product) (by decide +kernel)) (fun _ _ _ _ _ => pg_name (i := 7) nd rfl (.inl rfl) (hf := .inr rfl)) (fun _ _ _ _ _ => pts_nil) (fun _ _ _ _ _ => pe_int))
      (pss_cons (ps_for PassesOwn.never rfl (pi_enum (by rfl) menum (pa_cons (pv 0) pa_nil)) (pg_tup (by rfl) (pgs_cons (pg_name (i := 3) nd rfl (.inl rfl)) (pgs_cons (pg_name (i := 4) nd rfl (.inl rfl)) pgs_nil)))
        (pss_one (ps_for PassesOwn.never rfl (pi_enum (by rfl) menum (pa_cons (pv 1) pa_nil)) (pg_tup (by rfl) (pgs_cons (pg_name (i := 5) nd rfl (.inl rfl)) (pgs_cons (pg_name (i := 6) nd rfl (.inl rfl)) pgs_nil)))
          (pss_one (ps_asg (pe_op op_add (pe_ix ix_list (pv 2) (pe_op op_add (pv 3) (pv 5)) (fun _ _ => rfl)) (pe_op op_mulW (pv 4) (pv 6))) (pg_sub (pv 2) (pe_op op_add (pv 3) (pv 5)) set_list))))))
      (pss_one (ps_ret (pv 2))))), ?_⟩
    obtain ⟨pa, rfl, hpa, _⟩ := at_dz hv
    obtain ⟨pb, rfl, hpb, _⟩ := at_dz hu
    have nz : ∀ {H'} {p : Addr} {l : List Int} {Q' : VK}, At K H' (.ref p) (dz l) → (∀ t : Bool, (t = true ↔ l = []) → ∀ e, H' e = none → Q' (.bl t) (upd H' e (.lst []))) → ∀ e, H' e = none → rEqD K (.ref p) (.ref e) (upd H' e (.lst [])) Q' := fun hl hq e ne =>
      eq_read (hl.same (upd_new ne)) (dz_at (zs := []) upd_same (Nat.zero_le _)) (num_dz _) (num_dz _) (Nat.le_trans (deep_dz _) (by decide)) (Nat.le_trans (deep_dz _) (by decide)) fun t ht => hq t ⟨fun x => dz_inj (ht.mp x), fun x => ht.mpr (by rw [x])⟩ e ne
    have empty : ∀ H', Same H H' → (a = [] ∨ b = []) → ∀ e, H' e = none → Q (.ref e) (upd H' e (.lst [])) := fun H' sm hab e ne => by
      refine q [] (.ref e) _ (sm.trans (upd_new ne)) (dz_at (zs := []) upd_same (Nat.zero_le _)) (fun x => ?_) ⟨Nat.zero_le _, fun a1 b1 => by rcases hab with z | z <;> subst z <;> simp at a1 b1⟩ (fun z hz => by cases hz)
      rcases hab with z | z
      · rw [z]
        show (0 : Rat) = 0 * _
        grind
      · rw [z]
        show (0 : Rat) = _ * 0
        grind
    refine ⟨.ref pa, rfl, Nat.zero_le _, nz hv fun t ht e1 ne1 => ⟨t, rfl, ?_⟩⟩
    have s1 := upd_new (o := .lst []) ne1
    cases t with
    | true => exact iteT (iteT ⟨Nat.zero_le _, empty _ s1 (.inl (ht.mp rfl))⟩)
    | false =>
      have an : a ≠ [] := fun e => absurd (ht.mpr e) (by simp)
      refine iteF ⟨.ref pb, rfl, Nat.zero_le _, nz (hu.same s1) fun t ht e2 ne2 => ⟨t, rfl, ?_⟩⟩
      have s2 := s1.trans (upd_new (o := .lst []) ne2)
      cases t with
      | true => exact iteT ⟨Nat.zero_le _, empty _ s2 (.inr (ht.mp rfl))⟩
      | false =>
        have bn : b ≠ [] := fun e => absurd (ht.mpr e) (by simp)
        have ap : 0 < a.length := List.length_pos_iff.mpr an
        have bp : 0 < b.length := List.length_pos_iff.mpr bn
        refine iteF ?_
        generalize upd (upd H e1 (.lst [])) e2 (.lst []) = H2 at s2
        have lenV : ∀ {H' : Hp} {p : Addr} {l : List Int}, H' p = some (.lst (l.map V.int)) → LenV K (.ref p) H' l.length := fun h => .inl ⟨_, .inl (.inl h), by rw [List.length_map]⟩
        refine ⟨.ref pa, rfl, _, _, rfl, lenV (s2 _ _ hpa), .ref pb, rfl, _, _, rfl, lenV (s2 _ _ hpb), _, _, rfl, rfl, _, 1, rfl, rfl, _, rfl, by omega, by omega, fun n nn => ?_⟩
        have en : ((a.length : Int) + (b.length : Int) - 1).toNat = a.length + b.length - 1 := by omega
        refine lc_range (lo := 0) (n := ((a.length : Int) + (b.length : Int) - 1).toNat) (fun i H' => Same H2 H' ∧ H' n = some (.lst ((List.replicate i (0 : Int)).map V.int))) ⟨upd_new nn, upd_same⟩ (fun i H' hi p => ?_) (fun H3 p => ?_)
        · refine ⟨rfl, yesI ?_⟩
          refine ⟨_, p.2, by rw [List.length_map, List.length_replicate, sizeLine_eq]; omega, fun b' o eb => ?_, ?_⟩
          · rw [upd_ne (ne_of_none eb nn)]
            exact p.1 _ _ eb
          · rw [upd_same, List.replicate_succ', List.map_append]
            rfl
        · rw [en] at p
          obtain ⟨s3, hn⟩ := p
          have hH : H n = none := by
            cases e0 : H n with
            | none => rfl
            | some o => exact absurd ((s2 _ _ e0).symm.trans nn) (by simp)
          refine ⟨.ref pa, rfl, pa, _, rfl, .inl (.inl ((s2.trans s3) _ _ hpa)), ?_⟩
          refine for_it (walk_enum (K := K) (a := pa) (xs := a.map V.int)) (fun i σ H' => ∃ (Pr : List Int) (x3 x4 x5 x6 : Option V), σ = [some (.ref pa), some (.ref pb), some (.ref n), x3, x4, x5, x6, none] ∧ Same H H' ∧ H' n = some (.lst (Pr.map V.int)) ∧ (∀ c, ProdAt a b (m1 + m2) i 0 c Pr)) ⟨_, none, none, none, none, rfl, s2.trans s3, hn, fun c => ProdAt.start⟩ ?_ ?_ ?_
          · rintro i σ H' _ ⟨_, _, _, _, _, _, s4, _⟩
            exact .inl (.inl (s4 _ _ hpa))
          · rintro i y σ H' H'' hi ⟨Pr, x3, x4, x5, x6, rfl, s4, hP, hA⟩ ⟨T, t1, t2, rfl, nT, rfl, e1, e2⟩
            obtain rfl : V.int (i : Nat) = t1 := Option.some.inj e1
            have e2 : (a.map V.int)[i]? = some t2 := e2
            rw [List.getElem?_map] at e2
            cases ea : a[i]? with
            | none => rw [ea] at e2; cases e2
            | some c =>
              rw [ea] at e2
              obtain rfl : V.int c = t2 := Option.some.inj e2
              have s5 := s4.trans (upd_new (o := .tup [.int (i : Nat), .int c]) nT)
              refine ⟨T, _, rfl, .inl (.inl upd_same), rfl, _, [_], rfl, _, [], rfl, rfl, ?_⟩
              refine ⟨.ref pb, rfl, pb, _, rfl, .inl (.inl (s5 _ _ hpb)), ?_⟩
              have hP5 := upd_new (o := .tup [.int (i : Nat), .int c]) nT _ _ hP
              refine for_it (walk_enum (K := K) (a := pb) (xs := b.map V.int)) (fun j σ H' => ∃ (Pr : List Int) (x5 x6 : Option V), σ = [some (.ref pa), some (.ref pb), some (.ref n), some (.int (i : Nat)), some (.int c), x5, x6, none] ∧ Same H H' ∧ H' n = some (.lst (Pr.map V.int)) ∧ ProdAt a b (m1 + m2) i j c Pr) ⟨Pr, _, _, rfl, s5, hP5, hA c⟩ ?_ ?_ ?_
              · rintro j σ H' _ ⟨_, _, _, _, s6, _⟩
                exact .inl (.inl (s6 _ _ hpb))
              · rintro j y σ H6 H7 hj ⟨Pr2, x5, x6, rfl, s6, hP6, hA6⟩ ⟨T2, t3, t4, rfl, nT2, rfl, e3, e4⟩
                obtain rfl : V.int (j : Nat) = t3 := Option.some.inj e3
                have e4 : (b.map V.int)[j]? = some t4 := e4
                rw [List.getElem?_map] at e4
                cases eb : b[j]? with
                | none => rw [eb] at e4; cases e4
                | some d =>
                  rw [eb] at e4
                  obtain rfl : V.int d = t4 := Option.some.inj e4
                  have s7 := upd_new (o := .tup [.int (j : Nat), .int d]) nT2
                  rw [List.length_map] at hi hj
                  have hl : i + j < Pr2.length := by
                    rw [hA6.len]
                    omega
                  obtain ⟨p, hp⟩ : ∃ p, Pr2[i + j]? = some p := ⟨Pr2[i + j], List.getElem?_eq_getElem hl⟩
                  have md : (c * d).natAbs ≤ 2 ^ (m1 + m2) := mul_abs (ba c (List.mem_of_getElem? ea)) (bb d (List.mem_of_getElem? eb))
                  have lc := log_le (ba c (List.mem_of_getElem? ea))
                  have ld := log_le (bb d (List.mem_of_getElem? eb))
                  refine ⟨T2, _, rfl, .inl (.inl upd_same), rfl, _, [_], rfl, _, [], rfl, rfl, ?_⟩
                  have eij : ((i : Nat) : Int) + ((j : Nat) : Int) = ((i + j : Nat) : Int) := by omega
                  refine ⟨.ref n, rfl, .int (i : Nat), rfl, .int (j : Nat), rfl, _, _, rfl, rfl, n, _, _, .int p, rfl, rfl, .inl (.inl (s7 _ _ hP6)), by rw [eij]; exact atI_nat (by rw [List.getElem?_map, hp]; rfl), ?_⟩
                  refine ⟨.int c, rfl, .int d, rfl, c, d, rfl, rfl, by unfold CMulW; omega, p, _, rfl, rfl, ?_⟩
                  refine ⟨.ref n, rfl, .int (i : Nat), rfl, .int (j : Nat), rfl, _, _, rfl, rfl, n, _, _, i + j, rfl, rfl, s7 _ _ hP6, ?_, ?_⟩
                  · rw [eij]
                    unfold ixN
                    rw [List.length_map, if_pos (by omega), if_pos (by omega)]
                    rfl
                  · refine ⟨Pr2.set (i + j) (p + c * d), _, _, rfl, fun b' o eb' => ?_, ?_, hA6.step eb hp md⟩
                    · rw [upd_ne (ne_of_none eb' hH)]
                      exact s7 _ _ (s6 _ _ eb')
                    · rw [upd_same, List.map_set]
              · rintro σ H6 ⟨Pr2, x5', x6', rfl, s6, hP6, hA6⟩
                rw [List.length_map] at hA6
                exact ⟨Pr2, _, _, _, _, rfl, s6, hP6, fun c' => hA6.row ea⟩
          · rintro σ H6 ⟨Pr, x3, x4, x5, x6, rfl, s6, hP6, hA6⟩
            rw [List.length_map] at hA6
            have hA := hA6 0
            have hlen := hA.len
            refine ⟨.ref n, rfl, q Pr _ _ s6 (dz_at hP6 (by omega)) (fun x => ?_) ⟨by omega, fun _ _ => by omega⟩ (fun z hz => ?_)⟩
            · have := hA.eq x
              rw [List.take_length] at this
              rw [this]
              show _ + _ * (0 : Rat) = _
              grind
            · obtain ⟨k', hk'⟩ := List.getElem?_of_mem hz
              have h1 := hA.bd _ _ hk'
              refine Nat.le_trans h1 (Nat.mul_le_mul_right _ ?_)
              have : k' < Pr.length := (List.getElem?_eq_some_iff.mp hk').1
              split <;> omega
end
end RB

set_option Elab.async false
set_option linter.all false
set_option maxRecDepth 100000
set_option maxHeartbeats 4000000
namespace RB
open PySem PySem.Spec PyProof.Rows L2 SX
/-- a bag at x with this monic polynomial, its whole numbers below 2 ^ B -/
def BagM (C : Addr) (H : Hp) (x : Addr) (ms : List Rat) (B : Nat) : Prop := ∃ W : List Int, BagAt C H x W ∧ Prim W ms ∧ ∀ w ∈ W, w.natAbs ≤ 2 ^ B
theorem BagAt.same {C : Addr} {H H' : Hp} {x : Addr} {W : List Int} (h : BagAt C H x W) (s : Same H H') : BagAt C H' x W := by
  obtain ⟨dx, l, h1, h2⟩ := h
  exact ⟨dx, l, s _ _ h1, s _ _ h2⟩
theorem BagM.same {C : Addr} {H H' : Hp} {x : Addr} {ms : List Rat} {B : Nat} (h : BagM C H x ms B) (s : Same H H') : BagM C H' x ms B := by
  obtain ⟨W, h1, h2⟩ := h
  exact ⟨W, h1.same s, h2⟩
theorem Prim.len {W : List Int} {ms : List Rat} (h : Prim W ms) : W.length = ms.length := by
  obtain ⟨ws, m, rfl, _, e⟩ := h.shape
  rw [← e, List.length_map]
theorem Prim.mon {W : List Int} {ms : List Rat} (h : Prim W ms) : ∃ r, ms = r ++ [1] := by
  obtain ⟨ws, m, rfl, m0, e⟩ := h.shape
  refine ⟨ws.map fun x : Int => (x : Rat) / (m : Rat), ?_⟩
  rw [← e, List.map_append]
  have mq : (m : Rat) ≠ 0 := rat_ne (by omega)
  have : (m : Rat) / (m : Rat) = 1 := by grind
  show _ ++ [(m : Rat) / (m : Rat)] = _
  rw [this]
theorem Prim.ev {W : List Int} {ms : List Rat} (h : Prim W ms) : ∃ m : Rat, m ≠ 0 ∧ ∀ x, ev (zq W) x = m * ev ms x := by
  obtain ⟨ws, m, rfl, m0, e⟩ := h.shape
  have mq : (m : Rat) ≠ 0 := rat_ne (by omega)
  refine ⟨m, mq, fun x => ?_⟩
  have e2 : ms = (zq (ws ++ [m])).map (· / (m : Rat)) := by
    rw [← e]
    unfold zq
    rw [List.map_map]
    rfl
  rw [e2, ev_div]
  grind
theorem Prim.same {W : List Int} {ms ms2 : List Rat} (h : Prim W ms) (h2 : Prim W ms2) : ms = ms2 := by
  obtain ⟨ws, m, rfl, m0, e⟩ := h.shape
  obtain ⟨vs, n, en, n0, e2⟩ := h2.shape
  obtain ⟨rfl, ez⟩ := List.append_inj' en rfl
  obtain rfl : m = n := by simpa using ez
  exact e.symm.trans e2
theorem scale_ones : ∀ (ps : List (Int × Int)) , (∀ p ∈ ps, p.2 = 1) → ps.foldl (fun s p => lcmI s p.2) 1 = 1
  | [], _ => rfl
  | p :: r, h => by
    rw [List.foldl_cons, h p List.mem_cons_self]
    have : lcmI 1 1 = 1 := by decide
    rw [this]
    exact scale_ones r fun q hq => h q (List.mem_cons_of_mem _ hq)
theorem whole_ones {ps : List (Int × Int)} (h : ∀ p ∈ ps, p.2 = 1) : wholeZ ps = ps.map (·.1) := by
  unfold wholeZ
  refine List.map_congr_left fun p hp => ?_
  rw [h p hp, show scaleOf ps = 1 from scale_ones ps h]
  show p.1 * (1 : Int).fdiv 1 = p.1
  rw [show (1 : Int).fdiv 1 = 1 by decide, Int.mul_one]
theorem pow_huge {B : Nat} (h : B ≤ 330) : 2 ^ B < huge.natAbs := Nat.lt_of_le_of_lt (Nat.pow_le_pow_right (by decide) h) (by decide +kernel)
/-- Bag(..) of a list of whole numbers -/
theorem make_L {K : PySem.W.Frag} {C CN CP : Addr} {H : Hp} {a : Addr} {zs : List Int} {B : Nat} {E : XK} {Q : VK} {t : List Rat} {y : Rat} (ha : H a = some (.lst (zs.map V.int))) (hz : ∀ z ∈ zs, z.natAbs ≤ 2 ^ B) (hB : B ≤ 330) (hl : zs.length ≤ 400) (tl : t.length ≤ 40) (ht : trimL 0 (zq zs) = t ++ [y]) (y0 : y ≠ 0)
    (q : ∀ (x : Addr) (H' : Hp), Same H H' → H x = none → BagM C H' x ((t ++ [y]).map (· / y)) B → Q (.ref x) H') :
    ∀ x dx, H x = none → H dx = none → dx ≠ x → spInitL K C CN CP (.ref x :: ([.ref a] ++ [])) (upd (upd H dx (.own x)) x (.ins C dx [])) (fun v H2 => v = .non ∧ Q (.ref x) H2) E := fun x dx nx ndx ne => by
  have s1 : Same H (upd (upd H dx (.own x)) x (.ins C dx [])) := fun b o e => by
    rw [upd_ne (ne_of_none e nx), upd_ne (ne_of_none e ndx)]
    exact e
  have eqs : (zs.map fun z : Int => ((z, 1) : Int × Int)).map qOf = zq zs := by
    rw [List.map_map]
    refine List.map_congr_left fun z _ => ?_
    show (z : Rat) / ((1 : Int) : Rat) = (z : Rat)
    have : ((1 : Int) : Rat) = 1 := rfl
    rw [this]
    grind
  have ones : ∀ p ∈ zs.map (fun z : Int => ((z, 1) : Int × Int)), p.2 = 1 := fun p hp => by
    obtain ⟨z, _, rfl⟩ := List.mem_map.mp hp
    rfl
  have b1 : 2 ^ B < 2 ^ (B + 1) := Nat.pow_lt_pow_right (by decide) (by omega)
  have hw : ∀ z ∈ wholeZ (headP (zs.map fun z : Int => ((z, 1) : Int × Int))), z.natAbs ≤ 2 ^ B := fun z hm => by
    rw [whole_ones fun p hp => ones p (head_mem hp)] at hm
    obtain ⟨p, hp, rfl⟩ := List.mem_map.mp hm
    obtain ⟨u, hu, rfl⟩ := List.mem_map.mp (head_mem hp)
    exact hz u hu
  refine ⟨x, dx, a, _, zs.map (fun z : Int => ((z, 1) : Int × Int)), B + 1, rfl, upd_same, s1 _ _ ha, ⟨by rw [List.length_map, List.length_map], fun i v p hv hp => ?_⟩, by rw [List.length_map]; omega, fun ⟨p, hp, z⟩ => ?_, fun _ => ⟨fun z => ?_, fun t2 y2 ht2 y20 => ?_⟩⟩
  · rw [List.getElem?_map] at hv hp
    cases e : zs[i]? with
    | none => rw [e] at hv; cases hv
    | some z =>
      rw [e] at hv hp
      obtain rfl : V.int z = v := Option.some.inj hv
      obtain rfl : ((z, 1) : Int × Int) = p := Option.some.inj hp
      exact .inl ⟨rfl, rfl⟩
  · rw [ones p hp] at z
    cases z
  · rw [eqs, ht] at z
    simp at z
  · rw [eqs, ht] at ht2
    obtain ⟨rfl, e2⟩ := List.append_inj' ht2 rfl
    obtain rfl : y = y2 := by simpa using e2
    refine ⟨⟨fun p hp => ?_, by omega, by omega, ?_⟩, tl, fun z hm => Nat.lt_of_le_of_lt (hw z hm) (pow_huge hB), fun ws m H' m0 hwb hc hwz er k hb => ⟨rfl, ?_⟩⟩
    · obtain ⟨z, hzm, rfl⟩ := List.mem_map.mp hp
      refine ⟨Nat.lt_of_le_of_lt (hz z hzm) b1, ?_⟩
      show 1 < 2 ^ (B + 1)
      exact Nat.one_lt_two_pow (by omega)
    · rw [List.length_map]
      have : (B + 1) * (zs.length + 2) ≤ 331 * 402 := Nat.mul_le_mul (by omega) (by omega)
      omega
    · refine q x H' (fun b o e => k _ _ (s1 _ _ e) (ne_of_none e nx)) nx ⟨ws ++ [m], hb, ⟨⟨ws, m, rfl, m0, er⟩, hc⟩, fun w hm => ?_⟩
      obtain ⟨z, hzm, hle⟩ := hwz w hm
      exact Nat.le_trans hle (hw z hzm)
end RB

set_option Elab.async false
set_option linter.all false
set_option maxRecDepth 100000
set_option maxHeartbeats 4000000
namespace RB
open PySem PySem.Spec PyProof.Rows L2 SX
theorem pe_nev {X : Cx} {e : Expr} : PE X e (fun _ _ _ => False) := ⟨fun _ _ _ _ _ _ h => h.elim⟩
/-- a class held by a name of the def is called -/
theorem pe_makeL {X : Cx} {CX : CXT} {k i : Nat} {f C : Addr} {fd : FuncData} {ps : List Str} {sp : Sp} {E : XK} {x : Str} {p pos : Pos} {e : Expr} {es : List Expr} {t : TA} (M : Mk X.K C f) (F : FnOk X.prog X.w X.K X.mg X.base CX k f fd ps sp) (hr : Room (k + 1) X.A) (hN : X.N[i]? = some x) (hv : Vis X.env.scope x)
    (hb : L2.Binds X.K fd ps []) (hx : Passes CX X E) (ha : PA X (e :: es) t) (hd : (x == ("__debug__" : Str)) = false := by decide) (hcd : (x == ("__classdict__" : Str)) = false := by decide) (he : starEach (e :: es) X.env = (false, eval e X.env) :: starEach es X.env := by rfl) (hpl : (backTo pos (starEach es X.env)).any (·.1) = false := by rfl) :
    PE X (.Call (.Name x p) (e :: es) [] pos) fun σ H Q => σ[i]? = some (some (.ref C)) ∧ tMake C sp [] E t σ H Q := by
  refine ⟨fun pins s σ H Q I h => ?_⟩
  obtain ⟨hs, h⟩ := h
  refine wpAny_Call_Name_kw (thn ((pe_var (pos := p) (i := i) hN hv hd hcd).run pins s σ H (fun v H1 => v = .ref C ∧ H1 = H) I ⟨.ref C, hs, rfl, rfl⟩) fun u s1 z => ?_)
  obtain ⟨v, H1, I1, r1, ev, eH⟩ := z
  subst ev
  rw [eH] at I1
  obtain rfl : u = Value.ref C := r1
  refine PySem.W.callWith_K (h₀ := X.base) I1.ok.mod.kin M.kp (thn (ha.run pos pins s1 σ H _ I1 h) fun us s2 z => ?_) he hpl
  obtain ⟨vs, H2, I2, r, q⟩ := z
  exact ⟨I2.kIn, run_make M F hr hb .nil hx I2 r q⟩
def spSize (C : Addr) : Sp := fun vs H Q _ => ∃ (x : Addr) (W : List Int), vs = [.ref x] ∧ BagAt C H x W ∧ Q (.int ((W.length : Int) - 1)) H
def spEqM (C : Addr) : Sp := fun vs H Q _ => ∃ (a b : Addr) (m1 m2 : List Rat) (B1 B2 : Nat), vs = [.ref a, .ref b] ∧ BagM C H a m1 B1 ∧ BagM C H b m2 B2 ∧ m1.length ≤ 1000 ∧ m2.length ≤ 1000 ∧ ∀ t : Bool, (t = true ↔ m1 = m2) → Q (.bl t) H
def spOrM (C : Addr) : Sp := fun vs H Q _ => ∃ (a b : Addr) (m1 m2 : List Rat) (B1 B2 : Nat), vs = [.ref a, .ref b] ∧ BagM C H a m1 B1 ∧ BagM C H b m2 B2 ∧ m1.length + m2.length ≤ 42 ∧ B1 + B2 ≤ 320 ∧
  ∀ (x : Addr) (H' : Hp), Same H H' → BagM C H' x (mulQ m1 m2) (B1 + B2 + 9) → Q (.ref x) H'
/-- what the class must have besides -/
structure TBag2 (K : PySem.W.Frag) (mg : Str → Option Value) (C pS gS : Addr) : Prop where
  gC : mg "Bag" = some (.ref C)
  isi : mg "isinstance" = none
  prop : PropOf K C "size" pS gS
  ca : PySem.W.findIn K (.ref C) "__class__" = some (some (.builtin "object.__class__"))
  cn : PySem.W.specialIn K (.builtin "object.__class__") "__get__" = some (some (.builtin "getset_descriptor.__get__"))
  ct : PySem.W.takesIn K (.builtin "object.__class__") = some true
  cm : PySem.W.mroIn K C (.type "object") = some true
theorem mul_len {a b : List Rat} (ha : ∃ r, a = r ++ [1]) (hb : ∃ r, b = r ++ [1]) : (mulQ a b).length + 1 = a.length + b.length ∧ ∃ r, mulQ a b = r ++ [1] := by
  obtain ⟨r1, rfl⟩ := ha
  obtain ⟨r2, rfl⟩ := hb
  obtain ⟨m, em, el⟩ := mul_last r1 1 r2 1
  refine ⟨?_, m, ?_⟩
  · rw [em]
    simp
    omega
  · rw [em, show (1 : Rat) * 1 = 1 by decide +kernel]
theorem prod_mon {W1 W2 Pr : List Int} {m1 m2 : List Rat} (h1 : Prim W1 m1) (h2 : Prim W2 m2) (he : ∀ x : Rat, ev (zq Pr) x = ev (zq W1) x * ev (zq W2) x) : ∃ t y, trimL 0 (zq Pr) = t ++ [y] ∧ y ≠ 0 ∧ (t ++ [y]).map (· / y) = mulQ m1 m2 := by
  obtain ⟨c1, c10, e1⟩ := h1.ev
  obtain ⟨c2, c20, e2⟩ := h2.ev
  have c0 : c1 * c2 ≠ 0 := fun z => by
    have : c1 = 0 ∨ c2 = 0 := by grind
    exact this.elim c10 c20
  have ex : ∀ x, ev (trimL 0 (zq Pr)) x = c1 * c2 * (ev m1 x * ev m2 x) := fun x => by
    rw [ev_trim, he x, e1 x, e2 x]
    grind
  rcases trim_shape (z := (0 : Rat)) (zq Pr) with e | ⟨t, y, e, y0⟩
  · exfalso
    obtain ⟨r1, rfl⟩ := h1.mon
    obtain ⟨r2, rfl⟩ := h2.mon
    have z : ∀ x, ev ((mulQ (r1 ++ [1]) (r2 ++ [1])).map (c1 * c2 * ·)) x = 0 := fun x => by
      rw [ev_smul, ev_mul, ← ex x, e]
      rfl
    have z2 := ev_zero_trim z
    obtain ⟨m, em, _⟩ := mul_last r1 1 r2 1
    rw [em, List.map_append] at z2
    have : trimL 0 (m.map (c1 * c2 * ·) ++ [c1 * c2 * (1 * 1)]) = m.map (c1 * c2 * ·) ++ [c1 * c2 * (1 * 1)] := trim_keep (fun q => c0 (by grind)) _
    rw [show List.map (c1 * c2 * ·) [1 * 1] = [c1 * c2 * (1 * 1)] from rfl, this] at z2
    simp at z2
  · rw [e] at ex
    exact ⟨t, y, e, y0, (mon_mul h1.mon h2.mon y0 ex c0).1⟩
section
variable {P : Program} {w : World} {K : PySem.W.Frag} {mg : Str → Option Value} {base : Heap}
theorem sc_size : FnScope ["self"] ["self"] (defScope c_Bag_size) := ⟨rfl, rfl, rfl, by decide +kernel, rfl, by decide +kernel, by decide +kernel⟩
theorem ok_size {f C : Addr} {fd : FuncData} {k : Nat} (F : L2.Fun K "size" "Bag.size" c_Bag_size f fd) (T : TBag K mg C) : FnOk P w K mg base CX0 (k + 1) f fd ["self"] (spSize C) := by
  have nd := sc_size.nd
  refine F.ok sc_size (fun vs H Q E h => ?_) (fun cdv A outer s H vs Q E hr h => ?_)
  · obtain ⟨x, W, rfl, _⟩ := h
    rfl
  · obtain ⟨x, W, rfl, ⟨dx, l, hx, hl⟩, q⟩ := h
    refine ⟨_, pss_one (ps_ret (pe_op op_sub (pe_callB call_len (by rfl) T.len PySem.boot_len (pa_cons (pe_fld (pv 0) rfl) pa_nil)) pe_int)), ?_⟩
    refine ⟨.ref x, rfl, x, C, dx, _, _, rfl, hx, T.cl, T.nW, rfl, .ref l, _, rfl, .inl ⟨_, .inl (.inl hl), rfl⟩, _, 1, rfl, rfl, ?_⟩
    rw [List.length_map]
    exact q
theorem sc_eqB : FnScope ["self", "other"] ["self", "other"] (defScope c_Bag_eq) := ⟨rfl, rfl, rfl, by decide +kernel, rfl, by decide +kernel, by decide +kernel⟩
theorem ok_eqB {f C pS gS : Addr} {fd : FuncData} {k : Nat} (F : L2.Fun K "__eq__" "Bag.__eq__" c_Bag_eq f fd) (T : TBag K mg C) (T2 : TBag2 K mg C pS gS) : FnOk P w K mg base CX0 (k + 1) f fd ["self", "other"] (spEqM C) := by
  have nd := sc_eqB.nd
  refine F.ok sc_eqB (fun vs H Q E h => ?_) (fun cdv A outer s H vs Q E hr h => ?_)
  · obtain ⟨a, b, m1, m2, B1, B2, rfl, _⟩ := h
    rfl
  · obtain ⟨a, b, m1, m2, B1, B2, rfl, ⟨W1, ⟨dx, l, hx, hl⟩, p1, _⟩, ⟨W2, ⟨dy, l2, hy, hl2⟩, p2, _⟩, n1, n2, q⟩ := h
    refine ⟨_, pss_one (ps_ret (pe_and (pe_callB call_isi (by rfl) T2.isi (by decide +kernel) (pa_cons (pv 1) (pa_cons (pe_glob (v := .ref C) (by rfl) T2.gC rfl) pa_nil))) (pe_one (pe_cmpR (op_eqD hr.units) (pe_fld (pv 0) rfl) (pe_fld (pv 1) rfl) (nomark _))))), ?_⟩
    have kt : PySem.W.kitOne K (.ref C) (.ref C) = some true := by
      unfold PySem.W.kitOne
      rw [if_pos (by simp)]
    refine ⟨.ref b, rfl, .ref b, .ref C, .ref C, .ref C, true, rfl, .own C, .base (.ins hy T.cl T2.ca T2.cn T2.ct T2.cm), kt, true, rfl, iteT ?_⟩
    refine ⟨.ref a, rfl, a, C, dx, _, _, rfl, hx, T.cl, T.nW, rfl, .ref b, rfl, b, C, dy, _, _, rfl, hy, T.cl, T.nW, rfl, ?_⟩
    refine eq_read (dz_at hl (by rw [p1.len]; omega)) (dz_at hl2 (by rw [p2.len]; omega)) (num_dz _) (num_dz _) (Nat.le_trans (deep_dz _) (by decide)) (Nat.le_trans (deep_dz _) (by decide)) fun t ht => q t ⟨fun z => ?_, fun z => ht.mpr ?_⟩
    · have e := dz_inj (ht.mp z)
      subst e
      exact p1.same p2
    · subst z
      rw [p1.uniq p2]
theorem sc_orB : FnScope ["self", "other"] ["self", "other"] (defScope c_Bag_or) := ⟨rfl, rfl, rfl, by decide +kernel, rfl, by decide +kernel, by decide +kernel⟩
theorem ok_orB {f C CN CP pS gS fK fP fI : Addr} {fd dS dK dP dI : FuncData} (F : L2.Fun K "__or__" "Bag.__or__" c_Bag_or f fd) (T : TBag K mg C) (T2 : TBag2 K mg C pS gS)
    (GS : FnOk P w K mg base CX0 1 gS dS ["self"] (spSize C)) (bS : L2.Binds K dS ["self"] [])
    (GK : FnOk P w K mg base CX0 1 fK dK ["size"] spCheck) (gK : mg "check_size" = some (.ref fK)) (kK : PySem.W.keepIn K (.ref fK) = true) (bK : L2.Binds K dK ["size"] [])
    (GP : FnOk P w K mg base CX0 1 fP dP ["one", "other"] (spProd K)) (gP : mg "product" = some (.ref fP)) (kP : PySem.W.keepIn K (.ref fP) = true) (bP : L2.Binds K dP ["one", "other"] [])
    (M : Mk K C fI) (GI : FnOk P w K mg base (L2.CX P w) 6 fI dI ["self", "parts"] (spInitL K C CN CP)) (bI : L2.Binds K dI ["self", "parts"] []) : FnOk P w K mg base CX0 8 f fd ["self", "other"] (spOrM C) := by
  have nd := sc_orB.nd
  refine F.ok sc_orB (fun vs H Q E h => ?_) (fun cdv A outer s H vs Q E hr h => ?_)
  · obtain ⟨a, b, m1, m2, B1, B2, rfl, _⟩ := h
    rfl
  · obtain ⟨a, b, m1, m2, B1, B2, rfl, ⟨W1, hb1, p1, w1⟩, ⟨W2, hb2, p2, w2⟩, n12, B12, q⟩ := h
    have hr1 : Room 1 _ := hr.mono (by decide : 1 ≤ 7)
    have hr2 : Room 2 _ := hr.mono (by decide : 2 ≤ 7)
    refine ⟨_, pss_cons (ps_expr (pe_call GK hr1 (by rfl) gK kK bK .nil pass0 (pa_cons (pe_op op_add (pe_prop (pv 0) T.cl T2.prop GS hr2 bS .nil pass0 rfl) (pe_prop (pv 1) T.cl T2.prop GS hr2 bS .nil pass0 rfl)) pa_nil)))
      (pss_one (ps_ret (pe_make M GI hr (by rfl) T2.gC bI .nil passL (pa_cons (pe_call GP hr1 (by rfl) gP kP bP .nil pass0 (pa_cons (pe_fld (pv 0) rfl) (pa_cons (pe_fld (pv 1) rfl) pa_nil))) pa_nil)))), ?_⟩
    obtain ⟨dx, l, hx, hl⟩ := id hb1
    obtain ⟨dy, l2, hy, hl2⟩ := id hb2
    have e1 := p1.len
    have e2 := p2.len
    refine ⟨.ref a, rfl, a, dx, _, rfl, hx, a, W1, rfl, hb1, .ref b, rfl, b, dy, _, rfl, hy, b, W2, rfl, hb2, _, _, rfl, rfl, _, rfl, by omega, ?_⟩
    refine ⟨.ref a, rfl, a, C, dx, _, _, rfl, hx, T.cl, T.nW, rfl, .ref b, rfl, b, C, dy, _, _, rfl, hy, T.cl, T.nW, rfl, ?_⟩
    refine ⟨.ref l, .ref l2, W1, W2, B1, B2, rfl, dz_at hl (by omega), dz_at hl2 (by omega), by omega, by omega, w1, w2, by omega, fun Pr u H1 s1 hu he hpl hpb => ?_⟩
    obtain ⟨lu, rfl, hlu, _⟩ := at_dz hu
    obtain ⟨t, y, et, y0, em⟩ := prod_mon p1 p2 he
    have tl : t.length ≤ 40 := by
      have := congrArg List.length em
      rw [List.length_map, List.length_append] at this
      have := (mul_len p1.mon p2.mon).1
      simp at *
      omega
    refine make_L (K := K) (C := C) (CN := CN) (CP := CP) (E := fun _ _ _ => False) (Q := Q) (B := B1 + B2 + 9) hlu (fun z hz => Nat.le_trans (hpb z hz) ?_) (by omega) (by omega) tl et y0 (fun x H2 s2 nx hb => q x H2 (s1.trans s2) (em ▸ hb))
    · rw [Nat.pow_add 2 (B1 + B2) 9, Nat.mul_comm]
      exact Nat.mul_le_mul_left _ (by decide)
end
end RB

set_option Elab.async false
set_option linter.all false
set_option maxRecDepth 100000
set_option maxHeartbeats 1000000
namespace RB
open PySem PySem.Spec PyProof.Rows L2 SX
def Mon (ms : List Rat) : Prop := ∃ r, ms = r ++ [1]
theorem mon_of {F : List Int} {ms : List Rat} {c : Rat} (hm : Mon ms) (c0 : c ≠ 0) (h : ∀ x : Rat, ev (zq F) x = c * ev ms x) : ∃ t y, trimL 0 (zq F) = t ++ [y] ∧ y ≠ 0 ∧ (t ++ [y]).map (· / y) = ms := by
  obtain ⟨r, rfl⟩ := hm
  have e : trimL 0 (zq F) = (r ++ [1]).map (c * ·) := by
    refine ev_inj (trim_idem _) ?_ fun x => ?_
    · rw [List.map_append]
      refine trim_keep ?_ _
      show c * 1 ≠ 0
      intro z
      exact c0 (by grind)
    · rw [ev_trim, h x, ev_smul]
  refine ⟨r.map (c * ·), c, ?_, c0, ?_⟩
  · rw [e, List.map_append]
    show _ ++ [c * 1] = _
    rw [show c * 1 = c by grind]
  · have e2 : r.map (c * ·) ++ [c] = (r ++ [1]).map (c * ·) := by
      rw [List.map_append]
      show _ = _ ++ [c * 1]
      rw [show c * 1 = c by grind]
    rw [e2, List.map_map]
    conv => rhs; rw [← List.map_id' (r ++ [1])]
    refine List.map_congr_left fun z _ => ?_
    show c * z / c = z
    grind
def pQ (mss : List (List Rat)) : List Rat := mss.foldl mulQ [1]
def evs (mss : List (List Rat)) (x : Rat) : Rat := mss.foldl (fun p m => p * ev m x) 1
theorem pq_fold : ∀ (mss : List (List Rat)) (acc : List Rat), Mon acc → (∀ m ∈ mss, Mon m) → Mon (mss.foldl mulQ acc) ∧ ((mss.foldl mulQ acc).length : Int) = (acc.length : Int) + (mss.map fun m => (m.length : Int) - 1).sum ∧ ∀ x, ev (mss.foldl mulQ acc) x = mss.foldl (fun p m => p * ev m x) (ev acc x)
  | [], acc, h, _ => ⟨h, by simp, fun _ => rfl⟩
  | m :: r, acc, h, hm => by
    obtain ⟨l, mo⟩ := mul_len h (hm m List.mem_cons_self)
    obtain ⟨a, b, c⟩ := pq_fold r (mulQ acc m) mo fun q hq => hm q (List.mem_cons_of_mem _ hq)
    refine ⟨a, ?_, fun x => ?_⟩
    · rw [List.foldl_cons, b, List.map_cons, List.sum_cons]
      omega
    · rw [List.foldl_cons, c x, ev_mul, List.foldl_cons]
theorem ev_one (x : Rat) : ev [1] x = 1 := by
  show (1 : Rat) + x * 0 = 1
  grind
theorem pq_ok {mss : List (List Rat)} (hm : ∀ m ∈ mss, Mon m) : Mon (pQ mss) ∧ ((pQ mss).length : Int) = 1 + (mss.map fun m => (m.length : Int) - 1).sum ∧ ∀ x, ev (pQ mss) x = evs mss x := by
  obtain ⟨a, b, c⟩ := pq_fold mss [1] ⟨[], rfl⟩ hm
  refine ⟨a, b, fun x => ?_⟩
  rw [show pQ mss = mss.foldl mulQ [1] from rfl, c x, ev_one]
  rfl
def BagsM (C : Addr) (H : Hp) (bs : List Addr) (mss : List (List Rat)) (B : Nat) : Prop := bs.length = mss.length ∧ ∀ (i : Nat) (b : Addr) (m : List Rat), bs[i]? = some b → mss[i]? = some m → BagM C H b m B
def spJoin (C : Addr) : Sp := fun vs H Q _ => ∃ (p : Addr) (bs : List Addr) (mss : List (List Rat)) (B : Nat), vs = [.ref p] ∧ H p = some (.tup (bs.map V.ref)) ∧ BagsM C H bs mss B ∧ bs.length ≤ 4 ∧ (∀ m ∈ mss, m.length ≤ 41) ∧ (mss.map fun m => (m.length : Int) - 1).sum ≤ 40 ∧ (B + 9) * bs.length ≤ 320 ∧
  ∀ (x : Addr) (H' : Hp), Same H H' → BagM C H' x (pQ mss) ((B + 9) * bs.length) → Q (.ref x) H'
/-- .. with its arguments as they are passed -/
def spJoined (C : Addr) : Sp := fun vs H Q E => ∃ ws rest : List V, vs = ws ++ rest ∧ ws.length = ([] : List Str).length ∧ rest.length ≤ sizeLine ∧ ∀ p, H p = none → spJoin C (ws ++ [V.ref p]) (upd H p (.tup rest)) Q E
end RB

set_option Elab.async false
set_option linter.all false
set_option maxRecDepth 100000
set_option maxHeartbeats 4000000
namespace RB
open PySem PySem.Spec PyProof.Rows L2 SX
section
variable {P : Program} {w : World} {K : PySem.W.Frag} {mg : Str → Option Value} {base : Heap}
theorem sc_ratl : FnScope ["value", "numerator", "denominator"] ["value"] (defScope s_rational) := ⟨rfl, rfl, rfl, by decide +kernel, rfl, by decide +kernel, by decide +kernel⟩
def spRatl (C : Addr) : Sp := fun vs H Q E => ∃ (v : V) (n d : Int), vs = [v] ∧ RatV H v n d ∧ d.natAbs.log2 < 9000 ∧ (d = 0 → Bad C H E) ∧ (d ≠ 0 → ∀ (p : Addr) (H' : Hp), Same H H' → H' p = some (.tup [.int (lowN n d), .int (lowD n d)]) → Q (.ref p) H')
theorem ok_ratl {f fP fL C : Addr} {fd dP dL : FuncData} (F : L2.Fun K "rational" "rational" s_rational f fd) (GP : FnOk P w K mg base (L2.CX P w) 4 fP dP ["value"] (spPair C)) (gP : mg "as_pair" = some (.ref fP)) (kP : PySem.W.keepIn K (.ref fP) = true) (bP : L2.Binds K dP ["value"] [])
    (GL : FnOk P w K mg base (L2.CX P w) 4 fL dL ["numerator", "denominator"] (spLowest C)) (gL : mg "lowest" = some (.ref fL)) (kL : PySem.W.keepIn K (.ref fL) = true) (bL : L2.Binds K dL ["numerator", "denominator"] []) : FnOk P w K mg base (L2.CX P w) 5 f fd ["value"] (spRatl C) := by
  have nd := sc_ratl.nd
  refine F.okX sc_ratl (fun vs H Q E h => ?_) (fun cdv A outer s H vs Q E hr h => ?_)
  · obtain ⟨v, n, d, rfl, _⟩ := h
    rfl
  · obtain ⟨v, n, d, rfl, hv, hd, q0, q1⟩ := h
    refine ⟨_, pss_cons (ps_asg (pe_call GP hr (by rfl) gP kP bP .nil (passes_call (takes_of rfl rfl rfl rfl) fun _ _ _ _ h => h) (pa_cons (pv 0) pa_nil)) (pg_tup (by rfl) (pgs_cons (pg_name (i := 1) nd rfl (.inl rfl)) (pgs_cons (pg_name (i := 2) nd rfl (.inl rfl)) pgs_nil))))
      (pss_one (ps_ret (pe_call GL hr (by rfl) gL kL bL .nil (passes_call (takes_of rfl rfl rfl rfl) fun _ _ _ _ h => h) (pa_cons (pv 1) (pa_cons (pv 2) pa_nil))))), ?_⟩
    refine ⟨v, rfl, v, n, d, rfl, hv, q0, fun hd0 p np => ?_⟩
    refine ⟨p, [.int n, .int d], rfl, .inl (.inl upd_same), rfl, .int n, [.int d], rfl, .int d, [], rfl, rfl, ?_⟩
    refine ⟨.int n, rfl, .int d, rfl, n, d, rfl, hd, fun z => absurd z hd0, fun _ p2 np2 => ?_⟩
    exact q1 hd0 _ _ ((upd_new (o := .tup [.int n, .int d]) np).trans (upd_new (o := .tup [.int (n.fdiv (lowS n d)), .int (d.fdiv (lowS n d))]) np2)) upd_same
end
end RB

set_option Elab.async false
set_option linter.all false
set_option maxRecDepth 100000
set_option maxHeartbeats 1000000
namespace RB
open PySem PySem.Spec PyProof.Rows L2 SX
/-- the monic polynomial of one rational -/
def linQ (p : Int × Int) : List Rat := [-(qOf p), 1]
def lowP (p : Int × Int) : Int × Int := (lowN p.1 p.2, lowD p.1 p.2)
theorem lin_mon (p : Int × Int) : Mon (linQ p) := ⟨[-(qOf p)], rfl⟩
theorem lowP_ev {p : Int × Int} (h : p.2 ≠ 0) : ((lowP p).2 : Rat) ≠ 0 ∧ ∀ x : Rat, ev (zq [-(lowP p).1, (lowP p).2]) x = ((lowP p).2 : Rat) * ev (linQ p) x := by
  obtain ⟨k, m, e1, e2, e3, e4, m1, _⟩ := low_all (n := p.1) (d := p.2) h
  have ek : (lowP p).1 = k := e3
  have em : (lowP p).2 = m := e4
  have s0 : lowS p.1 p.2 ≠ 0 := fun z => h (by rw [e2, z]; simp)
  have sq : ((lowS p.1 p.2 : Int) : Rat) ≠ 0 := rat_ne s0
  have mq : (m : Rat) ≠ 0 := rat_ne (by omega)
  have eq : qOf p = (k : Rat) / (m : Rat) := by
    show (p.1 : Rat) / (p.2 : Rat) = _
    have h1 : (p.1 : Rat) = (lowS p.1 p.2 : Rat) * (k : Rat) := by
      rw [← Rat.intCast_mul, ← e1]
    have h2 : (p.2 : Rat) = (lowS p.1 p.2 : Rat) * (m : Rat) := by
      rw [← Rat.intCast_mul, ← e2]
    rw [h1, h2]
    generalize ((lowS p.1 p.2 : Int) : Rat) = sc at *
    grind
  rw [ek, em]
  refine ⟨mq, fun x => ?_⟩
  unfold linQ
  rw [eq]
  show ((-k : Int) : Rat) + x * ((m : Rat) + x * 0) = (m : Rat) * (-((k : Rat) / (m : Rat)) + x * (1 + x * 0))
  rw [Rat.intCast_neg]
  grind
def spOfT (C : Addr) : Sp := fun vs H Q _ => ∃ (p : Addr) (xs : List V) (ps : List (Int × Int)) (B : Nat), vs = [.ref C, .ref p] ∧ H p = some (.tup xs) ∧ GivenV H xs ps ∧ (∀ q ∈ ps, q.2 ≠ 0 ∧ q.1.natAbs ≤ 2 ^ B ∧ q.2.natAbs ≤ 2 ^ B) ∧ ps.length ≤ 40 ∧ (B + 9) * ps.length ≤ 320 ∧ B ≤ 320 ∧
  ∀ (x : Addr) (H' : Hp), Same H H' → BagM C H' x (pQ (ps.map linQ)) ((B + 9) * ps.length) → Q (.ref x) H'
def spOf (C : Addr) : Sp := fun vs H Q E => ∃ ws rest : List V, vs = ws ++ rest ∧ ws.length = (["cls"] : List Str).length ∧ rest.length ≤ sizeLine ∧ ∀ p, H p = none → spOfT C (ws ++ [V.ref p]) (upd H p (.tup rest)) Q E
section
variable {P : Program} {w : World} {K : PySem.W.Frag} {mg : Str → Option Value} {base : Heap}
abbrev ofN : List Str := ["cls", "numbers", "pairs", "found", "above", "below", "number"]
theorem sc_of : FnScope ofN ((["cls"] : List Str) ++ (["numbers"] : List Str)) (defScope c_Bag_of) := ⟨rfl, rfl, rfl, by decide +kernel, rfl, by decide +kernel, by decide +kernel⟩
theorem lin_sum : ∀ ps : List (Int × Int), ((ps.map linQ).map fun m => (m.length : Int) - 1).sum = ps.length
  | [] => rfl
  | p :: r => by
    rw [List.map_cons, List.map_cons, List.sum_cons, lin_sum r, List.length_cons]
    show ((2 : Nat) : Int) - 1 + _ = _
    omega
theorem ok_of {f C CN CP fK fI fR fP : Addr} {dK dI dR dP : FuncData} {oc kV doc pm ct cdv : Value} {od an : Option Addr} {osl : Array (Option Value)} (lk : K.lookup f = some ⟨oc, od, .func (PySem.W.fnOf "of" "Bag.of" (defArgs c_Bag_of) (defBody c_Bag_of) (defScope c_Bag_of) .none kV doc pm an cdv ct), osl⟩) (hcd : PySem.W.codeIn K cdv "Bag.of" = true)
    (T : TBag K mg C)
    (GR : FnOk P w K mg base (L2.CX P w) 5 fR dR ["value"] (spRatl CN)) (gR : mg "rational" = some (.ref fR)) (kR : PySem.W.keepIn K (.ref fR) = true) (bR : L2.Binds K dR ["value"] [])
    (GK : FnOk P w K mg base CX0 1 fK dK ["size"] spCheck) (gK : mg "check_size" = some (.ref fK)) (kK : PySem.W.keepIn K (.ref fK) = true) (bK : L2.Binds K dK ["size"] [])
    (GP : FnOk P w K mg base CX0 1 fP dP ["one", "other"] (spProd K)) (gP : mg "product" = some (.ref fP)) (kP : PySem.W.keepIn K (.ref fP) = true) (bP : L2.Binds K dP ["one", "other"] [])
    (M : Mk K C fI) (GI : FnOk P w K mg base (L2.CX P w) 6 fI dI ["self", "parts"] (spInitL K C CN CP)) (bI : L2.Binds K dI ["self", "parts"] []) : FnR P w K mg base CX0 8 f (spOf C) := by
  have nd := sc_of.nd
  refine StX.fn_star (ps := ["cls"]) (pv := "numbers") (k := 7) (N := ofN) (sp := spOfT C) lk hcd sc_of StX.cxUp_none (fun us rest hl => match us, rest, hl with | [_], [], _ => rfl | [_], _ :: _, _ => rfl) (fun A outer s H vs Q E hr h => ?_)
  obtain ⟨p, xs, ps, B, rfl, hp, hg, hps, hn, hB, hB2, q⟩ := h
  have hr1 : Room 1 _ := hr.mono (by decide : 1 ≤ 7)
  have hr5 : Room 5 _ := hr.mono (by decide : 5 ≤ 7)
  have PT : ∃ t, PSs (cxOf CX0 P w K mg base ofN "Bag.of" (defScope c_Bag_of) f cdv A outer s H E).nox (defBody c_Bag_of) t ∧ t { nx := fun _ H' => Q .non H', rt := Q } (L2.start ofN [.ref C, .ref p]) H := by
    refine ⟨_, pss_cons (ps_setLc (i := 2) (own := [("number", 6)]) (g := gName 6) (tt := tYes) (te := tCall (spRatl CN) [] (fun _ _ _ => False) (tCons (tVar 6) tNil)) (by rfl) nd rfl rfl (sw_true rfl rfl rfl (by decide +kernel)) (pi_tup (pv 1)) (blkOk_by (N := ofN) (sc := defScope c_Bag_of) (by decide +kernel)) (fun _ _ _ _ _ => pg_name (i := 6) nd rfl (.inl rfl) (hf := .inr rfl)) (fun _ _ _ _ _ => pts_nil) (fun _ _ _ _ _ => pe_call GR hr5 (by rfl) gR kR bR .nil passL (pa_cons (pv 6) pa_nil)))
      (pss_cons (ps_expr (pe_call GK hr1 (by rfl) gK kK bK .nil pass0 (pa_cons (pe_callB call_len (by rfl) T.len PySem.boot_len (pa_cons (pv 2) pa_nil)) pa_nil)))
      (pss_cons (ps_set (i := 3) nd rfl (.inl rfl) (pe_lst (pa_cons pe_int pa_nil)))
      (pss_cons (ps_for PassesOwn.never rfl (pi_list (pv 2)) (pg_tup (by rfl) (pgs_cons (pg_name (i := 4) nd rfl (.inl rfl)) (pgs_cons (pg_name (i := 5) nd rfl (.inl rfl)) pgs_nil))) (pss_one (ps_set (i := 3) nd rfl (.inl rfl) (pe_call GP hr1 (by rfl) gP kP bP .nil pass0 (pa_cons (pv 3) (pa_cons (pe_lst (pa_cons (pe_un un_neg (pv 4)) (pa_cons (pv 5) pa_nil))) pa_nil))))))
      (pss_one (ps_ret (pe_makeL (i := 0) M GI hr rfl (.inl rfl) bI passL (pa_cons (pv 3) pa_nil))))))), ?_⟩
    refine ⟨.ref p, rfl, p, rfl, ⟨_, .inl (.inl hp)⟩, fun D nD => ?_⟩
    refine lc_datsT (K := K) (xs := xs) ((ps.map lowP).map dp) (by rw [List.length_map, List.length_map, hg.1]) (by rw [List.length_map, List.length_map]; omega) (tupDs_map (fun _ => rfl) _) nD (fun H' s => .inl (.inl (s _ _ hp))) (fun i x d H' k e hx hd s1 hk => ?_) (fun H1 s1 hD => ?_)
    · rw [List.map_map, List.getElem?_map] at hd
      cases e2 : ps[i]? with
      | none => rw [e2] at hd; cases hd
      | some p0 =>
        rw [e2] at hd
        obtain rfl : dp (lowP p0) = d := Option.some.inj hd
        have h0 := hps p0 (List.mem_of_getElem? e2)
        refine ⟨rfl, yesI ?_⟩
        refine ⟨x, rfl, x, p0.1, p0.2, rfl, (hg.2 i x p0 hx e2).same s1, ?_, fun z => absurd z h0.1, fun _ u H2 s2 hu => hk _ _ s2 (.tup hu (by decide : 2 ≤ 100000) (.cons (.int _) (.cons (.int _) .nil)))⟩
        exact log2_lt (Nat.lt_of_le_of_lt h0.2.2 (Nat.pow_lt_pow_right (by decide) (by omega : B < 9000))) (by decide)
    obtain ⟨_, ys, e1, hD1, _, hA⟩ := at_lst hD
    cases e1
    have hyl : ys.length = ps.length := by rw [hA.length, List.length_map, List.length_map]
    have item := pair_get hA
    refine ⟨.ref D, rfl, _, _, rfl, .inl ⟨_, .inl (.inl hD1), rfl⟩, _, rfl, by rw [hyl]; omega, lineN (by decide : 1 ≤ 1000), fun l0 nl0 => ?_⟩
    have s2 := s1.trans (upd_new (o := .lst [.int 1]) nl0)
    have hs0 := upd_new (o := .lst [.int 1]) nl0
    have hD2 := hs0 _ _ hD1
    refine ⟨.ref D, rfl, D, rfl, ⟨_, .inl (.inl hD2)⟩, for_list (xs := ys) (fun i σ H' => ∃ (fl : Addr) (Fz : List Int) (c : Rat) (x4 x5 : Option V), σ = [some (.ref C), some (.ref p), some (.ref D), some (.ref fl), x4, x5, none] ∧ Same (upd H1 l0 (.lst [.int 1])) H' ∧ H' fl = some (.lst (Fz.map V.int)) ∧ c ≠ 0 ∧ (∀ x, ev (zq Fz) x = c * evs ((ps.map linQ).take i) x) ∧ (∀ z ∈ Fz, z.natAbs ≤ 2 ^ ((B + 9) * i)) ∧ Fz.length ≤ 1 + 2 * i) ⟨l0, [1], 1, none, none, rfl, Same.refl _, upd_same, by decide, fun x => ?_, fun z hz => ?_, by decide⟩ ?_ ?_ ?_⟩
    · show ev [((1 : Int) : Rat)] x = 1 * 1
      rw [show ((1 : Int) : Rat) = 1 from rfl, ev_one]
      grind
    · have : z = 1 := by simpa using hz
      rw [this]
      exact Nat.one_le_two_pow
    · rintro i σ H' _ ⟨_, _, _, _, _, _, s3, _⟩
      exact .inl (.inl (s3 _ _ hD2))
    · rintro i x σ H' hx ⟨fl, Fz, c, x4, x5, rfl, s3, hfl, c0, hev, hbd, hln⟩
      obtain ⟨r, t, er, rfl, ht⟩ := item i x hx
      have hin : i < ps.length := by
        have := (List.getElem?_eq_some_iff.mp hx).1
        omega
      have e2 : ps[i]? = some ps[i] := List.getElem?_eq_getElem hin
      have e3 : (ps.map linQ)[i]? = some (linQ ps[i]) := by rw [List.getElem?_map, e2]; rfl
      rw [List.getElem?_map, e2] at er
      obtain rfl : lowP ps[i] = r := Option.some.inj er
      have h0 := hps ps[i] (List.getElem_mem hin)
      obtain ⟨cm0, ecm⟩ := lowP_ev h0.1
      obtain ⟨b1, b2⟩ := low_le (n := ps[i].1) (d := ps[i].2) h0.1
      have ht3 := s3 _ _ (hs0 _ _ ht)
      refine ⟨t, _, rfl, .inl (.inl ht3), rfl, _, [_], rfl, _, [], rfl, rfl, ?_⟩
      refine ⟨.ref fl, rfl, _, rfl, _, rfl, _, rfl, lineN (by decide : 2 ≤ 1000), fun w0 nw0 => ?_⟩
      have s4 := upd_new (o := .lst [.int (-(lowP ps[i]).1), .int (lowP ps[i]).2]) nw0
      have hBi : (B + 9) * (i + 1) ≤ 320 := Nat.le_trans (Nat.mul_le_mul_left _ (by omega)) hB
      have e9 : (B + 9) * (i + 1) = (B + 9) * i + B + 9 := by rw [Nat.mul_add, Nat.mul_one]; omega
      refine ⟨.ref fl, .ref w0, Fz, [-(lowP ps[i]).1, (lowP ps[i]).2], (B + 9) * i, B, rfl, dz_at (s4 _ _ hfl) (by omega), dz_at upd_same (by decide : 2 ≤ 100000), by omega, (by decide : 2 ≤ 400), hbd, fun z hz => ?_, by omega, fun Pr u H4 s5 hu he hpl hpb => ?_⟩
      · have hz : z = -(lowP ps[i]).1 ∨ z = (lowP ps[i]).2 := by simpa using hz
        rcases hz with rfl | rfl
        · rw [Int.natAbs_neg]
          exact Nat.le_trans b1 h0.2.1
        · exact Nat.le_trans b2 h0.2.2
      obtain ⟨lu, rfl, hlu, _⟩ := at_dz hu
      have hpl : Pr.length ≤ Fz.length + 2 := hpl.1
      refine ⟨lu, Pr, c * ((lowP ps[i]).2 : Rat), _, _, rfl, s3.trans (s4.trans s5), hlu, fun z => ?_, fun x => ?_, fun z hz => Nat.le_trans (hpb z hz) ?_, by omega⟩
      · have : c = 0 ∨ ((lowP ps[i]).2 : Rat) = 0 := by grind
        exact this.elim c0 cm0
      · rw [he x, hev x, ecm x, List.take_add_one, e3]
        unfold evs
        rw [List.foldl_append]
        show _ = c * ((lowP ps[i]).2 : Rat) * (_ * ev (linQ ps[i]) x)
        generalize ((lowP ps[i]).2 : Rat) = cm
        grind
      · have ep : 2 ^ ((B + 9) * i + B + 9) = 2 ^ ((B + 9) * i + B) * 512 := by rw [Nat.pow_add]
        rw [e9, ep, Nat.mul_comm]
        exact Nat.mul_le_mul_left _ (by decide : 401 ≤ 512)
    · rintro σ H' ⟨fl, Fz, c, x4, x5, rfl, s3, hfl, c0, hev, hbd, hln⟩
      rw [hyl] at hev hbd hln
      have hmon : ∀ m ∈ ps.map linQ, Mon m := fun m hm => by
        obtain ⟨r, _, rfl⟩ := List.mem_map.mp hm
        exact lin_mon r
      rw [show (ps.map linQ).take ps.length = ps.map linQ by rw [← List.length_map (f := linQ) (as := ps), List.take_length]] at hev
      obtain ⟨mo, ln, pe⟩ := pq_ok hmon
      obtain ⟨t, y, et, y0, em⟩ := mon_of mo c0 (fun x => by rw [hev x, pe x])
      have tl : t.length ≤ 40 := by
        have := congrArg List.length em
        rw [List.length_map, List.length_append] at this
        rw [lin_sum] at ln
        simp at this
        omega
      refine ⟨rfl, .ref fl, rfl, ?_⟩
      exact make_L (K := K) (C := C) (CN := CN) (CP := CP) (E := fun _ _ _ => False) (Q := Q) hfl hbd (by omega) (by omega) tl et y0 (fun x H2 s4 nx hb => q x H2 ((s2.trans s3).trans s4) (em ▸ hb))
  obtain ⟨t, h1, h2⟩ := PT
  exact ⟨t, h1.nox, h2⟩
end
end RB

set_option Elab.async false
set_option linter.all false
set_option maxRecDepth 100000
set_option maxHeartbeats 4000000
namespace RB
open PySem PySem.Spec PyProof.Rows L2 SX
def far : Int := 10000000000000000000000000000000000000000
theorem far_log {z : Int} (h : z.natAbs ≤ far.natAbs) : z.natAbs.log2 < 140 := log2_lt (Nat.lt_of_le_of_lt h (by decide +kernel)) (by decide)
theorem ints_get0 {zs : List Int} {i : Nat} {x : V} (h : (zs.map V.int)[i]? = some x) : ∃ z, zs[i]? = some z ∧ x = .int z := by
  rw [List.getElem?_map] at h
  cases e : zs[i]? with
  | none => rw [e] at h; cases h
  | some z =>
    rw [e] at h
    exact ⟨z, rfl, (Option.some.inj h).symm⟩
def spInvB : Sp := fun vs H Q _ => ∃ a m : Int, vs = [.int a, .int m] ∧ 1 ≤ m ∧ m ≤ far ∧ ∀ v : Int, 0 ≤ v → v < m → (a % m = 1 → v = 1) → Q (.int v) H
/-- the state of inverse_by -/
structure InvAt (a m h l f g : Int) : Prop where
  l0 : 0 ≤ l
  h1 : 1 ≤ h
  hm : h ≤ m
  lm : l < h
  bd : ∃ U V : Int, f.natAbs ≤ U ∧ g.natAbs ≤ V ∧ V * h + U * l = m
  one : a % m = 1 → (l = 1 ∧ g = 1) ∨ (l = 0 ∧ f = 1)
theorem InvAt.g_le {a m h l f g : Int} (i : InvAt a m h l f g) : g.natAbs ≤ m.natAbs := by
  obtain ⟨U, V, hU, hV, e⟩ := i.bd
  have h1 := i.h1
  have l0 := i.l0
  have u0 : 0 ≤ U * l := Int.mul_nonneg (by omega) l0
  have v0 : V * 1 ≤ V * h := Int.mul_le_mul_of_nonneg_left h1 (by omega)
  omega
theorem InvAt.f_le {a m h l f g : Int} (i : InvAt a m h l f g) (hl : l ≠ 0) : f.natAbs ≤ m.natAbs := by
  obtain ⟨U, V, hU, hV, e⟩ := i.bd
  have h1 := i.h1
  have l0 := i.l0
  have u0 : U * 1 ≤ U * l := Int.mul_le_mul_of_nonneg_left (by omega) (by omega)
  have v0 : 0 ≤ V * h := Int.mul_nonneg (by omega) (by omega)
  omega
theorem InvAt.step {a m h l f g : Int} (i : InvAt a m h l f g) (hl : l ≠ 0) : InvAt a m l (h - h / l * l) g (f - h / l * g) := by
  obtain ⟨U, V, hU, hV, e⟩ := i.bd
  have h1 := i.h1
  have l0 := i.l0
  have lm := i.lm
  have hm := i.hm
  have em : h - h / l * l = h % l := by
    have := Int.mul_ediv_add_emod h l
    rw [Int.mul_comm] at this
    omega
  have r0 := Int.emod_nonneg h hl
  have r1 := Int.emod_lt_of_pos h (by omega : 0 < l)
  have t0 : 0 ≤ h / l := Int.ediv_nonneg (by omega) (by omega)
  refine ⟨by omega, by omega, by omega, by omega, ⟨V, U + h / l * V, hV, ?_, ?_⟩, fun z => ?_⟩
  · have h5 : (h / l * g).natAbs = (h / l).natAbs * g.natAbs := Int.natAbs_mul _ _
    have h6 : ((h / l).natAbs : Int) * (g.natAbs : Int) ≤ h / l * V := by
      rw [show (((h / l).natAbs : Nat) : Int) = h / l by omega]
      exact Int.mul_le_mul_of_nonneg_left hV t0
    have h7 : ((h / l * g).natAbs : Int) = ((h / l).natAbs : Int) * (g.natAbs : Int) := by rw [h5, Int.natCast_mul]
    omega
  · have : (U + h / l * V) * l + V * (h - h / l * l) = V * h + U * l := by
      generalize h / l = t
      grind
    rw [this]
    exact e
  · rcases i.one z with ⟨z1, z2⟩ | ⟨z1, _⟩
    · subst z1
      right
      refine ⟨by rw [Int.ediv_one]; omega, z2⟩
    · exact absurd z1 hl
section
variable {P : Program} {w : World} {K : PySem.W.Frag} {mg : Str → Option Value} {base : Heap}
abbrev invN : List Str := ["number", "modulus", "high", "low", "found", "following", "times"]
theorem sc_invB : FnScope invN ["number", "modulus"] (defScope s_inverse_by) := ⟨rfl, rfl, rfl, by decide +kernel, rfl, by decide +kernel, by decide +kernel⟩
theorem ok_invB {f : Addr} {fd : FuncData} {k : Nat} (F : L2.Fun K "inverse_by" "inverse_by" s_inverse_by f fd) : FnOk P w K mg base CX0 (k + 1) f fd ["number", "modulus"] spInvB := by
  have nd := sc_invB.nd
  refine F.ok sc_invB (fun vs H Q E h => ?_) (fun cdv A outer s H vs Q E hr h => ?_)
  · obtain ⟨a, m, rfl, _⟩ := h
    rfl
  · obtain ⟨a, m, rfl, m1, m2, q⟩ := h
    refine ⟨_, pss_cons (ps_set (i := 2) nd rfl (.inl rfl) (pv 1))
      (pss_cons (ps_set (i := 3) nd rfl (.inl rfl) (pe_op op_mod (pv 0) (pv 1)))
      (pss_cons (ps_set (i := 4) nd rfl (.inl rfl) pe_int)
      (pss_cons (ps_set (i := 5) nd rfl (.inl rfl) pe_int)
      (pss_cons (ps_while PassesOwn.never (pt_cmpR op_ne (pv 3) pe_int (nomark _))
        (pss_cons (ps_set (i := 6) nd rfl (.inl rfl) (pe_op op_fdivW (pv 2) (pv 3)))
        (pss_cons (ps_par (i := 2) (j := 3) (by rfl) nd rfl rfl (by decide) rfl rfl (pa_cons (pv 3) (pa_cons (pe_op op_sub (pv 2) (pe_op op_mulW (pv 6) (pv 3))) pa_nil)) (by rfl))
        (pss_one (ps_par (i := 4) (j := 5) (by rfl) nd rfl rfl (by decide) rfl rfl (pa_cons (pv 5) (pa_cons (pe_op op_sub (pv 4) (pe_op op_mulW (pv 6) (pv 5))) pa_nil)) (by rfl))))))
      (pss_one (ps_ret (pe_op op_mod (pv 4) (pv 1)))))))), ?_⟩
    refine ⟨.int m, rfl, .int a, rfl, .int m, rfl, a, m, rfl, rfl, by show (0 : Int) < m; omega, ?_⟩
    have mf : m.natAbs ≤ far.natAbs := by
      have : (0 : Int) ≤ far := by decide
      omega
    refine while_by (fun σ H' => ∃ (h l f g : Int) (x6 : Option V), σ = [some (.int a), some (.int m), some (.int h), some (.int l), some (.int f), some (.int g), x6] ∧ InvAt a m h l f g ∧ H = H') (fun σ _ => match σ with | [_, _, _, some (.int l), _, _, _] => l.toNat | _ => 0) ⟨m, a % m, 0, 1, none, rfl, ?_, rfl⟩ ?_ ?_
    · have r0 := Int.emod_nonneg a (by omega : m ≠ 0)
      have r1 := Int.emod_lt_of_pos a (by omega : 0 < m)
      exact ⟨r0, m1, Int.le_refl _, r1, ⟨0, 1, by decide, by decide, by omega⟩, fun z => .inl ⟨z, rfl⟩⟩
    · rintro σ H' ⟨h, l, f, g, x6, rfl, i, rfl⟩
      refine ⟨.int l, rfl, rfl, _, rfl, ?_⟩
      by_cases c : l = 0
      · subst c
        refine iteF ⟨.int f, rfl, .int m, rfl, f, m, rfl, rfl, by show (0 : Int) < m; omega, q _ (Int.emod_nonneg _ (by omega)) (Int.emod_lt_of_pos _ (by omega)) fun z => ?_⟩
        rcases i.one z with ⟨z1, _⟩ | ⟨_, z2⟩
        · exact absurd z1 (by decide)
        · rw [z2]
          have : m ≠ 1 := fun e => by
            rw [e, Int.emod_one] at z
            exact absurd z (by decide)
          exact Int.emod_eq_of_lt (by decide) (by omega)
      · have cc : (!decide (V.int l = V.int 0)) = true := by simp [c]
        rw [cc]
        refine iteT ?_
        have i2 := i.step c
        have gl := far_log (Nat.le_trans i.g_le mf)
        have fl := far_log (Nat.le_trans (i.f_le c) mf)
        have l0 := i.l0
        have lm := i.lm
        have hm := i.hm
        have ll := far_log (z := l) (Nat.le_trans (by omega) mf)
        have t0 : 0 ≤ h / l := Int.ediv_nonneg (by omega) (by omega)
        have t1 : h / l ≤ h := Int.ediv_le_self _ (by omega)
        have tl := far_log (z := h / l) (Nat.le_trans (by omega) mf)
        refine ⟨.int h, rfl, .int l, rfl, h, l, rfl, rfl, ⟨by omega, by omega⟩, ?_⟩
        refine ⟨.int l, rfl, .int h, rfl, .int _, rfl, .int l, rfl, _, l, rfl, rfl, by unfold CMulW; omega, h, _, rfl, rfl, _, _, rfl, ?_⟩
        refine ⟨.int g, rfl, .int f, rfl, .int _, rfl, .int g, rfl, _, g, rfl, rfl, by unfold CMulW; omega, f, _, rfl, rfl, _, _, rfl, ⟨_, _, _, _, _, rfl, i2, rfl⟩, ?_⟩
        have := i2.lm
        have := i2.l0
        show (h - h / l * l).toNat < l.toNat
        omega
    · rintro σ H' Q1 Q2 imp ⟨v, hv, hs, k, hk, q1⟩
      exact ⟨v, hv, hs, k, hk, imp _ _ q1⟩
end
end RB

set_option Elab.async false
set_option linter.all false
set_option maxRecDepth 100000
set_option maxHeartbeats 4000000
namespace RB
open PySem PySem.Spec PyProof.Rows L2 SX
/-- rest_by, a divisor of two numbers, the last one 1 -/
def restV (d m : Int) : List Int → Int
  | [x] => x % m
  | x :: y :: _ => (x - y % m * d) % m
  | [] => 0
def spRest (K : PySem.W.Frag) : Sp := fun vs H Q _ => ∃ (v u : V) (N : List Int) (d m : Int), vs = [v, u, .int m] ∧ At K H v (dz N) ∧ At K H u (dz [d, 1]) ∧ (N.length = 1 ∨ N.length = 2) ∧ 1 ≤ m ∧ m ≤ far ∧ d.natAbs ≤ far.natAbs ∧
  ∀ p H', Same H H' → H' p = some (.lst [.int (restV d m N)]) → Q (.ref p) H'
section
variable {P : Program} {w : World} {K : PySem.W.Frag} {mg : Str → Option Value} {base : Heap}
abbrev restN : List Str := ["numbers", "divisor", "modulus", "size", "rest", "at", "top", "place", "number"]
theorem sc_rest : FnScope restN ["numbers", "divisor", "modulus"] (defScope s_rest_by) := ⟨rfl, rfl, rfl, by decide +kernel, rfl, by decide +kernel, by decide +kernel⟩
theorem ok_rest {f : Addr} {fd : FuncData} {k : Nat} (F : L2.Fun K "rest_by" "rest_by" s_rest_by f fd) (mlen : mg "len" = none) (mrange : mg "range" = none) (mlist : mg "list" = none) : FnOk P w K mg base CX0 (k + 1) f fd ["numbers", "divisor", "modulus"] (spRest K) := by
  have nd := sc_rest.nd
  refine F.ok sc_rest (fun vs H Q E h => ?_) (fun cdv A outer s H vs Q E hr h => ?_)
  · obtain ⟨v, u, N, d, m, rfl, _⟩ := h
    rfl
  · obtain ⟨v, u, N, d, m, rfl, hv, hu, hN, m1, m2, hd, q⟩ := h
    refine ⟨_, pss_cons (ps_set (i := 3) nd rfl (.inl rfl) (pe_op op_sub (pe_callB call_len (by rfl) mlen PySem.boot_len (pa_cons (pv 1) pa_nil)) pe_int))
      (pss_cons (ps_set (i := 4) nd rfl (.inl rfl) (pe_callTy call_list_of (by rfl) mlist (by decide +kernel) (pa_cons (pv 0) pa_nil)))
      (C8.pss_cut (ps_for PassesOwn.never rfl (pi_range3 (by rfl) mrange (pa_cons (pe_op op_sub (pe_op op_sub (pe_callB call_len (by rfl) mlen PySem.boot_len (pa_cons (pv 0) pa_nil)) (pv 3)) pe_int) (pa_cons (pe_un un_neg pe_int) (pa_cons (pe_un un_neg pe_int) pa_nil)))) (pg_name (i := 5) nd rfl (.inl rfl))
        (pss_cons (ps_set (i := 6) nd rfl (.inl rfl) (pe_op op_mod (pe_ix ix_list (pv 4) (pe_op op_add (pv 5) (pv 3)) (fun _ _ => rfl)) (pv 2)))
        (pss_one (ps_for PassesOwn.never rfl (pi_range1 (by rfl) mrange (pa_cons (pv 3) pa_nil)) (pg_name (i := 7) nd rfl (.inl rfl))
          (pss_one (ps_asg (pe_op op_sub (pe_ix ix_list (pv 4) (pe_op op_add (pv 5) (pv 7)) (fun _ _ => rfl)) (pe_op op_mulW (pv 6) (pe_ix ix_list (pv 1) (pv 7) (fun _ _ => rfl)))) (pg_sub (pv 4) (pe_op op_add (pv 5) (pv 7)) set_list)))))))
      (pss_one (ps_ret (pe_lc (own := [("number", 8)]) (g := gName 8) (tt := tYes) (by rfl) nd (pi_list (pe_slice sl_list (pv 4) po_none (po_some (pv 3)))) (blkOk_by (N := restN) (sc := defScope s_rest_by) (by decide +kernel)) (fun _ _ _ _ _ => pg_name (i := 8) nd rfl (.inl rfl) (hf := .inr rfl)) (fun _ _ _ _ _ => pts_nil) (fun _ _ _ _ _ => pe_op op_mod (pv 8) (pv 2))))))), ?_⟩
    obtain ⟨pa, rfl, hpa, _⟩ := at_dz hv
    obtain ⟨pb, rfl, hpb, _⟩ := at_dz hu
    have lenV : ∀ {H' : Hp} {p : Addr} {l : List Int}, H' p = some (.lst (l.map V.int)) → LenV K (.ref p) H' l.length := fun h => .inl ⟨_, .inl (.inl h), by rw [List.length_map]⟩
    refine ⟨.ref pb, rfl, _, _, rfl, lenV hpb, _, 1, rfl, rfl, ?_⟩
    refine ⟨.ref pa, rfl, pa, _, rfl, .inl (.inl (.inl hpa)), fun r nr => ?_⟩
    have s1 := upd_new (o := .lst (N.map V.int)) nr
    refine ⟨fun σ' H' => ∃ (z : Int) (zs : List Int) (x5 x6 x7 : Option V), σ' = [some (.ref pa), some (.ref pb), some (.int m), some (.int 1), some (.ref r), x5, x6, x7, none] ∧ Same H H' ∧ H' r = some (.lst ((z :: zs).map V.int)) ∧ z % m = restV d m N, ?_, ?_⟩
    · refine ⟨.ref pa, rfl, _, _, rfl, lenV (s1 _ _ hpa), .int 1, rfl, _, 1, rfl, rfl, _, 1, rfl, rfl, 1, rfl, 1, rfl, _, -1, -1, N.length - 1, rfl, ?_, ?_⟩
      · have := RgC.neg (i := (N.length : Int) - 1 - 1) (j := -1) (by omega) (by omega) (by decide) (by decide)
        rw [show ((N.length : Int) - 1 - 1 - -1).toNat = N.length - 1 by omega] at this
        exact this
      · match N, hN with
        | [x], _ =>
          refine for_rangeC (lo := -1) (c := -1) (n := 0) (fun i σ H' => σ = [some (.ref pa), some (.ref pb), some (.int m), some (.int 1), some (.ref r), none, none, none, none] ∧ H' = upd H r (.lst [.int x])) ⟨rfl, rfl⟩ (fun i σ H' hi _ => absurd hi (Nat.not_lt_zero _)) ?_
          rintro σ H' ⟨rfl, rfl⟩
          exact ⟨x, [], _, _, _, rfl, s1, upd_same, rfl⟩
        | [x, y], _ =>
          refine for_rangeC (lo := 0) (c := -1) (n := 1) (fun i σ H' => (i = 0 ∧ σ = [some (.ref pa), some (.ref pb), some (.int m), some (.int 1), some (.ref r), none, none, none, none] ∧ H' = upd H r (.lst [.int x, .int y])) ∨ (i = 1 ∧ ∃ x5 x6 x7 : Option V, σ = [some (.ref pa), some (.ref pb), some (.int m), some (.int 1), some (.ref r), x5, x6, x7, none] ∧ Same H H' ∧ H' r = some (.lst [.int (x - y % m * d), .int y]))) (.inl ⟨rfl, rfl, rfl⟩) ?_ ?_
          · rintro i σ H' hi (⟨rfl, rfl, rfl⟩ | ⟨rfl, _⟩)
            case inr => exact absurd hi (Nat.lt_irrefl _)
            have r0 := Int.emod_nonneg y (by omega : m ≠ 0)
            have r1 := Int.emod_lt_of_pos y (by omega : 0 < m)
            have f0 : (0 : Int) ≤ far := by decide
            have lt := far_log (z := y % m) (by omega)
            have ld := far_log hd
            refine ⟨.ref r, rfl, .int _, rfl, .int 1, rfl, _, 1, rfl, rfl, r, _, 1, .int y, rfl, rfl, .inl (.inl upd_same), atI_nat (j := 1) rfl, .int m, rfl, y, m, rfl, rfl, by show (0 : Int) < m; omega, ?_⟩
            refine ⟨.int 1, rfl, 1, rfl, by decide, by decide, for_range (n := 1) (fun i σ H' => (i = 0 ∧ ∃ x7, σ = [some (.ref pa), some (.ref pb), some (.int m), some (.int 1), some (.ref r), some (.int 0), some (.int (y % m)), x7, none] ∧ H' = upd H r (.lst [.int x, .int y])) ∨ (i = 1 ∧ ∃ x5 x6 x7 : Option V, σ = [some (.ref pa), some (.ref pb), some (.int m), some (.int 1), some (.ref r), x5, x6, x7, none] ∧ Same H H' ∧ H' r = some (.lst [.int (x - y % m * d), .int y]))) (.inl ⟨rfl, _, rfl, rfl⟩) ?_ ?_⟩
            · rintro i σ H' hi (⟨rfl, x7, rfl, rfl⟩ | ⟨rfl, _⟩)
              case inr => exact absurd hi (Nat.lt_irrefl _)
              refine ⟨.ref r, rfl, .int 0, rfl, .int _, rfl, _, _, rfl, rfl, r, _, 0, .int x, rfl, rfl, .inl (.inl upd_same), atI_nat (j := 0) rfl, ?_⟩
              refine ⟨.int _, rfl, .ref pb, rfl, .int _, rfl, pb, _, 0, .int d, rfl, rfl, .inl (.inl (s1 _ _ hpb)), atI_nat (j := 0) rfl, _, d, rfl, rfl, by unfold CMulW; omega, x, _, rfl, rfl, ?_⟩
              refine ⟨.ref r, rfl, .int 0, rfl, .int _, rfl, _, _, rfl, rfl, r, _, 0, 0, rfl, rfl, upd_same, rfl, .inr ⟨rfl, _, _, _, rfl, fun b o eb => ?_, upd_same⟩⟩
              rw [upd_ne (ne_of_none eb nr)]
              exact s1 _ _ eb
            · rintro σ H' (⟨z, _⟩ | ⟨_, x5, x6, x7, rfl, s2, h2⟩)
              · exact absurd z (by decide)
              · exact .inr ⟨rfl, _, _, _, rfl, s2, h2⟩
          · rintro σ H' (⟨z, _⟩ | ⟨_, x5, x6, x7, rfl, s2, h2⟩)
            · exact absurd z (by decide)
            · exact ⟨x - y % m * d, [y], _, _, _, rfl, s2, h2, rfl⟩
    · rintro σ' H1 ⟨z, zs, x5, x6, x7, rfl, s2, h2, ez⟩
      refine ⟨.ref r, rfl, .int 1, rfl, 1, rfl, r, _, rfl, .inl (.inl h2), fun p np => ?_⟩
      have ec : cutV ((z :: zs).map V.int) none (some ((1 : Nat) : Int)) = [V.int z] := by
        rw [cut_to (by rw [List.length_map]; exact Nat.succ_pos _)]
        rfl
      have ec : cutV ((z :: zs).map V.int) none (some 1) = [V.int z] := ec
      rw [ec]
      have s3 := s2.trans (upd_new (o := .lst [.int z]) np)
      refine ⟨p, rfl, ⟨_, .inl (.inl upd_same)⟩, fun D nD => ?_⟩
      refine lc_dats (xs := [V.int z]) [Dat.int (z % m)] rfl (by simp) rfl nD (fun H' s => .inl (.inl (s _ _ upd_same))) (fun i x d' H' k e hx hd' s4 hk => ?_) (fun H2 s4 hD => ?_)
      · match i, hx, hd' with
        | 0, hx, hd' =>
          cases hx
          cases hd'
          refine ⟨rfl, yesI ⟨.int z, rfl, .int m, rfl, z, m, rfl, rfl, by show (0 : Int) < m; omega, hk _ _ (Same.refl _) (.int _)⟩⟩
        | _ + 1, hx, _ => simp at hx
      · obtain ⟨_, ys, e1, hD1, _, hA⟩ := at_lst hD
        cases e1
        have : ys = [V.int (z % m)] := atAll_ints (zs := [z % m]) hA
        rw [this, ez] at hD1
        exact q D H2 (s3.trans s4) hD1
end
/-- power_rest: a number, and 1 where the divisor is x - 1 -/
def spPow (K : PySem.W.Frag) : Sp := fun vs H Q _ => ∃ (u : V) (n d m : Int), vs = [.int n, u, .int m] ∧ At K H u (dz [d, 1]) ∧ 0 ≤ n ∧ n ≤ far ∧ 1 ≤ m ∧ m ≤ far ∧ 0 ≤ d ∧ d ≤ m ∧
  ∀ p H' e, Same H H' → H' p = some (.lst [.int e]) → 0 ≤ e → e ≤ m → (1 < m → d = m - 1 → e = 1) → Q (.ref p) H'
theorem prod_one {Pr : List Int} {e : Int} (he : ∀ x : Rat, ev (zq Pr) x = ev (zq [e]) x * ev (zq [e]) x) (hl : Pr.length + 1 = [e].length + [e].length) : Pr = [e * e] := by
  match Pr, hl with
  | [y], _ =>
    have := he 0
    have e1 : ((y : Int) : Rat) + 0 * 0 = ((e : Int) : Rat) + 0 * 0 → True := fun _ => trivial
    have h1 : ev (zq [y]) 0 = (y : Rat) := by
      show (y : Rat) + 0 * 0 = _
      grind
    have h2 : ev (zq [e]) 0 = (e : Rat) := by
      show (e : Rat) + 0 * 0 = _
      grind
    rw [h1, h2, ← Rat.intCast_mul] at this
    rw [Rat.intCast_inj.mp this]
section
variable {P : Program} {w : World} {K : PySem.W.Frag} {mg : Str → Option Value} {base : Heap}
abbrev powN : List Str := ["exponent", "divisor", "modulus", "found", "shift"]
theorem sc_pow : FnScope powN ["exponent", "divisor", "modulus"] (defScope s_power_rest) := ⟨rfl, rfl, rfl, by decide +kernel, rfl, by decide +kernel, by decide +kernel⟩
theorem ok_pow {f fR fP : Addr} {fd dR dP : FuncData} {k : Nat} (F : L2.Fun K "power_rest" "power_rest" s_power_rest f fd) (mrange : mg "range" = none)
    (GR : FnOk P w K mg base CX0 1 fR dR ["numbers", "divisor", "modulus"] (spRest K)) (gR : mg "rest_by" = some (.ref fR)) (kR : PySem.W.keepIn K (.ref fR) = true) (bR : L2.Binds K dR ["numbers", "divisor", "modulus"] [])
    (GP : FnOk P w K mg base CX0 1 fP dP ["one", "other"] (spProd K)) (gP : mg "product" = some (.ref fP)) (kP : PySem.W.keepIn K (.ref fP) = true) (bP : L2.Binds K dP ["one", "other"] []) : FnOk P w K mg base CX0 (k + 2) f fd ["exponent", "divisor", "modulus"] (spPow K) := by
  have nd := sc_pow.nd
  refine F.ok sc_pow (fun vs H Q E h => ?_) (fun cdv A outer s H vs Q E hr h => ?_)
  · obtain ⟨u, n, d, m, rfl, _⟩ := h
    rfl
  · obtain ⟨u, n, d, m, rfl, hu, n1, n2, m1, m2, d1, d2, q⟩ := h
    have hr1 : Room 1 _ := hr.mono (by omega)
    refine ⟨_, pss_cons (ps_set (i := 3) nd rfl (.inl rfl) (pe_lst (pa_cons pe_int pa_nil)))
      (pss_cons (ps_for PassesOwn.never rfl (pi_range3 (by rfl) mrange (pa_cons (pe_op op_sub (pe_bits (pv 0)) pe_int) (pa_cons (pe_un un_neg pe_int) (pa_cons (pe_un un_neg pe_int) pa_nil)))) (pg_name (i := 4) nd rfl (.inl rfl))
        (pss_cons (ps_set (i := 3) nd rfl (.inl rfl) (pe_call GR hr1 (by rfl) gR kR bR .nil pass0 (pa_cons (pe_call GP hr1 (by rfl) gP kP bP .nil pass0 (pa_cons (pv 3) (pa_cons (pv 3) pa_nil))) (pa_cons (pv 1) (pa_cons (pv 2) pa_nil)))))
        (pss_one (ps_if (pt_cmpR op_eq (pe_op op_odd (pe_op op_shrN (pv 0) (pv 4)) pe_int) pe_int (nomark _)) (pss_one (ps_set (i := 3) nd rfl (.inl rfl) (pe_call GR hr1 (by rfl) gR kR bR .nil pass0 (pa_cons (pe_op op_cat (pe_lst (pa_cons pe_int pa_nil)) (pv 3)) (pa_cons (pv 1) (pa_cons (pv 2) pa_nil)))))) pss_nil))))
      (pss_one (ps_ret (pv 3)))), ?_⟩
    obtain ⟨pb, rfl, hpb, _⟩ := at_dz hu
    have f0 : (0 : Int) ≤ far := by decide
    have df : d.natAbs ≤ far.natAbs := by omega
    refine ⟨lineN (by decide : 1 ≤ 1000), fun l0 nl0 => ?_⟩
    have bits : Builtin.Int.intBits n ≤ 200 := by
      have := far_log (z := n) (by omega)
      unfold Builtin.Int.intBits
      split <;> omega
    refine ⟨.int n, rfl, n, rfl, _, 1, rfl, rfl, 1, rfl, 1, rfl, _, -1, -1, Builtin.Int.intBits n, rfl, ?_, ?_⟩
    · have := RgC.neg (i := (Builtin.Int.intBits n : Int) - 1) (j := -1) (by omega) (by omega) (by decide) (by decide)
      rw [show ((Builtin.Int.intBits n : Int) - 1 - -1).toNat = Builtin.Int.intBits n by omega] at this
      exact this
    · generalize Builtin.Int.intBits n = L at *
      refine for_rangeC (lo := (L : Int) - 1) (c := -1) (n := L) (fun i σ H' => ∃ (l : Addr) (e : Int) (x4 : Option V), σ = [some (.int n), some (.ref pb), some (.int m), some (.ref l), x4] ∧ Same H H' ∧ H' l = some (.lst [.int e]) ∧ 0 ≤ e ∧ e ≤ m ∧ (1 < m → d = m - 1 → e = 1)) ⟨l0, 1, none, rfl, upd_new nl0, upd_same, by decide, m1, fun _ _ => rfl⟩ ?_ ?_
      · rintro i σ H1 hi ⟨l, e, x4, rfl, s1, hl, e0, e1, e2⟩
        have be : e.natAbs ≤ 2 ^ 140 := Nat.le_trans (by omega : e.natAbs ≤ far.natAbs) (by decide +kernel)
        have hle : At K H1 (.ref l) (dz [e]) := dz_at hl (by simp)
        refine ⟨.ref l, rfl, .ref l, rfl, .ref l, .ref l, [e], [e], 140, 140, rfl, hle, hle, by simp, by simp, fun z hz => by rw [List.mem_singleton.mp hz]; exact be, fun z hz => by rw [List.mem_singleton.mp hz]; exact be, by decide, fun Pr u2 H2 s2 hu2 he hpl _ => ?_⟩
        obtain rfl := prod_one he (hpl.2 (by simp) (by simp))
        refine ⟨.ref pb, rfl, .int m, rfl, u2, .ref pb, [e * e], d, m, rfl, hu2, hu.same (s1.trans s2), .inl rfl, m1, m2, df, fun p H3 s3 hp => ?_⟩
        have v0 : 0 ≤ restV d m [e * e] := Int.emod_nonneg _ (by omega)
        have v1 : restV d m [e * e] < m := Int.emod_lt_of_pos _ (by omega)
        have v2 : 1 < m → d = m - 1 → restV d m [e * e] = 1 := fun h1 h2 => by
          rw [e2 h1 h2]
          exact Int.emod_eq_of_lt (by decide) h1
        have s13 := (s1.trans s2).trans s3
        have es : (L : Int) - 1 + (i : Nat) * -1 = ((L - 1 - i : Nat) : Int) := by omega
        obtain ⟨N, rfl⟩ : ∃ N : Nat, n = (N : Int) := ⟨n.toNat, by omega⟩
        refine ⟨.int N, rfl, .int _, rfl, N, L - 1 - i, rfl, by rw [es], N / 2 ^ (L - 1 - i), ?_, rfl, rfl, _, rfl, ite2 (fun c => ?_) (fun c => ?_)⟩
        · rw [Int.natCast_ediv, Int.natCast_pow]
          rfl
        · refine ⟨lineN (by decide : 1 ≤ 1000), fun l5 nl5 => ⟨.ref p, rfl, l5, p, _, _, rfl, rfl, upd_same, upd_new nl5 _ _ hp, lineN (by decide : 2 ≤ 1000), fun p6 np6 => ?_⟩⟩
          have s6 := (upd_new (o := .lst [.int 0]) nl5).trans (upd_new (o := .lst ([.int 0] ++ [.int (restV d m [e * e])])) np6)
          refine ⟨.ref pb, rfl, .int m, rfl, .ref p6, .ref pb, [0, restV d m [e * e]], d, m, rfl, dz_at upd_same (by simp), hu.same (s13.trans s6), .inr rfl, m1, m2, df, fun p7 H7 s7 hp7 => ?_⟩
          refine ⟨p7, _, _, rfl, (s13.trans s6).trans s7, hp7, Int.emod_nonneg _ (by omega), Int.le_of_lt (Int.emod_lt_of_pos _ (by omega)), fun h1 h2 => ?_⟩
          show (0 - restV d m [e * e] % m * d) % m = 1
          rw [v2 h1 h2, h2, Int.emod_eq_of_lt (by decide) h1]
          have : (0 - 1 * (m - 1)) = 1 - m * 1 := by omega
          rw [this, Int.sub_mul_emod_self_left]
          exact Int.emod_eq_of_lt (by decide) h1
        · exact ⟨p, _, _, rfl, s13, hp, v0, Int.le_of_lt v1, v2⟩
      · rintro σ H1 ⟨l, e, x4, rfl, s1, hl, e0, e1, e2⟩
        exact ⟨.ref l, rfl, q l H1 e s1 hl e0 e1 e2⟩
end
end RB

set_option Elab.async false
set_option linter.all false
set_option maxRecDepth 100000
set_option maxHeartbeats 4000000
namespace RB
open PySem PySem.Spec PyProof.Rows L2 SX
/-- term_by of a bag of one number -/
def spTerm (K : PySem.W.Frag) : Sp := fun vs H Q _ => ∃ (v u : V) (w0 w1 z sc n m : Int), vs = [v, u, .int sc, .int n, .int m] ∧ At K H v (dz [w0, w1]) ∧ At K H u (dz [z]) ∧ w0.natAbs ≤ far.natAbs ∧ z.natAbs ≤ far.natAbs ∧ 0 ≤ n ∧ n ≤ far ∧ 1 ≤ m ∧ m ≤ far ∧
  ∀ (t : Int) H', Same H H' → 0 ≤ t → t < m → (1 < m → w0 = -1 → w1 = 1 → sc = 1 → t = z % m) → Q (.int t) H'
theorem cut_last {zs : List Int} {z : Int} : cutV ((zs ++ [z]).map V.int) none (some (-1)) = zs.map V.int := by
  unfold cutV
  rw [HT.sIx_none, List.drop_zero, Nat.sub_zero]
  have e : HT.sIx ((zs ++ [z]).map V.int).length ((zs ++ [z]).map V.int).length (some (-1)) = zs.length := by
    show (if (-1 : Int) < 0 then ((-1 : Int) + (((zs ++ [z]).map V.int).length : Int)).toNat else min (-1 : Int).toNat ((zs ++ [z]).map V.int).length) = zs.length
    rw [if_pos (by decide), List.length_map, List.length_append]
    simp only [List.length_cons, List.length_nil]
    omega
  rw [e, List.map_append, ← List.length_map (as := zs) V.int, List.take_left']
  rfl
section
variable {P : Program} {w : World} {K : PySem.W.Frag} {mg : Str → Option Value} {base : Heap}
abbrev termN : List Str := ["whole", "numbers", "scale", "place", "modulus", "factor", "divisor", "rest", "total", "number", "share"]
theorem sc_term : FnScope termN ["whole", "numbers", "scale", "place", "modulus"] (defScope s_term_by) := ⟨rfl, rfl, rfl, by decide +kernel, rfl, by decide +kernel, by decide +kernel⟩
theorem ok_term {f fI fP : Addr} {fd dI dP : FuncData} {k : Nat} (F : L2.Fun K "term_by" "term_by" s_term_by f fd) (msum : mg "sum" = none) (mzip : mg "zip" = none)
    (GI : FnOk P w K mg base CX0 1 fI dI ["number", "modulus"] spInvB) (gI : mg "inverse_by" = some (.ref fI)) (kI : PySem.W.keepIn K (.ref fI) = true) (bI : L2.Binds K dI ["number", "modulus"] [])
    (GP : FnOk P w K mg base CX0 2 fP dP ["exponent", "divisor", "modulus"] (spPow K)) (gP : mg "power_rest" = some (.ref fP)) (kP : PySem.W.keepIn K (.ref fP) = true) (bP : L2.Binds K dP ["exponent", "divisor", "modulus"] []) : FnOk P w K mg base CX0 (k + 3) f fd ["whole", "numbers", "scale", "place", "modulus"] (spTerm K) := by
  have nd := sc_term.nd
  refine F.ok sc_term (fun vs H Q E h => ?_) (fun cdv A outer s H vs Q E hr h => ?_)
  · obtain ⟨v, u, w0, w1, z, sc, n, m, rfl, _⟩ := h
    rfl
  · obtain ⟨v, u, w0, w1, z, sc, n, m, rfl, hv, hu, bw, bz, n1, n2, m1, m2, q⟩ := h
    have hr1 : Room 1 _ := hr.mono (by omega)
    have hr2 : Room 2 _ := hr.mono (by omega)
    refine ⟨_, pss_cons (ps_if (pt_cmpR (op_eqD hr.units) (pv 1) (pe_lst pa_nil) (nomark _)) (pss_one (ps_ret pe_int)) pss_nil)
      (pss_cons (ps_set (i := 5) nd rfl (.inr rfl) (pe_call GI hr1 (by rfl) gI kI bI .nil pass0 (pa_cons (pe_ix ix_list (pv 0) (pe_un un_neg pe_int) (fun _ _ => rfl)) (pa_cons (pv 4) pa_nil))))
      (pss_cons (ps_set (i := 6) nd rfl (.inl rfl) (pe_op op_cat (pe_lc (own := [("number", 9)]) (g := gName 9) (tt := tYes) (by rfl) nd (pi_list (pe_slice sl_list (pv 0) po_none (po_some (pe_un un_neg pe_int)))) (blkOk_by (N := termN) (sc := defScope s_term_by) (by decide +kernel)) (fun _ _ _ _ _ => pg_name (i := 9) nd rfl (.inl rfl) (hf := .inr rfl)) (fun _ _ _ _ _ => pts_nil) (fun _ _ _ _ _ => pe_op op_mod (pe_op op_mulW (pv 9) (pv 5)) (pv 4))) (pe_lst (pa_cons pe_int pa_nil))))
      (pss_cons (ps_set (i := 7) nd rfl (.inl rfl) (pe_call GP hr2 (by rfl) gP kP bP .nil pass0 (pa_cons (pv 3) (pa_cons (pv 6) (pa_cons (pv 4) pa_nil)))))
      (pss_cons (ps_set (i := 8) nd rfl (.inl rfl) (pe_callB (cr_sum rfl) (by rfl) msum (by decide +kernel) (pa_cons (pe_lc (own := [("share", 10), ("number", 9)]) (g := gTup K 2 (gCons (gName 10) (gCons (gName 9) gNil))) (tt := tYes) (by rfl) nd (RZ.pi_zipA (by rfl) mzip (pa_cons (pv 7) (pa_cons (pv 1) pa_nil))) (blkOk_by (N := termN) (sc := defScope s_term_by) (by decide +kernel)) (fun _ _ _ _ _ => pg_tup (by rfl) (pgs_cons (pg_name (i := 10) nd rfl (.inl rfl) (hf := .inr rfl)) (pgs_cons (pg_name (i := 9) nd rfl (.inl rfl) (hf := .inr rfl)) pgs_nil))) (fun _ _ _ _ _ => pts_nil) (fun _ _ _ _ _ => pe_op op_mulW (pv 10) (pv 9))) pa_nil)))
      (pss_one (ps_ret (pe_op op_mod (pe_op op_mulW (pv 8) (pe_call GI hr1 (by rfl) gI kI bI .nil pass0 (pa_cons (pv 2) (pa_cons (pv 4) pa_nil)))) (pv 4)))))))), ?_⟩
    obtain ⟨pa, rfl, hpa, _⟩ := at_dz hv
    obtain ⟨pb, rfl, hpb, _⟩ := at_dz hu
    have f0 : (0 : Int) ≤ far := by decide
    refine ⟨.ref pb, rfl, Nat.zero_le _, fun e1 n1' => ?_⟩
    have s1 := upd_new (o := .lst []) n1'
    refine eq_read (hu.same s1) (dz_at (zs := []) upd_same (Nat.zero_le _)) (num_dz _) (num_dz _) (Nat.le_trans (deep_dz _) (by decide)) (Nat.le_trans (deep_dz _) (by decide)) fun t ht => ⟨_, rfl, ?_⟩
    have t0 : t = false := by
      cases t with
      | false => rfl
      | true =>
        have := dz_inj (ht.mp rfl)
        simp at this
    subst t0
    refine iteF ⟨.ref pa, rfl, 1, rfl, pa, _, -1, .int w1, rfl, rfl, .inl (.inl (s1 _ _ hpa)), atI_last [V.int w0] (V.int w1), .int m, rfl, w1, m, rfl, m1, m2, fun fa fa0 fa1 fa2 => ?_⟩
    refine ⟨.ref pa, rfl, 1, rfl, _, rfl, pa, _, rfl, .inl (.inl (s1 _ _ hpa)), fun p np => ?_⟩
    have ec : cutV ([w0, w1].map V.int) none (some (-1)) = [V.int w0] := cut_last (zs := [w0]) (z := w1)
    rw [ec]
    have s2 := s1.trans (upd_new (o := .lst [.int w0]) np)
    have lw := far_log bw
    have lf := far_log (z := fa) (by omega)
    refine ⟨p, rfl, ⟨_, .inl (.inl upd_same)⟩, fun D nD => ?_⟩
    refine lc_dats (xs := [V.int w0]) [Dat.int (w0 * fa % m)] rfl (by simp) rfl nD (fun H' s => .inl (.inl (s _ _ upd_same))) (fun i x d' H' k e hx hd' s4 hk => ?_) (fun H2 s4 hD => ?_)
    · match i, hx, hd' with
      | 0, hx, hd' =>
        cases hx
        cases hd'
        refine ⟨rfl, yesI ⟨.int w0, rfl, .int fa, rfl, w0, fa, rfl, rfl, by unfold CMulW; omega, .int m, rfl, _, m, rfl, rfl, by show (0 : Int) < m; omega, hk _ _ (Same.refl _) (.int _)⟩⟩
      | _ + 1, hx, _ => simp at hx
    · obtain ⟨_, ys, ee, hD1, _, hA⟩ := at_lst hD
      cases ee
      obtain rfl : ys = [V.int (w0 * fa % m)] := atAll_ints (zs := [w0 * fa % m]) hA
      have s5 := s2.trans s4
      refine ⟨lineN (by decide : 1 ≤ 1000), fun l5 nl5 => ⟨D, l5, _, _, rfl, rfl, upd_new nl5 _ _ hD1, upd_same, lineN (by decide : 2 ≤ 1000), fun p6 np6 => ?_⟩⟩
      have s6 := s5.trans ((upd_new (o := .lst [.int 1]) nl5).trans (upd_new (o := .lst ([.int (w0 * fa % m)] ++ [.int 1])) np6))
      have d0 := Int.emod_nonneg (w0 * fa) (by omega : m ≠ 0)
      have d1 := Int.emod_lt_of_pos (w0 * fa) (by omega : 0 < m)
      refine ⟨.int n, rfl, .ref p6, rfl, .int m, rfl, .ref p6, n, w0 * fa % m, m, rfl, dz_at (zs := [w0 * fa % m, 1]) upd_same (by simp), n1, n2, m1, m2, d0, Int.le_of_lt d1, fun p7 H7 e s7 hp7 e0 e1' e2 => ?_⟩
      have s8 := s6.trans s7
      have le := far_log (z := e) (by omega)
      have lz := far_log bz
      refine ⟨.ref p7, rfl, .ref pb, rfl, p7, pb, _, _, rfl, .inl ⟨.inl (.inl hp7), .inl (.inl (s8 _ _ hpb)), fun D2 nD2 => ?_⟩⟩
      refine lc_zips (xs := [V.int e]) (ys := [V.int z]) [Dat.int (e * z)] rfl rfl (by simp) rfl nD2 hp7 (s8 _ _ hpb) (fun i x y d' T H' k e' hx hy hd' s9 nT hk => ?_) (fun H9 s9 hD2 => ?_)
      · match i, hx, hy, hd' with
        | 0, hx, hy, hd' =>
          cases hx
          cases hy
          cases hd'
          refine ⟨T, _, rfl, .inl (.inl upd_same), rfl, _, [_], rfl, _, [], rfl, rfl, rfl, yesI ⟨.int e, rfl, .int z, rfl, e, z, rfl, rfl, by unfold CMulW; omega, hk _ _ (Same.refl _) (.int _)⟩⟩
        | _ + 1, hx, _, _ => simp at hx
      · obtain ⟨_, ys, ee, hD3, _, hA3⟩ := at_lst hD2
        cases ee
        obtain rfl : ys = [V.int (e * z)] := atAll_ints (zs := [e * z]) hA3
        refine ⟨D2, [e * z], rfl, .inl (.inl hD3), ?_⟩
        have es : [e * z].sum = e * z := by simp
        rw [es]
        have lez : (e * z).natAbs.log2 < 300 := by
          refine log2_lt (Nat.lt_of_le_of_lt (m := far.natAbs * far.natAbs) ?_ (by decide +kernel)) (by decide)
          rw [Int.natAbs_mul]
          exact Nat.mul_le_mul (by omega) bz
        refine ⟨.int _, rfl, .int sc, rfl, .int m, rfl, sc, m, rfl, m1, m2, fun g g0 g1 g2 => ?_⟩
        have lg := far_log (z := g) (by omega)
        refine ⟨_, g, rfl, rfl, by unfold CMulW; omega, .int m, rfl, _, m, rfl, rfl, by show (0 : Int) < m; omega, q _ H9 (s8.trans s9) (Int.emod_nonneg _ (by omega)) (Int.emod_lt_of_pos _ (by omega)) fun h1 h2 h3 h4 => ?_⟩
        have o1 : (1 : Int) % m = 1 := Int.emod_eq_of_lt (by decide) h1
        have ef : fa = 1 := fa2 (by rw [h3]; exact o1)
        have eg : g = 1 := g2 (by rw [h4]; exact o1)
        have ee : e = 1 := e2 h1 (by
          rw [ef, h2]
          show (-1 * 1) % m = m - 1
          have : (-1 * 1 : Int) = (m - 1) - m * 1 := by omega
          rw [this, Int.sub_mul_emod_self_left]
          exact Int.emod_eq_of_lt (by omega) (by omega))
        rw [ee, eg]
        congr 1
        omega
end
end RB

set_option Elab.async false
set_option linter.all false
set_option maxRecDepth 100000
set_option maxHeartbeats 4000000
namespace RB
open PySem PySem.Spec PyProof.Rows L2 SX
def spScaleT (K : PySem.W.Frag) : Sp := fun vs H Q _ => ∃ (a : Addr) (xs : List V) (ps : List (Int × Int)) (M : Nat), vs = [.ref a] ∧ H a = some (.tup xs) ∧ GivenV H xs ps ∧ ps.length ≤ 1000 ∧ (∀ p ∈ ps, p.2 ≠ 0) ∧ Sized M ps ∧
  ∀ u l H', Same H H' → H' u = some (.tup [.ref l, .int (scaleOf ps)]) → At K H' (.ref l) (dz (wholeZ ps)) → Q (.ref u) H'
/-- the error's own dict is new -/
def Bad1 (C : Addr) (code fld : Str) (v : V) (H : Hp) (E : XK) : Prop := ∀ d, H d = none → E (.ref C) (some d) (upd H d (.xd [(fld, v), ("code", .str code)]))
def spPlaceX (C : Addr) : Sp := fun vs H Q E => ∃ n m : Int, vs = [.int n, .int m] ∧ (¬ (0 ≤ n ∧ n ≤ m) → Bad1 C "InvalidPlace" "place" (.int n) H E) ∧ (0 ≤ n ∧ n ≤ m → Q .non H)
/-- a row: its bag, its numbers, its scale -/
def RowAt (R : Addr) (H : Hp) (x b : Addr) (zs : List Int) (sc : Int) : Prop := ∃ dx l : Addr, H x = some (.ins R dx [("bag", .ref b), ("numbers", .ref l), ("scale", .int sc)]) ∧ H l = some (.lst (zs.map V.int))
theorem RowAt.same {R : Addr} {H H' : Hp} {x b : Addr} {zs : List Int} {sc : Int} (h : RowAt R H x b zs sc) (s : Same H H') : RowAt R H' x b zs sc := by
  obtain ⟨dx, l, h1, h2⟩ := h
  exact ⟨dx, l, s _ _ h1, s _ _ h2⟩
section
variable {P : Program} {w : World} {K : PySem.W.Frag} {mg : Str → Option Value} {base : Heap}
theorem ok_scaleT {f fA fM : Addr} {fd dA dM : FuncData} (F : L2.Fun K "over_one_scale" "over_one_scale" s_over_one_scale f fd)
    (GA : FnOk P w K mg base CX0 1 fA dA ["value"] spPair1) (gA : mg "as_pair" = some (.ref fA)) (kA : PySem.W.keepIn K (.ref fA) = true) (bA : L2.Binds K dA ["value"] [])
    (GM : FnOk P w K mg base CX0 2 fM dM ["one", "other"] spLeast) (gM : mg "least_multiple" = some (.ref fM)) (kM : PySem.W.keepIn K (.ref fM) = true) (bM : L2.Binds K dM ["one", "other"] []) :
    FnOk P w K mg base CX0 3 f fd ["values"] (spScaleT K) := by
  have nd := sc_scale.nd
  refine F.ok sc_scale (fun vs H Q E h => ?_) (fun cdv A outer s H vs Q E hr h => ?_)
  · obtain ⟨a, xs, ps, M, rfl, _⟩ := h
    rfl
  · obtain ⟨a, xs, ps, M, rfl, ha, hg, hlen, hd0, hS, q⟩ := h
    have hr1 : Room 1 _ := hr.mono (by decide : 1 ≤ 2)
    refine ⟨_, pss_cons (ps_setLc (i := 1) (own := [("value", 4)]) (g := gName 4) (tt := tYes) (by rfl) nd rfl rfl (sw_true rfl rfl rfl (by decide +kernel)) (pi_tup (pv 0)) (blkOk_by (N := scaleN) (sc := defScope s_over_one_scale) (by decide +kernel)) (fun _ _ _ _ _ => pg_name (i := 4) nd rfl (.inl rfl) (hf := .inr rfl)) (fun _ _ _ _ _ => pts_nil) (fun _ _ _ _ _ => pe_call GA hr1 (by rfl) gA kA bA .nil pass0 (pa_cons (pv 4) pa_nil)))
      (pss_cons (ps_set (i := 2) nd rfl (.inr rfl) pe_int)
      (pss_cons (ps_for PassesOwn.never rfl (pi_list (pv 1)) (pg_name (i := 3) nd rfl (.inl rfl)) (pss_one (ps_set (i := 2) nd rfl (.inr rfl) (pe_call GM hr (by rfl) gM kM bM .nil pass0 (pa_cons (pv 2) (pa_cons (pe_ix ix_tup (pv 3) pe_int (fun _ _ => rfl)) pa_nil))))))
      (pss_one (ps_ret (pe_tup (pa_cons (pe_lc (own := [("above", 5), ("below", 6)]) (g := gTup K 2 (gCons (gName 5) (gCons (gName 6) gNil))) (tt := tYes) (by rfl) nd (pi_list (pv 1)) (blkOk_by (N := scaleN) (sc := defScope s_over_one_scale) (by decide +kernel)) (fun _ _ _ _ _ => pg_tup (by rfl) (pgs_cons (pg_name (i := 5) nd rfl (.inl rfl) (hf := .inr rfl)) (pgs_cons (pg_name (i := 6) nd rfl (.inl rfl) (hf := .inr rfl)) pgs_nil))) (fun _ _ _ _ _ => pts_nil) (fun _ _ _ _ _ => pe_op op_mulW (pv 5) (pe_op op_fdivX (pv 2) (pv 6)))) (pa_cons (pv 2) pa_nil))))))), ?_⟩
    refine ⟨.ref a, rfl, a, rfl, ⟨_, .inl (.inl ha)⟩, fun D nD => ?_⟩
    obtain ⟨hS1, hM0, hM8, hM4⟩ := id hS
    have hgl : xs.length = ps.length := hg.1
    refine lc_datsT (xs := xs) (ps.map dp) (by rw [List.length_map, hgl]) (by rw [List.length_map]; omega) (tupDs_map (fun _ => rfl) _) nD (fun H' s => .inl (.inl (s _ _ ha))) (fun i x d H' k e hx hd s1 hk => ?_) (fun H1 s1 hD => ?_)
    · have hi := (List.getElem?_eq_some_iff.mp hx).1
      obtain ⟨p, e2⟩ : ∃ p, ps[i]? = some p := ⟨ps[i], List.getElem?_eq_getElem (by omega)⟩
      rw [List.getElem?_map, e2] at hd
      obtain rfl : dp p = d := Option.some.inj hd
      refine ⟨rfl, yesI ?_⟩
      refine ⟨x, rfl, x, p.1, p.2, rfl, (hg.2 i x p hx e2).same s1, hd0 p (List.mem_of_getElem? e2), fun u nu => hk _ _ (upd_new nu) (.tup upd_same (by decide : 2 ≤ 100000) (.cons (.int _) (.cons (.int _) .nil)))⟩
    · obtain ⟨_, ys, e1, hD1, hD2, hA⟩ := at_lst hD
      cases e1
      have sq : SqL K H1 D ys := .inl (.inl hD1)
      have hlen2 : ys.length = ps.length := by rw [hA.length, List.length_map]
      have item := pair_get hA
      refine ⟨.ref D, rfl, D, rfl, ⟨_, sq⟩, for_list (xs := ys) (fun i σ H' => ∃ x3, σ = [some (.ref a), some (.ref D), some (.int (scaleOf (ps.take i))), x3, none, none, none] ∧ H1 = H') ⟨none, rfl, rfl⟩ ?_ ?_ ?_⟩
      · rintro i σ H' _ ⟨_, _, rfl⟩
        exact sq
      · rintro i x σ H' hx ⟨x3, rfl, rfl⟩
        obtain ⟨p, t, e2, rfl, ht⟩ := item i x hx
        have hp := List.mem_of_getElem? e2
        have hz : ∀ p ∈ ps.take i, p.2 ≠ 0 := fun p hp => hd0 p (List.mem_of_mem_take hp)
        have l1 := scale_size hz (hS.take i)
        have l2 := log_of (hS1 p hp).2 hM0
        refine ⟨.int _, rfl, .ref t, rfl, t, _, 1, _, rfl, rfl, .inl (.inl ht), atI_nat (j := 1) rfl, _, p.2, rfl, (scale_ok hz).1, hd0 p hp, by omega, ?_, some (.ref t), ?_, rfl⟩
        · have : M * (ps.take i).length ≤ M * (ps.length + 2) := Nat.mul_le_mul_left _ (by rw [List.length_take]; omega)
          have : M ≤ M * (ps.length + 2) := Nat.le_mul_of_pos_right _ (by omega)
          omega
        · rw [List.take_add_one, e2]
          show _ = [some (V.ref a), some (V.ref D), some (V.int (scaleOf (ps.take i ++ [p]))), some (V.ref t), none, none, none]
          rw [scale_snoc]
          rfl
      · rintro σ H' ⟨x3, rfl, rfl⟩
        rw [hlen2, List.take_length]
        refine ⟨.ref D, rfl, D, rfl, ⟨_, sq⟩, fun E2 nE => ?_⟩
        refine lc_dats (xs := ys) ((wholeZ ps).map Dat.int) (by rw [List.length_map, wholeZ, List.length_map, hlen2]) (by rw [List.length_map, wholeZ, List.length_map]; omega) (tupDs_map (fun _ => rfl) _) nE (fun H' s => .inl (.inl (s _ _ hD1))) (fun i x d H' k e hx hd s2 hk => ?_) (fun H2 s2 hE => ?_)
        · obtain ⟨p, t, e2, rfl, ht⟩ := item i x hx
          have hp := List.mem_of_getElem? e2
          rw [wholeZ, List.map_map, List.getElem?_map, e2] at hd
          obtain rfl : Dat.int (p.1 * (scaleOf ps).fdiv p.2) = d := Option.some.inj hd
          refine ⟨t, _, rfl, .inl (.inl (s2 _ _ ht)), rfl, _, [_], rfl, _, [], rfl, rfl, rfl, yesI ?_⟩
          have l1 := scale_size hd0 hS
          have l2 := log_of (hS1 p hp).2 hM0
          have l3 := log_of (hS1 p hp).1 hM0
          obtain ⟨k2, hk2⟩ := (scale_ok hd0).2 p hp
          have d0 := hd0 p hp
          have l4 : ((scaleOf ps).fdiv p.2).natAbs.log2 ≤ M * ps.length := by
            rw [fdiv_is d0 hk2]
            refine Nat.le_trans (log2_mono ?_) l1
            conv => rhs; rw [hk2]
            rw [Int.natAbs_mul]
            exact Nat.le_mul_of_pos_left _ (by omega)
          have l5 : M * (ps.length + 2) = M * ps.length + M + M := by
            rw [Nat.mul_add]
            omega
          refine ⟨.int p.1, rfl, .int _, rfl, .int p.2, rfl, _, p.2, rfl, rfl, ⟨d0, by omega⟩, p.1, _, rfl, rfl, ?_, hk _ _ (Same.refl _) (.int _)⟩
          unfold CMulW
          omega
        · refine ⟨.int _, rfl, lineN (by decide : 2 ≤ 1000), fun r nr => q r E2 _ ((s1.trans s2).trans (upd_new nr)) upd_same (hE.same (upd_new nr))⟩
theorem sc_place : FnScope ["place", "most"] ["place", "most"] (defScope s_check_place) := ⟨rfl, rfl, rfl, by decide +kernel, rfl, by decide +kernel, by decide +kernel⟩
theorem ok_place {f C : Addr} {fd : FuncData} (F : L2.Fun K "check_place" "check_place" s_check_place f fd) (TE : Err1 P w K mg base 2 "InvalidPlace" "InvalidPlace" "place" C) : FnOk P w K mg base (L2.CX P w) 4 f fd ["place", "most"] (spPlaceX C) := by
  have nd := sc_place.nd
  refine F.okX sc_place (fun vs H Q E h => ?_) (fun cdv A outer s H vs Q E hr h => ?_)
  · obtain ⟨n, m, rfl, _⟩ := h
    rfl
  · obtain ⟨n, m, rfl, q0, q1⟩ := h
    refine ⟨_, pss_one (ps_if (pt_not (pt_chain op_le op_le pe_int (pv 0) (pv 1))) (pss_one (ps_raise rfl (takes_of rfl rfl rfl rfl) (pmk1 TE hr (by rfl) (pv 0)))) pss_nil), ?_⟩
    refine ⟨.int n, rfl, 0, _, rfl, rfl, _, rfl, ite2 (fun e => ?_) (fun e => ?_)⟩
    · have n1 : (0 : Int) ≤ n := of_decide_eq_true e
      refine ⟨.int m, rfl, _, m, rfl, rfl, _, rfl, ?_⟩
      by_cases n2 : n ≤ m
      · rw [decide_eq_true n2]
        exact iteF (q1 ⟨n1, n2⟩)
      · rw [decide_eq_false n2]
        exact iteT ⟨.int n, rfl, by simp, mk1_of (q0 fun z => n2 z.2)⟩
    · have n1 : ¬ (0 : Int) ≤ n := fun z => e (decide_eq_true z)
      refine ⟨_, rfl, iteT ⟨.int n, rfl, by simp, mk1_of (q0 fun z => n1 z.1)⟩⟩
end
end RB

set_option Elab.async false
set_option linter.all false
set_option maxRecDepth 100000
set_option maxHeartbeats 4000000
namespace RB
open PySem PySem.Spec PyProof.Rows L2 SX
/-- Row's __init__, the further arguments a tuple -/
def spRow0 (C R : Addr) : Sp := fun vs H Q _ => ∃ (x dx b p : Addr) (W : List Int) (xs : List V) (ps : List (Int × Int)) (M : Nat), vs = [.ref x, .ref b, .ref p] ∧ H x = some (.ins R dx []) ∧ BagAt C H b W ∧ b ≠ x ∧ H p = some (.tup xs) ∧ GivenV H xs ps ∧ ps.length ≤ 1000 ∧ (∀ p ∈ ps, p.2 ≠ 0) ∧ Sized M ps ∧ W.length = ps.length + 1 ∧
  contentZ (scaleOf ps :: wholeZ ps) ≠ 0 ∧ (contentZ (scaleOf ps :: wholeZ ps)).natAbs.log2 < 9000 ∧
  ∀ H', (∀ b o, H b = some o → b ≠ x → H' b = some o) → RowAt R H' x b ((wholeZ ps).map (·.fdiv (contentZ (scaleOf ps :: wholeZ ps)))) ((scaleOf ps).fdiv (contentZ (scaleOf ps :: wholeZ ps))) → Q .non H'
def spRow (C R : Addr) : Sp := fun vs H Q E => ∃ ws rest : List V, vs = ws ++ rest ∧ ws.length = (["self", "bag"] : List Str).length ∧ rest.length ≤ sizeLine ∧ ∀ p, H p = none → spRow0 C R (ws ++ [V.ref p]) (upd H p (.tup rest)) Q E
structure TRow (K : PySem.W.Frag) (mg : Str → Option Value) (R : Addr) : Prop where
  cl : Cls K R
  nB : NoAttr K R "bag"
  nN : NoAttr K R "numbers"
  nS : NoAttr K R "scale"
  len : mg "len" = none
section
variable {P : Program} {w : World} {K : PySem.W.Frag} {mg : Str → Option Value} {base : Heap}
abbrev rowN : List Str := ["self", "bag", "first", "numbers", "scale", "shared"]
theorem sc_row : FnScope rowN ((["self", "bag"] : List Str) ++ (["first"] : List Str)) (defScope c_Row_init) := ⟨rfl, rfl, rfl, by decide +kernel, rfl, by decide +kernel, by decide +kernel⟩
theorem ok_row {f C R pS gS fO fC fW : Addr} {dS dO dC dW : FuncData} {oc kV doc pm ct cdv : Value} {od an : Option Addr} {osl : Array (Option Value)} (lk : K.lookup f = some ⟨oc, od, .func (PySem.W.fnOf "__init__" "Row.__init__" (defArgs c_Row_init) (defBody c_Row_init) (defScope c_Row_init) .none kV doc pm an cdv ct), osl⟩) (hcd : PySem.W.codeIn K cdv "Row.__init__" = true)
    (T : TRow K mg R) (TB : TBag K mg C) (T2 : TBag2 K mg C pS gS) (GS : FnOk P w K mg base CX0 1 gS dS ["self"] (spSize C)) (bS : L2.Binds K dS ["self"] [])
    (GO : FnOk P w K mg base CX0 3 fO dO ["values"] (spScaleT K)) (gO : mg "over_one_scale" = some (.ref fO)) (kO : PySem.W.keepIn K (.ref fO) = true) (bO : L2.Binds K dO ["values"] [])
    (GC : FnOk P w K mg base CX0 2 fC dC ["numbers"] (spContent K)) (gC : mg "content" = some (.ref fC)) (kC : PySem.W.keepIn K (.ref fC) = true) (bC : L2.Binds K dC ["numbers"] [])
    (GW : FnOk P w K mg base CX0 1 fW dW ["numbers", "factor"] (spWithout K)) (gW : mg "without_factor" = some (.ref fW)) (kW : PySem.W.keepIn K (.ref fW) = true) (bW : L2.Binds K dW ["numbers", "factor"] []) : FnR P w K mg base CX0 4 f (spRow C R) := by
  have nd := sc_row.nd
  refine StX.fn_star (ps := ["self", "bag"]) (pv := "first") (k := 3) (N := rowN) (sp := spRow0 C R) lk hcd sc_row StX.cxUp_none (fun us rest hl => match us, rest, hl with | [_, _], [], _ => rfl | [_, _], _ :: _, _ => rfl) (fun A outer s H vs Q E hr h => ?_)
  obtain ⟨x, dx, b, p, W, xs, ps, M, rfl, hx, hb, bx, hp, hg, hl, hd0, hS, hW, c0, c9, q⟩ := h
  have hr1 : Room 1 _ := hr.mono (by decide : 1 ≤ 3)
  have hr2 : Room 2 _ := hr.mono (by decide : 2 ≤ 3)
  have PT : ∃ t, PSs (cxOf CX0 P w K mg base rowN "Row.__init__" (defScope c_Row_init) f cdv A outer s H E).nox (defBody c_Row_init) t ∧ t { nx := fun _ H' => Q .non H', rt := Q } (L2.start rowN [.ref x, .ref b, .ref p]) H := by
    refine ⟨_, pss_cons (ps_asg (pe_call GO hr (by rfl) gO kO bO .nil pass0 (pa_cons (pv 2) pa_nil)) (pg_tup (by rfl) (pgs_cons (pg_name (i := 3) nd rfl (.inl rfl)) (pgs_cons (pg_name (i := 4) nd rfl (.inl rfl)) pgs_nil))))
      (pss_cons (ps_if (pt_cmpR op_ne (pe_callB call_len (by rfl) T.len PySem.boot_len (pa_cons (pv 3) pa_nil)) (pe_prop (pv 1) TB.cl T2.prop GS hr2 bS .nil pass0 rfl) (nomark _)) (pss_one ps_never) pss_nil)
      (pss_cons (ps_set (i := 5) nd rfl (.inl rfl) (pe_call GC hr2 (by rfl) gC kC bC .nil pass0 (pa_cons (pe_op op_cat (pe_lst (pa_cons (pv 4) pa_nil)) (pv 3)) pa_nil)))
      (pss_cons (ps_fld (pv 0) (pv 1) rfl)
      (pss_cons (ps_fld (pv 0) (pe_call GW hr1 (by rfl) gW kW bW .nil pass0 (pa_cons (pv 3) (pa_cons (pv 5) pa_nil))) rfl)
      (pss_one (ps_fld (pv 0) (pe_op op_fdivX (pv 4) (pv 5)) rfl)))))), ?_⟩
    refine ⟨.ref p, rfl, p, xs, ps, M, rfl, hp, hg, hl, hd0, hS, fun u l H1 s1 hu hlA => ?_⟩
    obtain ⟨l', e', hll, _⟩ := at_dz hlA
    cases e'
    have lw : (wholeZ ps).length = ps.length := by
      unfold wholeZ
      rw [List.length_map]
    refine ⟨u, _, rfl, .inl (.inl hu), rfl, .ref l, [.int _], rfl, .int _, [], rfl, rfl, ?_⟩
    obtain ⟨dy, lb, hb1, hb2⟩ := id (hb.same s1)
    refine ⟨.ref l, rfl, _, _, rfl, .inl ⟨_, .inl (.inl hll), rfl⟩, .ref b, rfl, b, dy, _, rfl, hb1, b, W, rfl, hb.same s1, rfl, _, rfl, ?_⟩
    rw [List.length_map, lw, hW]
    have e0 : (!decide (V.int ((ps.length : Nat) : Int) = V.int (((ps.length + 1 : Nat) : Int) - 1))) = false := by
      rw [decide_eq_true (by congr 1; omega)]
      rfl
    rw [e0]
    refine iteF ⟨.int _, rfl, lineN (by decide : 1 ≤ 1000), fun l5 nl5 => ⟨.ref l, rfl, l5, l, _, _, rfl, rfl, upd_same, upd_new nl5 _ _ hll, ?_, fun p6 np6 => ?_⟩⟩
    · rw [List.length_map, lw, sizeLine_eq]
      show 1 + _ ≤ _
      omega
    have s6 := s1.trans ((upd_new (o := .lst [.int (scaleOf ps)]) nl5).trans (upd_new (o := .lst ([.int (scaleOf ps)] ++ (wholeZ ps).map V.int)) np6))
    refine ⟨.ref p6, scaleOf ps :: wholeZ ps, rfl, dz_at upd_same (by rw [List.length_cons, lw]; omega), ?_⟩
    generalize contentZ (scaleOf ps :: wholeZ ps) = c at *
    have hlA6 := hlA.same ((upd_new (o := .lst [.int (scaleOf ps)]) nl5).trans (upd_new (o := .lst ([.int (scaleOf ps)] ++ (wholeZ ps).map V.int)) np6))
    generalize upd (upd H1 l5 (.lst [.int (scaleOf ps)])) p6 (.lst ([.int (scaleOf ps)] ++ (wholeZ ps).map V.int)) = H6 at s6 hlA6
    refine ⟨.ref b, rfl, .ref x, rfl, x, R, dx, _, rfl, s6 _ _ hx, T.cl, T.nB, by decide, ?_⟩
    have hl7 : At K (upd H6 x (.ins R dx [("bag", .ref b)])) (.ref l) (dz (wholeZ ps)) := by
      obtain ⟨l', e', h6, hn⟩ := at_dz hlA6
      cases e'
      refine dz_at ?_ hn
      rw [upd_ne (ne_of h6 (s6 _ _ hx) (by intro z; cases z))]
      exact h6
    refine ⟨.ref l, rfl, .int c, rfl, .ref l, wholeZ ps, c, rfl, hl7, fun _ => ⟨c0, c9⟩, fun u8 H8 s8 hu8 => ?_⟩
    obtain ⟨lu, rfl, hlu, _⟩ := at_dz hu8
    refine ⟨.ref x, rfl, x, R, dx, _, rfl, s8 _ _ upd_same, T.cl, T.nN, (by decide : 1 < 1000), ?_⟩
    refine ⟨.int _, rfl, .int c, rfl, _, c, rfl, rfl, ⟨c0, c9⟩, .ref x, rfl, x, R, dx, _, rfl, upd_same, T.cl, T.nS, ?_, ?_⟩
    · exact (by decide : 2 < 1000)
    · refine q _ (fun b' o eb hne => ?_) ⟨dx, lu, upd_same, ?_⟩
      · rw [upd_ne hne, upd_ne hne]
        refine s8 _ _ ?_
        rw [upd_ne hne]
        exact s6 _ _ eb
      · have nlx : lu ≠ x := ne_of hlu (s8 _ _ upd_same) (by intro z; cases z)
        rw [upd_ne nlx, upd_ne nlx]
        exact hlu
  obtain ⟨t, h1, h2⟩ := PT
  exact ⟨t, h1.nox, h2⟩
end
/-- residue of a row of a bag of one number -/
def spRes (C R CPl CM CD : Addr) : Sp := fun vs H Q E => ∃ (x b : Addr) (w0 w1 z sc n m : Int), vs = [.ref x, .int n, .int m] ∧ RowAt R H x b [z] sc ∧ BagAt C H b [w0, w1] ∧ w0.natAbs ≤ far.natAbs ∧ w1.natAbs ≤ far.natAbs ∧ z.natAbs ≤ far.natAbs ∧ sc.natAbs ≤ far.natAbs ∧
  (¬ (0 ≤ n ∧ n ≤ far) → Bad1 CPl "InvalidPlace" "place" (.int n) H E) ∧
  (0 ≤ n ∧ n ≤ far → ¬ (1 ≤ m ∧ m ≤ far) → Bad1 CM "InvalidModulus" "modulus" (.int m) H E) ∧
  (0 ≤ n ∧ n ≤ far → 1 ≤ m ∧ m ≤ far → 1 < Int.gcd m (w1 * sc) → Bad1 CD "SharedDivisor" "modulus" (.int m) H E) ∧
  (0 ≤ n ∧ n ≤ far → 1 ≤ m ∧ m ≤ far → Int.gcd m (w1 * sc) ≤ 1 → ∀ (t : Int) H', Same H H' → 0 ≤ t → t < m → (1 < m → w0 = -1 → w1 = 1 → sc = 1 → t = z % m) → Q (.int t) H')
section
variable {P : Program} {w : World} {K : PySem.W.Frag} {mg : Str → Option Value} {base : Heap}
abbrev resN : List Str := ["self", "place", "modulus"]
theorem sc_res : FnScope resN ["self", "place", "modulus"] (defScope c_Row_residue) := ⟨rfl, rfl, rfl, by decide +kernel, rfl, by decide +kernel, by decide +kernel⟩
theorem ok_res {f C R CPl CM CD fP fS fT : Addr} {fd dP dS dT : FuncData} {tF : Tok} (F : L2.Fun K "residue" "Row.residue" c_Row_residue f fd) (T : TRow K mg R) (TB : TBag K mg C) (mF : mg "FAR" = some (.int far tF))
    (EM : Err1 P w K mg base 2 "InvalidModulus" "InvalidModulus" "modulus" CM) (ED : Err1 P w K mg base 2 "SharedDivisor" "SharedDivisor" "modulus" CD)
    (GP : FnOk P w K mg base (L2.CX P w) 4 fP dP ["place", "most"] (spPlaceX CPl)) (gP : mg "check_place" = some (.ref fP)) (kP : PySem.W.keepIn K (.ref fP) = true) (bP : L2.Binds K dP ["place", "most"] [])
    (GS : FnOk P w K mg base CX0 1 fS dS ["one", "other"] spGcd) (gS : mg "shared_factor" = some (.ref fS)) (kS : PySem.W.keepIn K (.ref fS) = true) (bS : L2.Binds K dS ["one", "other"] [])
    (GT : FnOk P w K mg base CX0 3 fT dT ["whole", "numbers", "scale", "place", "modulus"] (spTerm K)) (gT : mg "term_by" = some (.ref fT)) (kT : PySem.W.keepIn K (.ref fT) = true) (bT : L2.Binds K dT ["whole", "numbers", "scale", "place", "modulus"] []) :
    FnOk P w K mg base (L2.CX P w) 5 f fd ["self", "place", "modulus"] (spRes C R CPl CM CD) := by
  have nd := sc_res.nd
  refine F.okX sc_res (fun vs H Q E h => ?_) (fun cdv A outer s H vs Q E hr h => ?_)
  · obtain ⟨x, b, w0, w1, z, sc, n, m, rfl, _⟩ := h
    rfl
  · obtain ⟨x, b, w0, w1, z, sc, n, m, rfl, hx, hb, b0, b1, b2, b3, q0, q1, q2, q3⟩ := h
    have hr1 : Room 1 _ := hr.mono (by decide : 1 ≤ 4)
    have hr3 : Room 3 _ := hr.mono (by decide : 3 ≤ 4)
    refine ⟨_, pss_cons (ps_expr (pe_call GP hr (by rfl) gP kP bP .nil (passes_call (takes_of rfl rfl rfl rfl) fun _ _ _ _ h => h) (pa_cons (pv 1) (pa_cons (pe_glob (v := .int far) (by rfl) mF ⟨_, rfl⟩) pa_nil))))
      (pss_cons (ps_if (pt_not (pt_chain op_le op_le pe_int (pv 2) (pe_glob (v := .int far) (by rfl) mF ⟨_, rfl⟩))) (pss_one (ps_raise rfl (takes_of rfl rfl rfl rfl) (pmk1 EM hr3 (by rfl) (pv 2)))) pss_nil)
      (pss_cons (ps_if (pt_cmpR op_gt (pe_call GS hr1 (by rfl) gS kS bS .nil pass0 (pa_cons (pv 2) (pa_cons (pe_op op_mulW (pe_ix ix_list (pe_fld (pe_fld (pv 0) rfl) rfl) (pe_un un_neg pe_int) (fun _ _ => rfl)) (pe_fld (pv 0) rfl)) pa_nil))) pe_int (nomark _)) (pss_one (ps_raise rfl (takes_of rfl rfl rfl rfl) (pmk1 ED hr3 (by rfl) (pv 2)))) pss_nil)
      (pss_one (ps_ret (pe_call GT hr3 (by rfl) gT kT bT .nil pass0 (pa_cons (pe_fld (pe_fld (pv 0) rfl) rfl) (pa_cons (pe_fld (pv 0) rfl) (pa_cons (pe_fld (pv 0) rfl) (pa_cons (pv 1) (pa_cons (pv 2) pa_nil)))))))))), ?_⟩
    obtain ⟨dx, l, hx1, hx2⟩ := hx
    obtain ⟨dy, lb, hb1, hb2⟩ := hb
    refine ⟨.int n, rfl, n, far, rfl, q0, fun hn => ?_⟩
    have q1 := q1 hn
    have q2 := q2 hn
    have q3 := q3 hn
    refine ⟨.int m, rfl, 1, _, rfl, rfl, _, rfl, ite2 (fun e => ?_) (fun e => ?_)⟩
    · have m1 : (1 : Int) ≤ m := of_decide_eq_true e
      refine ⟨_, far, rfl, rfl, _, rfl, ?_⟩
      by_cases m2 : m ≤ far
      · rw [decide_eq_true m2]
        have q2 := q2 ⟨m1, m2⟩
        have q3 := q3 ⟨m1, m2⟩
        have l1 := far_log b1
        have l3 := far_log b3
        refine iteF ⟨.int m, rfl, .ref x, rfl, x, R, dx, _, _, rfl, hx1, T.cl, T.nB, rfl, b, C, dy, _, _, rfl, hb1, TB.cl, TB.nW, rfl, 1, rfl, lb, _, -1, .int w1, rfl, rfl, .inl (.inl hb2), atI_last [V.int w0] (V.int w1), ?_⟩
        refine ⟨.ref x, rfl, x, R, dx, _, _, rfl, hx1, T.cl, T.nS, rfl, w1, sc, rfl, rfl, by unfold CMulW; omega, m, _, rfl, _, 1, rfl, rfl, _, rfl, ite2 (fun e => ?_) (fun e => ?_)⟩
        · have e : ((Int.gcd m (w1 * sc) : Nat) : Int) > 1 := of_decide_eq_true e
          exact ⟨.int m, rfl, by simp, mk1_of (q2 (by omega))⟩
        · have e : ¬ ((Int.gcd m (w1 * sc) : Nat) : Int) > 1 := fun z => e (decide_eq_true z)
          have q3 := q3 (by omega)
          refine ⟨.ref x, rfl, x, R, dx, _, _, rfl, hx1, T.cl, T.nB, rfl, b, C, dy, _, _, rfl, hb1, TB.cl, TB.nW, rfl, .ref x, rfl, x, R, dx, _, _, rfl, hx1, T.cl, T.nN, rfl, .ref x, rfl, x, R, dx, _, _, rfl, hx1, T.cl, T.nS, rfl, .int n, rfl, .int m, rfl, ?_⟩
          exact ⟨.ref lb, .ref l, w0, w1, z, sc, n, m, rfl, dz_at hb2 (by simp), dz_at hx2 (by simp), b0, b2, hn.1, hn.2, m1, m2, q3⟩
      · rw [decide_eq_false m2]
        exact iteT ⟨.int m, rfl, by simp, mk1_of (q1 fun z => m2 z.2)⟩
    · have m1 : ¬ (1 : Int) ≤ m := fun z => e (decide_eq_true z)
      refine ⟨_, rfl, iteT ⟨.int m, rfl, by simp, mk1_of (q1 fun z => m1 z.1)⟩⟩
end
end RB

set_option Elab.async false
set_option linter.all false
set_option maxRecDepth 100000
set_option maxHeartbeats 4000000
namespace RB
open PySem PySem.Spec PyProof.Rows L2 SX
theorem pq_one (n d : Int) (d0 : d ≠ 0) : pQ ([(n, d)].map linQ) = [((-n : Int) : Rat) / (d : Rat), (d : Rat) / (d : Rat)] := by
  have dq0 : (d : Rat) ≠ 0 := rat_ne d0
  show mulQ [1] (linQ (n, d)) = _
  show [1 * -(qOf (n, d)) + 0, 1 * (1 : Rat)] = _
  unfold qOf
  rw [Rat.intCast_neg]
  congr 1
  · grind
  · congr 1
    grind
theorem of1 {C : Addr} {H : Hp} {E : XK} {Q : VK} {v : V} {n d : Int} (hv : RatV H v n d) (d0 : 0 < d) (hn : n.natAbs ≤ 2 ^ 13) (hd : d.natAbs ≤ 2 ^ 13) (hc : contentZ [-n, d] = 1)
    (q : ∀ (x : Addr) (H' : Hp), Same H H' → BagAt C H' x [-n, d] → Q (.ref x) H') : spOf C [.ref C, v] H Q E := by
  have hg : GivenV H [v] [(n, d)] := ⟨rfl, fun i x p hx hp => by
    match i, hx, hp with
    | 0, hx, hp => cases hx; cases hp; exact hv
    | _ + 1, hx, _ => simp at hx⟩
  refine ⟨[.ref C], [v], rfl, rfl, by rw [sizeLine_eq]; show 1 ≤ _; omega, fun p np => ⟨p, [v], [(n, d)], 13, rfl, upd_same, hg.same (upd_new np), fun z hz => by rw [List.mem_singleton.mp hz]; exact ⟨by show d ≠ 0; omega, hn, hd⟩, by simp, by simp, by decide, fun x H' s hx => q x H' ((upd_new np).trans s) ?_⟩⟩
  obtain ⟨W, h1, h2, _⟩ := hx
  have hp : Prim [-n, d] (pQ ([(n, d)].map linQ)) := ⟨⟨[-n], d, rfl, d0, by rw [pq_one n d (by omega)]; rfl⟩, hc⟩
  rw [h2.uniq hp] at h1
  exact h1
theorem row1 {C R : Addr} {H : Hp} {E : XK} {Q : Addr → Hp → Prop} {b : Addr} {v : V} {n d zz ss : Int} {W : List Int} (hb : BagAt C H b W) (hW : W.length = 2) (hv : RatV H v n d) (d0 : d ≠ 0) (hn : n.natAbs < 2 ^ 14) (hd : d.natAbs < 2 ^ 14)
    (e1 : wholeZ [(n, d)] = [zz]) (e2 : scaleOf [(n, d)] = ss) (e3 : contentZ [ss, zz] = 1) (q : ∀ (x : Addr) (H' : Hp), Same H H' → RowAt R H' x b [zz] ss → Q x H') :
    ∀ x dx, H x = none → H dx = none → dx ≠ x → spRow C R (.ref x :: [.ref b, v]) (upd (upd H dx (.own x)) x (.ins R dx [])) (fun v H2 => v = .non ∧ Q x H2) E := fun x dx nx ndx ne => by
  have s1 : Same H (upd (upd H dx (.own x)) x (.ins R dx [])) := fun b o e => by
    rw [upd_ne (ne_of_none e nx), upd_ne (ne_of_none e ndx)]
    exact e
  have hg : GivenV H [v] [(n, d)] := ⟨rfl, fun i x p hx hp => by
    match i, hx, hp with
    | 0, hx, hp => cases hx; cases hp; exact hv
    | _ + 1, hx, _ => simp at hx⟩
  obtain ⟨dy, lb, hb1, hb2⟩ := id hb
  have bx : b ≠ x := ne_of_none hb1 nx
  refine ⟨[.ref x, .ref b], [v], rfl, rfl, by rw [sizeLine_eq]; show 1 ≤ _; omega, fun p np => ?_⟩
  have s2 := s1.trans (upd_new (o := .tup [v]) np)
  have hx2 : (upd (upd (upd H dx (.own x)) x (.ins R dx [])) p (.tup [v])) x = some (.ins R dx []) := upd_new np _ _ upd_same
  refine ⟨x, dx, b, p, W, [v], [(n, d)], 14, rfl, hx2, hb.same s2, bx, upd_same, hg.same s2, by simp, fun z hz => by rw [List.mem_singleton.mp hz]; exact d0, ⟨fun z hz => by rw [List.mem_singleton.mp hz]; exact ⟨hn, hd⟩, by decide, by decide, by simp⟩, by rw [hW]; rfl, ?_, ?_, fun H' fr hr => ⟨rfl, q x H' (fun b' o eb => ?_) ?_⟩⟩
  · rw [e1, e2, e3]; decide
  · rw [e1, e2, e3]; decide
  · exact fr _ _ (s2 _ _ eb) (ne_of_none eb nx)
  · rw [e1, e2, e3] at hr
    have z1 : [zz].map (·.fdiv 1) = [zz] := by
      show [zz.fdiv 1] = [zz]
      rw [Int.fdiv_one]
    rw [z1, Int.fdiv_one] at hr
    exact hr
def BaseOk (b : Int) : Prop := b = 2 ∨ b = 3 ∨ b = 5 ∨ b = 7
structure BaseF (b : Int) : Prop where
  pos : 1 < b
  le : b ≤ 7
  cb : contentZ [-1, b] = 1
  wz : wholeZ [(1, b)] = [1]
  sc : scaleOf [(1, b)] = b
  cr : contentZ [b, 1] = 1
theorem base_f {b : Int} (h : BaseOk b) : BaseF b := by
  rcases h with rfl | rfl | rfl | rfl <;> exact ⟨by decide, by decide, by decide +kernel, by decide +kernel, by decide +kernel, by decide +kernel⟩
theorem gcd_by {b : Nat} (m : Nat) (hb : b = 2 ∨ b = 3 ∨ b = 5 ∨ b = 7) : 1 < Nat.gcd m b ↔ m % b = 0 := by
  rw [Nat.gcd_comm, Nat.gcd_rec]
  have hl : m % b < b := Nat.mod_lt _ (by omega)
  generalize m % b = r at *
  rcases hb with rfl | rfl | rfl | rfl
  all_goals
    match r, hl with
    | 0, _ => decide
    | 1, _ => decide
    | 2, _ => first | decide | omega
    | 3, _ => first | decide | omega
    | 4, _ => first | decide | omega
    | 5, _ => first | decide | omega
    | 6, _ => first | decide | omega
    | _ + 7, h => omega
theorem gcd_base {b m : Int} (h : BaseOk b) (hm : 1 ≤ m) : 1 < Int.gcd m b ↔ m % b = 0 := by
  obtain ⟨M, rfl⟩ : ∃ M : Nat, m = (M : Int) := ⟨m.toNat, by omega⟩
  obtain ⟨B, rfl⟩ : ∃ B : Nat, b = (B : Int) := ⟨b.toNat, by rcases h with rfl | rfl | rfl | rfl <;> decide⟩
  have hB : B = 2 ∨ B = 3 ∨ B = 5 ∨ B = 7 := by
    rcases h with h | h | h | h <;> omega
  have := gcd_by M hB
  rw [show Int.gcd (M : Int) (B : Int) = Nat.gcd M B from rfl, this, ← Int.natCast_emod]
  omega
/-- what the law expects -/
def dueK (n m b : Int) : Option (Str × Int) := if ¬ (0 ≤ n ∧ n ≤ far) then some ("InvalidPlace", n) else if ¬ (1 ≤ m ∧ m ≤ far) then some ("InvalidModulus", m) else if m % b = 0 then some ("SharedDivisor", m) else none
def DueAt (H : Hp) (v : V) (k : Option (Str × Int)) : Prop := ∃ t : Addr, v = .ref t ∧ H t = some (.tup (match k with | some (c, n) => [.str c, .int n] | none => [.str "value", .bl true]))
theorem DueAt.same {H H' : Hp} {v : V} {k : Option (Str × Int)} (h : DueAt H v k) (s : Same H H') : DueAt H' v k := by
  obtain ⟨t, e, h⟩ := h
  exact ⟨t, e, s _ _ h⟩
def okK (k : Option (Str × Int)) : Bool := match k with | some (c, _) => PyData.strOk c | none => true
theorem ok1 (n : Int) : okK (some ("InvalidPlace", n)) = true := by
  show PyData.strOk "InvalidPlace" = true
  decide +kernel
theorem dueK_ok (n m b : Int) : okK (dueK n m b) = true := by
  unfold dueK
  split
  · exact ok1 n
  · split
    · show PyData.strOk "InvalidModulus" = true
      decide +kernel
    · split
      · show PyData.strOk "SharedDivisor" = true
        decide +kernel
      · rfl
theorem due_ne {K : PySem.W.Frag} {H : Hp} {v u : V} {k : Option (Str × Int)} {Q : VK} (hk : okK k = true) (h1 : DueAt H v k) (h2 : DueAt H u k) (q : Q (.bl false) H) : rNeD K v u H Q := by
  obtain ⟨t, rfl, e1⟩ := h1
  obtain ⟨t2, rfl, e2⟩ := h2
  cases k with
  | none =>
    refine ⟨.tuple [.str "value", .bool true], .tuple [.str "value", .bool true], .tup (.inl (.inl e1)) (.cons (.str _) (.cons (.bl _) .nil)), .tup (.inl (.inl e2)) (.cons (.str _) (.cons (.bl _) .nil)), by decide +kernel, by decide +kernel, ?_⟩
    have ee : (!PyData.eqv (.tuple [.str "value", .bool true]) (.tuple [.str "value", .bool true])) = false := by decide +kernel
    rw [ee]
    exact q
  | some p =>
    obtain ⟨c, n⟩ := p
    have h1 : SeqAt.shaped (.tuple [.str c, .int n]) = true := by
      have hk : PyData.strOk c = true := hk
      simp [SeqAt.shaped, PyData.canLay0, PyData.canLayAll0, PyData.depth, PyData.depthAll, hk]
    refine ⟨.tuple [.str c, .int n], .tuple [.str c, .int n], .tup (.inl (.inl e1)) (.cons (.str _) (.cons (.int _) .nil)), .tup (.inl (.inl e2)) (.cons (.str _) (.cons (.int _) .nil)), h1, h1, ?_⟩
    have ee : (!PyData.eqv (.tuple [.str c, .int n]) (.tuple [.str c, .int n])) = false := by
      simp [PyData.eqv, PyData.eqvAll]
    rw [ee]
    exact q
end RB

set_option Elab.async false
set_option linter.all false
set_option maxRecDepth 100000
set_option maxHeartbeats 4000000
namespace RB
open PySem PySem.Spec PyProof.Rows L2 SX
abbrev lawN : List Str := ["_law_script", "_law_rng", "_law_far", "_law_turn", "_law_base", "_law_due", "_law_one", "_law_row", "_law_plain", "_law_spot", "_law_size", "_law_told"]
theorem sc_law : FnScope lawN ["_law_script"] (defScope sLaw) := ⟨rfl, rfl, rfl, by decide +kernel, rfl, by decide +kernel, by decide +kernel⟩
abbrev lamQ : Str := (("law" : Str) ++ ".<locals>.") ++ "<lambda>"
structure TLaw (P : Program) (w : World) (K : PySem.W.Frag) (mg : Str → Option Value) (base : Heap) (B M C R CPl CM CD fDs fPi fRo fRe fT fF pO gO : Addr) (mc : Value) (dDs dPi dRe dF : FuncData) : Prop where
  range : mg "range" = none
  far : ∃ t, mg "FAR" = some (.int far t)
  draws : FnOk P w K mg base CX0 1 fDs dDs ["_law_script"] (spDraws K)
  gDs : mg "_law_draws" = some (.ref fDs)
  kDs : PySem.W.keepIn K (.ref fDs) = true
  bDs : L2.Binds K dDs ["_law_script"] []
  pick : FnOk P w K mg base CX0 2 fPi dPi ["_law_rng", "_law_things"] (spPick K)
  gPi : mg "_law_pick" = some (.ref fPi)
  kPi : PySem.W.keepIn K (.ref fPi) = true
  bPi : L2.Binds K dPi ["_law_rng", "_law_things"] []
  field : FnP P w K mg base 1 fF dF ["_law_e"] (spField K)
  gF : mg "_law_field" = some (.ref fF)
  kF : PySem.W.keepIn K (.ref fF) = true
  bF : L2.Binds K dF ["_law_e"] []
  gB : mg "BagError" = some (.ref B)
  gM : mg "Missing" = some (.ref M)
  gT : mg "_law_try" = some (.ref fT)
  kT : PySem.W.keepIn K (.ref fT) = true
  tryF : ∃ dT, L2.Fun K "_law_try" "_law_try" sTry fT dT ∧ L2.Binds K dT ["_law_ask"] []
  xP : XErr K CPl
  cP : Caught K B M CPl
  xM : XErr K CM
  cM : Caught K B M CM
  xD : XErr K CD
  cD : Caught K B M CD
  gC : mg "Bag" = some (.ref C)
  crd : ClX.CRead K C mc
  cmt : ClX.CMet K C mc "of" pO gO
  ofs : FnR P w K mg base CX0 8 gO (spOf C)
  gR : mg "Row" = some (.ref R)
  mkR : Mk K R fRo
  row : FnR P w K mg base CX0 4 fRo (spRow C R)
  clR : Cls K R
  res : FnOk P w K mg base (L2.CX P w) 5 fRe dRe ["self", "place", "modulus"] (spRes C R CPl CM CD)
  mRe : Meth K R "residue" fRe
  bRe : L2.Binds K dRe ["self", "place", "modulus"] []
theorem ten_far : (10 : Int) ^ (40 : Int).toNat = far := by decide +kernel
theorem fv_place (v u : V) : fieldVal "InvalidPlace" [("place", v), ("code", u)] = some v := by
  unfold fieldVal
  rw [show fieldOf "InvalidPlace" = some "place" by decide +kernel]
  rfl
theorem fv_mod (v u : V) : fieldVal "InvalidModulus" [("modulus", v), ("code", u)] = some v := by
  unfold fieldVal
  rw [show fieldOf "InvalidModulus" = some "modulus" by decide +kernel]
  rfl
theorem fv_div (v u : V) : fieldVal "SharedDivisor" [("modulus", v), ("code", u)] = some v := by
  unfold fieldVal
  rw [show fieldOf "SharedDivisor" = some "modulus" by decide +kernel]
  rfl
/-- a row of the law -/
def RowB (C R : Addr) (H : Hp) (x : Addr) (w0 w1 z sc : Int) : Prop := ∃ ba, RowAt R H x ba [z] sc ∧ BagAt C H ba [w0, w1]
theorem RowB.ext {C R : Addr} {H H' : Hp} {x : Addr} {w0 w1 z sc : Int} (h : RowB C R H x w0 w1 z sc) (e : LamX.ExtN H H') : RowB C R H' x w0 w1 z sc := by
  obtain ⟨ba, ⟨dx, l, h1, h2⟩, ⟨dy, l2, h3, h4⟩⟩ := h
  exact ⟨ba, ⟨dx, l, e _ _ h1 (fun ps z => by cases z), e _ _ h2 (fun ps z => by cases z)⟩, ⟨dy, l2, e _ _ h3 (fun ps z => by cases z), e _ _ h4 (fun ps z => by cases z)⟩⟩
theorem RowB.same {C R : Addr} {H H' : Hp} {x : Addr} {w0 w1 z sc : Int} (h : RowB C R H x w0 w1 z sc) (e : Same H H') : RowB C R H' x w0 w1 z sc := h.ext (LamX.ExtN.of e)
theorem rng_ne_ints {H : Hp} {r l : Addr} {zs : List Int} (R : RngOk H r) (h : H l = some (.lst (zs.map V.int))) : l ≠ r := by
  obtain ⟨c, i, b, s, hr, _⟩ := R
  refine ne_of h hr fun z => ?_
  have z2 : zs.map V.int = [.ref c, .int i, .int b, .int s] := HO.lst.inj z
  cases zs with
  | nil => cases z2
  | cons y t => cases z2
theorem RowB.but {C R : Addr} {H H' : Hp} {x r : Addr} {w0 w1 z sc : Int} (h : RowB C R H x w0 w1 z sc) (Rg : RngOk H r) (b : But r H H') : RowB C R H' x w0 w1 z sc := by
  obtain ⟨ba, ⟨dx, l, h1, h2⟩, ⟨dy, l2, h3, h4⟩⟩ := h
  obtain ⟨c, i, bb, s, hr, _⟩ := id Rg
  have k : ∀ {p : Addr} {o : HO}, H p = some o → p ≠ r → H' p = some o := fun e n => (b _ n).trans e
  exact ⟨ba, ⟨dx, l, k h1 (ne_of h1 hr fun z => nomatch z), k h2 (rng_ne_ints (zs := [z]) Rg h2)⟩, ⟨dy, l2, k h3 (ne_of h3 hr fun z => nomatch z), k h4 (rng_ne_ints (zs := [w0, w1]) Rg h4)⟩⟩
theorem DueAt.ext {H H' : Hp} {v : V} {k : Option (Str × Int)} (h : DueAt H v k) (e : LamX.ExtN H H') : DueAt H' v k := by
  obtain ⟨t, e1, h⟩ := h
  exact ⟨t, e1, e _ _ h (fun ps z => by cases z)⟩
def spLaw (K : PySem.W.Frag) (Pt : Addr) : Sp := fun vs H Q _ => ∃ (a : Addr) (ns : List Int), vs = [.ref a] ∧ SqL K H a (ns.map V.int) ∧ ns.length ≤ 63 ∧ H Pt = some (.tbl #[]) ∧ ∀ H', Q (.bl true) H'
section
variable {P : Program} {w : World} {K : PySem.W.Frag} {mg : Str → Option Value} {base : Heap}
theorem ok_law {f c Pt B M C R CPl CM CD fDs fPi fRo fRe fT fF pO gO : Addr} {mc : Value} {dDs dPi dRe dF : FuncData} {oc kV doc pm ct : Value} {od an : Option Addr} {osl : Array (Option Value)} (lk : K.lookup f = some ⟨oc, od, .func (PySem.W.fnOf "law" "law" (defArgs sLaw) (defBody sLaw) (defScope sLaw) .none kV doc pm an (.ref c) ct), osl⟩)
    (hcd : PySem.W.codeIn K (.ref c) "law" = true) (TB : LamX.TabB base mg c Pt) (T : TLaw P w K mg base B M C R CPl CM CD fDs fPi fRo fRe fT fF pO gO mc dDs dPi dRe dF) :
    FnOk P w K mg base CX0 11 f (PySem.W.fnOf "law" "law" (defArgs sLaw) (defBody sLaw) (defScope sLaw) .none kV doc pm an (.ref c) ct) ["_law_script"] (spLaw K Pt) := by
  have nd := sc_law.nd
  obtain ⟨tF, gFar⟩ := T.far
  refine fn_of lk hcd sc_law (fun vs H Q E h => ?_) fun A outer s H vs Q E hr h => ?_
  · obtain ⟨a, ns, rfl, _⟩ := h
    rfl
  · obtain ⟨a, ns, rfl, hS, hl, hP, q⟩ := h
    obtain ⟨dT, FT, bT⟩ := T.tryF
    obtain ⟨oc2, od2, kV2, doc2, pm2, an2, cdv2, ct2, osl2, rfl, lk2, hcd2⟩ := FT.ex
    have hr1 : Room 1 _ := hr.mono (by decide : 1 ≤ 10)
    have hr2 : Room 2 _ := hr.mono (by decide : 2 ≤ 10)
    have hr5 : Room 5 _ := hr.mono (by decide : 5 ≤ 10)
    have hr8 : Room 8 _ := hr.mono (by decide : 8 ≤ 10)
    have PT : ∃ t, PSs (cxOf CX0 P w K mg base lawN "law" (defScope sLaw) f (.ref c) A outer s H E).nox (defBody sLaw) t ∧ t { nx := fun _ H' => Q .non H', rt := Q } (L2.start lawN [.ref a]) H := by
      refine ⟨_, pss_cons (ps_set (i := 1) nd rfl (.inl rfl) (pe_call T.draws hr1 (by rfl) T.gDs T.kDs T.bDs .nil pass0 (pa_cons (pv 0) pa_nil)))
        (pss_cons (ps_set (i := 2) nd rfl (.inl rfl) (pe_op op_pow pe_int pe_int))
        (pss_cons (ps_for PassesOwn.never rfl (pi_range1 (by rfl) T.range (pa_cons pe_int pa_nil)) (pg_name (i := 3) nd rfl (.inl rfl))
          (C8.pss_cut (ps_set (i := 4) nd rfl (.inl rfl) (pe_call T.pick hr2 (by rfl) T.gPi T.kPi T.bPi .nil pass0 (pa_cons (pv 1) (pa_cons (pe_lst (pa_cons pe_int (pa_cons pe_int (pa_cons pe_int (pa_cons pe_int pa_nil))))) pa_nil))))
          (C8.pss_cut (ps_par (i := 7) (j := 8) (by rfl) nd rfl rfl (by decide) rfl rfl (pa_cons (pe_makeR T.mkR T.row hr5 (by rfl) T.gR pass0 (pa_cons (ClX.pe_cmeth (pe_glob (v := .ref C) (by rfl) T.gC rfl) T.crd T.cmt T.ofs hr8 pass0 (pa_cons (pe_tup (pa_cons pe_int (pa_cons (pv 4) pa_nil))) pa_nil)) (pa_cons pe_int pa_nil))) (pa_cons (pe_makeR T.mkR T.row hr5 (by rfl) T.gR pass0 (pa_cons (ClX.pe_cmeth (pe_glob (v := .ref C) (by rfl) T.gC rfl) T.crd T.cmt T.ofs hr8 pass0 (pa_cons pe_int pa_nil)) (pa_cons (pe_tup (pa_cons pe_int (pa_cons (pv 4) pa_nil))) pa_nil))) pa_nil)) (by rfl))
          (C8.pss_cut (ps_asg (pe_tup (pa_cons (pe_call T.pick hr2 (by rfl) T.gPi T.kPi T.bPi .nil pass0 (pa_cons (pv 1) (pa_cons (pe_lst (pa_cons pe_int (pa_cons pe_int (pa_cons (pv 2) (pa_cons (pe_op op_add (pv 2) pe_int) (pa_cons (pe_un un_neg pe_int) pa_nil)))))) pa_nil))) (pa_cons (pe_call T.pick hr2 (by rfl) T.gPi T.kPi T.bPi .nil pass0 (pa_cons (pv 1) (pa_cons (pe_lst (pa_cons pe_int (pa_cons (pe_un un_neg pe_int) (pa_cons pe_int (pa_cons (pv 2) (pa_cons (pe_op op_add (pv 2) pe_int) (pa_cons (pe_op op_mul (pv 4) pe_int) (pa_cons pe_int pa_nil)))))))) pa_nil))) pa_nil))) (pg_tup (by rfl) (pgs_cons (pg_name (i := 9) nd rfl (.inr rfl)) (pgs_cons (pg_name (i := 10) nd rfl (.inr rfl)) pgs_nil))))
          (C8.pss_cut (ps_set (i := 5) nd rfl (.inl rfl) (pe_ifExp (pt_not (pt_chain op_le op_le pe_int (pv 9) (pv 2))) (pe_tup (pa_cons pe_str (pa_cons (pv 9) pa_nil))) (pe_tup (pa_cons pe_str (pa_cons (pv 10) pa_nil)))))
          (C8.pss_cut (ps_if (PW.pt (pw_and (pt_chain op_le op_le pe_int (pv 9) (pv 2)) (pw_and1 (pt_chain op_le op_le pe_int (pv 10) (pv 2))))) (pss_one (ps_set (i := 5) nd rfl (.inl rfl) (pe_ifExp (pt_cmpR op_eq (pe_op op_mod (pv 10) (pv 4)) pe_int (nomark _)) (pe_tup (pa_cons pe_str (pa_cons (pv 10) pa_nil))) (pe_tup (pa_cons pe_str (pa_cons pe_bl pa_nil)))))) pss_nil)
          (pss_cons (ps_for PassesOwn.never rfl (pi_list (pe_lst (pa_cons (pv 7) (pa_cons (pv 8) pa_nil)))) (pg_name (i := 6) nd rfl (.inr rfl))
            (C8.pss_cut (ps_set (i := 11) nd rfl (.inl rfl) (LamX.pe_lamcall (k := 8) (T := [(Pt, lamQ)]) (Ng := ["_law_ask", "_law_e"]) (t := fun E => tChain (rI0 fun i j => .bl (decide (i ≤ j))) (rI0 fun i j => .bl (decide (i < j))) (tC (.int 0)) (tMeth R "residue" (spRes C R CPl CM CD) [] E (tVar 6) (tCons (tVar 9) (tCons (tVar 10) tNil))) (tVar 10)) (by rfl) T.gT T.kT lk2 hcd2 bT sc_try rfl (.inl rfl) (try_gives T.field T.gF T.kF T.bF T.gB T.gM hr2) TB rfl List.mem_cons_self (fun p hp _ => by rw [List.mem_singleton.mp hp]; rfl) hr (LamX.lamS_by (sc := defScope sLaw) (by decide +kernel)) (by rfl) (fun _ _ _ _ _ => by rfl)
              (fun A outer s H E f c' hr' => pe_chain op_le op_lt pe_int (pe_meth (pv 6) T.clR T.mRe T.res (hr'.mono (by decide : 5 ≤ 8)) T.bRe .nil (passes_call (takes_of rfl rfl rfl rfl) fun _ _ _ _ h => h) (pa_cons (pv 9) (pa_cons (pv 10) pa_nil))) (pv 10))))
            (pss_one (ps_if (pt_cmpR (op_neD hr.units) (pv 11) (pv 5) (nomark _)) (pss_one (ps_ret pe_bl)) pss_nil))))
          (pss_one (ps_if (pt_cmpR (op_neD hr.units) (LamX.pe_lamcall (k := 8) (T := [(Pt, lamQ)]) (Ng := ["_law_ask", "_law_e"]) (t := fun E => tMeth R "residue" (spRes C R CPl CM CD) [] E (tMakeR R (spRow C R) E0 (tCons (ClX.tCMeth C (spOf C) E0 (tC (.ref C)) (tCons (tC (.int 2)) tNil)) (tCons (tC (.int 3)) tNil))) (tCons (tUn (rU fun i => .int (-i)) (tC (.int 1))) (tCons (tC (.int 0)) tNil))) (by rfl) T.gT T.kT lk2 hcd2 bT sc_try rfl (.inl rfl) (try_gives T.field T.gF T.kF T.bF T.gB T.gM hr2) TB rfl List.mem_cons_self (fun p hp _ => by rw [List.mem_singleton.mp hp]; rfl) hr (LamX.lamS_by (sc := defScope sLaw) (by decide +kernel)) (by rfl) (fun _ _ _ _ _ => by rfl)
              (fun A outer s H E f c' hr' => pe_meth (pe_makeR T.mkR T.row (hr'.mono (by decide : 5 ≤ 8)) (by rfl) T.gR pass0 (pa_cons (ClX.pe_cmeth (pe_glob (v := .ref C) (by rfl) T.gC rfl) T.crd T.cmt T.ofs hr' pass0 (pa_cons pe_int pa_nil)) (pa_cons pe_int pa_nil))) T.clR T.mRe T.res (hr'.mono (by decide : 5 ≤ 8)) T.bRe .nil (passes_call (takes_of rfl rfl rfl rfl) fun _ _ _ _ h => h) (pa_cons (pe_un un_neg pe_int) (pa_cons pe_int pa_nil)))) (pe_tup (pa_cons pe_str (pa_cons (pe_un un_neg pe_int) pa_nil))) (nomark _)) (pss_one (ps_ret pe_bl)) pss_nil)))))))))
        (pss_one (ps_ret (pe_and (pe_cmpR op_eq (pe_glob (v := .int RB.far) (by rfl) gFar ⟨_, rfl⟩) (pv 2) (nomark _)) (pe_one (pe_cmpR op_eq (pe_meth (pe_makeR T.mkR T.row hr5 (by rfl) T.gR pass0 (pa_cons (ClX.pe_cmeth (pe_glob (v := .ref C) (by rfl) T.gC rfl) T.crd T.cmt T.ofs hr8 pass0 (pa_cons pe_int pa_nil)) (pa_cons pe_int pa_nil))) T.clR T.mRe T.res hr5 T.bRe .nil passL (pa_cons (pv 2) (pa_cons (pv 2) pa_nil))) pe_int (nomark _)))))))), ?_⟩
      refine ⟨.ref a, rfl, a, ns, rfl, hS, by omega, fun H1 r s1 nr R1 => ?_⟩
      refine ⟨10, 40, rfl, rfl, ⟨by decide, by decide, by decide⟩, ?_⟩
      dsimp only
      rw [ten_far]
      refine ⟨4, rfl, by decide, by decide, for_range (n := 4) (fun _ σ H' => ∃ x3 x4 x5 x6 x7 x8 x9 x10 x11 : Option V, σ = [some (.ref a), some (.ref r), some (.int RB.far), x3, x4, x5, x6, x7, x8, x9, x10, x11] ∧ RngOk H' r ∧ LamX.Tabs [(Pt, lamQ)] H') ⟨_, _, _, _, _, _, _, _, _, rfl, R1, fun p hp => ?_⟩ ?_ ?_⟩
      · rw [List.mem_singleton.mp hp]
        exact LamX.TabS.nil (s1 _ _ hP)
      · rintro i σ H2 _ ⟨x3, x4, x5, x6, x7, x8, x9, x10, x11, rfl, R2, T2⟩
        refine ⟨fun σ' H' => ∃ (b : Int) (y3 y5 y6 y7 y8 y9 y10 y11 : Option V), BaseOk b ∧ σ' = [some (.ref a), some (.ref r), some (.int RB.far), y3, some (.int b), y5, y6, y7, y8, y9, y10, y11] ∧ RngOk H' r ∧ LamX.Tabs [(Pt, lamQ)] H', ?_, ?_⟩
        · refine ⟨.ref r, rfl, lineN (by decide : 4 ≤ 1000), fun l nl => ?_⟩
          have R5 := R2.same (upd_new (o := .lst [.int 2, .int 3, .int 5, .int 7]) nl)
          refine ⟨r, l, _, rfl, R5, .inl (.inl upd_same), rng_ne_new R2 nl, Nat.succ_pos _, (by decide : 4 ≤ 1000), fun v j H6 hv R6 b6 => ?_⟩
          obtain ⟨o, ho, rfl⟩ := ints_get0 (zs := [2, 3, 5, 7]) hv
          have hb : BaseOk o := by
            have := List.mem_of_getElem? ho
            simpa [BaseOk] using this
          exact ⟨o, _, _, _, _, _, _, _, _, hb, rfl, R6, tabs_but (tabs_same T2 (upd_new nl)) R5 b6⟩
        · rintro σ' H3 ⟨b, y3, y5, y6, y7, y8, y9, y10, y11, hb, rfl, R3, T3⟩
          obtain ⟨b1, b7, cb, wz, sb, cr⟩ := base_f hb
          refine ⟨fun σ' H' => ∃ (rw' pl : Addr), σ' = [some (.ref a), some (.ref r), some (.int RB.far), y3, some (.int b), y5, y6, some (.ref rw'), some (.ref pl), y9, y10, y11] ∧ RowB C R H' rw' (-1) b 1 1 ∧ RowB C R H' pl (-1) 1 1 b ∧ Same H3 H', ?_, ?_⟩
          · refine ⟨rfl, .int b, rfl, lineN (by decide : 2 ≤ 1000), fun t1 nt1 => ?_⟩
            refine of1 (n := 1) (d := b) (.inr ⟨t1, rfl, upd_same⟩) (by omega) (by decide) (by omega) cb fun ba H4 s4 hba => ?_
            dsimp only [tCons, tC, tNil]
            refine row1 (W := [-1, b]) (zz := 1) (ss := 1) (n := 1) (d := 1) hba rfl (.inl ⟨rfl, rfl⟩) (by decide) (by decide) (by decide) (by decide +kernel) (by decide +kernel) (by decide +kernel) fun rw' H5 s5 hrw => ?_
            refine ⟨rfl, of1 (n := 1) (d := 1) (.inl ⟨rfl, rfl⟩) (by decide) (by decide) (by decide) (by decide +kernel) fun bb H6 s6 hbb => ?_⟩
            refine ⟨.int b, rfl, lineN (by decide : 2 ≤ 1000), fun t2 nt2 => ?_⟩
            have s7 := upd_new (o := .tup [.int 1, .int b]) nt2
            refine row1 (W := [-1, 1]) (zz := 1) (ss := b) (n := 1) (d := b) (hbb.same s7) rfl (.inr ⟨t2, rfl, upd_same⟩) (by omega) (by decide) (by omega) wz sb cr fun pl H8 s8 hpl => ?_
            have sa := (s6.trans s7).trans s8
            exact ⟨_, _, rfl, rw', pl, rfl, ⟨ba, hrw.same sa, (hba.same s5).same sa⟩, ⟨bb, hpl, (hbb.same s7).same s8⟩, ((upd_new nt1).trans (s4.trans s5)).trans sa⟩
          · rintro σ' H4 ⟨rw', pl, rfl, hrw, hpl, s4⟩
            have R4 := R3.same s4
            have T4 := tabs_same T3 s4
            refine ⟨fun σ' H' => ∃ (n m : Int), σ' = [some (.ref a), some (.ref r), some (.int RB.far), y3, some (.int b), y5, y6, some (.ref rw'), some (.ref pl), some (.int n), some (.int m), y11] ∧ RowB C R H' rw' (-1) b 1 1 ∧ RowB C R H' pl (-1) 1 1 b ∧ RngOk H' r ∧ LamX.Tabs [(Pt, lamQ)] H', ?_, ?_⟩
            · refine ⟨.ref r, rfl, .int RB.far, rfl, .int RB.far, rfl, _, 1, rfl, rfl, 1, rfl, lineN (by decide : 5 ≤ 1000), fun l nl => ?_⟩
              have sl := upd_new (o := .lst [.int 0, .int 5, .int RB.far, .int (RB.far + 1), .int (-1)]) nl
              have R5 := R4.same sl
              refine ⟨r, l, _, rfl, R5, .inl (.inl upd_same), rng_ne_new R4 nl, Nat.succ_pos _, (by decide : 5 ≤ 1000), fun v j H6 hv R6 b6 => ?_⟩
              obtain ⟨n, _, rfl⟩ := ints_get0 (zs := [0, 5, RB.far, RB.far + 1, -1]) hv
              have hrw6 := (hrw.same sl).but R5 b6
              have hpl6 := (hpl.same sl).but R5 b6
              have T6 := tabs_but (tabs_same T4 sl) R5 b6
              refine ⟨.ref r, rfl, 3, rfl, .int RB.far, rfl, .int RB.far, rfl, _, 1, rfl, rfl, .int b, rfl, b, 4, rfl, rfl, .inr ⟨by decide, by decide⟩, lineN (by decide : 7 ≤ 1000), fun l7 nl7 => ?_⟩
              have sl7 := upd_new (o := .lst [.int 0, .int (-3), .int 1, .int RB.far, .int (RB.far + 1), .int (b * 4), .int 11]) nl7
              have R7 := R6.same sl7
              refine ⟨r, l7, _, rfl, R7, .inl (.inl upd_same), rng_ne_new R6 nl7, Nat.succ_pos _, (by decide : 7 ≤ 1000), fun v2 j2 H8 hv2 R8 b8 => ?_⟩
              obtain ⟨m, _, rfl⟩ := ints_get0 (zs := [0, -3, 1, RB.far, RB.far + 1, b * 4, 11]) hv2
              refine ⟨lineN (by decide : 2 ≤ 1000), fun t nt => ?_⟩
              have st := upd_new (o := .tup [.int n, .int m]) nt
              refine ⟨t, _, rfl, .inl (.inl upd_same), rfl, _, [_], rfl, _, [], rfl, rfl, n, m, rfl, ((hrw6.same sl7).but R7 b8).same st, ((hpl6.same sl7).but R7 b8).same st, R8.same st, tabs_same (tabs_but (tabs_same T6 sl7) R7 b8) st⟩
            · rintro σ' H5 ⟨n, m, rfl, hrw5, hpl5, R5, T5⟩
              refine ⟨fun σ' H' => ∃ t5 : Addr, σ' = [some (.ref a), some (.ref r), some (.int RB.far), y3, some (.int b), some (.ref t5), y6, some (.ref rw'), some (.ref pl), some (.int n), some (.int m), y11] ∧ H' t5 = some (.tup (if 0 ≤ n ∧ n ≤ RB.far then [.str "InvalidModulus", .int m] else [.str "InvalidPlace", .int n])) ∧ Same H5 H', ?_, ?_⟩
              · refine ⟨.int n, rfl, 0, _, rfl, rfl, _, rfl, ite2 (fun e => ?_) (fun e => ?_)⟩
                · have n1 : (0 : Int) ≤ n := of_decide_eq_true e
                  refine ⟨.int RB.far, rfl, _, RB.far, rfl, rfl, _, rfl, ?_⟩
                  by_cases n2 : n ≤ RB.far
                  · rw [decide_eq_true n2]
                    refine iteF ⟨.int m, rfl, lineN (by decide : 2 ≤ 1000), fun t5 nt5 => ⟨t5, rfl, ?_, upd_new nt5⟩⟩
                    rw [if_pos ⟨n1, n2⟩]
                    exact upd_same
                  · rw [decide_eq_false n2]
                    refine iteT ⟨.int n, rfl, lineN (by decide : 2 ≤ 1000), fun t5 nt5 => ⟨t5, rfl, ?_, upd_new nt5⟩⟩
                    rw [if_neg fun z => n2 z.2]
                    exact upd_same
                · have n1 : ¬ (0 : Int) ≤ n := fun z => e (decide_eq_true z)
                  refine ⟨_, rfl, iteT ⟨.int n, rfl, lineN (by decide : 2 ≤ 1000), fun t5 nt5 => ⟨t5, rfl, ?_, upd_new nt5⟩⟩⟩
                  rw [if_neg fun z => n1 z.1]
                  exact upd_same
              · rintro σ' H6 ⟨t5, rfl, h5, s6⟩
                refine ⟨fun σ' H' => ∃ t6 : Addr, σ' = [some (.ref a), some (.ref r), some (.int RB.far), y3, some (.int b), some (.ref t6), y6, some (.ref rw'), some (.ref pl), some (.int n), some (.int m), y11] ∧ DueAt H' (.ref t6) (dueK n m b) ∧ Same H6 H', ?_, ?_⟩
                · have stay : ¬ ((0 ≤ n ∧ n ≤ RB.far) ∧ (1 ≤ m ∧ m ≤ RB.far)) → DueAt H6 (.ref t5) (dueK n m b) := fun hc => by
                    refine ⟨t5, rfl, ?_⟩
                    rw [h5]
                    unfold dueK
                    by_cases hn : 0 ≤ n ∧ n ≤ RB.far
                    · rw [if_pos hn, if_neg (fun z => z hn), if_pos (fun z => hc ⟨hn, z⟩)]
                    · rw [if_neg hn, if_pos hn]
                  refine ⟨.int n, rfl, 0, _, rfl, rfl, _, rfl, ite2 (fun e => ?_) (fun e => ?_)⟩
                  · have n1 : (0 : Int) ≤ n := of_decide_eq_true e
                    refine ⟨.int RB.far, rfl, _, RB.far, rfl, rfl, _, rfl, ite2 (fun e => ?_) (fun e => ?_)⟩
                    · have n2 : n ≤ RB.far := of_decide_eq_true e
                      refine ⟨.int m, rfl, 1, _, rfl, rfl, _, rfl, ite2 (fun e => ?_) (fun e => ?_)⟩
                      · have m1 : (1 : Int) ≤ m := of_decide_eq_true e
                        refine ⟨.int RB.far, rfl, _, RB.far, rfl, rfl, _, rfl, ite2 (fun e => ?_) (fun e => ?_)⟩
                        · have m2 : m ≤ RB.far := of_decide_eq_true e
                          refine ⟨.int m, rfl, .int b, rfl, m, b, rfl, rfl, by show (0 : Int) < b; omega, rfl, _, rfl, ite2 (fun e => ?_) (fun e => ?_)⟩
                          · have e : m % b = 0 := V.int.inj (of_decide_eq_true e)
                            refine ⟨.int m, rfl, lineN (by decide : 2 ≤ 1000), fun t6 nt6 => ⟨t6, rfl, ⟨t6, rfl, ?_⟩, upd_new nt6⟩⟩
                            unfold dueK
                            rw [if_neg (fun z => z ⟨n1, n2⟩), if_neg (fun z => z ⟨m1, m2⟩), if_pos e]
                            exact upd_same
                          · have e : ¬ m % b = 0 := fun z => e (decide_eq_true (congrArg V.int z))
                            refine ⟨lineN (by decide : 2 ≤ 1000), fun t6 nt6 => ⟨t6, rfl, ⟨t6, rfl, ?_⟩, upd_new nt6⟩⟩
                            unfold dueK
                            rw [if_neg (fun z => z ⟨n1, n2⟩), if_neg (fun z => z ⟨m1, m2⟩), if_neg e]
                            exact upd_same
                        · have m2 : ¬ m ≤ RB.far := fun z => e (decide_eq_true z)
                          exact ⟨t5, rfl, stay fun z => m2 z.2.2, Same.refl _⟩
                      · have m1 : ¬ (1 : Int) ≤ m := fun z => e (decide_eq_true z)
                        exact ⟨_, rfl, iteF ⟨t5, rfl, stay fun z => m1 z.2.1, Same.refl _⟩⟩
                    · have n2 : ¬ n ≤ RB.far := fun z => e (decide_eq_true z)
                      exact iteF ⟨t5, rfl, stay fun z => n2 z.1.2, Same.refl _⟩
                  · have n1 : ¬ (0 : Int) ≤ n := fun z => e (decide_eq_true z)
                    exact ⟨_, rfl, iteF (iteF ⟨t5, rfl, stay fun z => n1 z.1.1, Same.refl _⟩)⟩
                · rintro σ' H7 ⟨t6, rfl, hd, s7⟩
                  have sA := s6.trans s7
                  refine ⟨.ref rw', rfl, .ref pl, rfl, lineN (by decide : 2 ≤ 1000), fun l8 nl8 => ?_⟩
                  have s8 := sA.trans (upd_new (o := .lst [.ref rw', .ref pl]) nl8)
                  have hd8 := hd.same (upd_new (o := .lst [.ref rw', .ref pl]) nl8)
                  have hl8 : (upd H7 l8 (.lst [.ref rw', .ref pl])) l8 = some (.lst [.ref rw', .ref pl]) := upd_same
                  have hrw8 := hrw5.same s8
                  have hpl8 := hpl5.same s8
                  have R8 := R5.same s8
                  have T8 := tabs_same T5 s8
                  clear s8
                  generalize upd H7 l8 (.lst [.ref rw', .ref pl]) = H8 at *
                  have fb : b.natAbs ≤ RB.far.natAbs := Nat.le_trans (by omega : b.natAbs ≤ 7) (by decide +kernel)
                  refine ⟨l8, rfl, ⟨_, .inl (.inl hl8)⟩, for_list (xs := [.ref rw', .ref pl]) (fun _ σ H' => ∃ z6 z11 : Option V, σ = [some (.ref a), some (.ref r), some (.int RB.far), y3, some (.int b), some (.ref t6), z6, some (.ref rw'), some (.ref pl), some (.int n), some (.int m), z11] ∧ LamX.ExtN H8 H' ∧ LamX.Tabs [(Pt, lamQ)] H') ⟨_, _, rfl, LamX.ExtN.refl _, T8⟩ ?_ ?_ ?_⟩
                  · rintro i σ H' _ ⟨_, _, _, e9, _⟩
                    exact .inl (.inl (e9 _ _ hl8 (fun ps z => by cases z)))
                  · rintro i x σ H9 hx ⟨z6, z11, rfl, e9, T9⟩
                    obtain ⟨xr, w1, sc, rfl, hx9, hws, c1, c2⟩ : ∃ (xr : Addr) (w1 sc : Int), x = .ref xr ∧ RowB C R H9 xr (-1) w1 1 sc ∧ w1 * sc = b ∧ w1.natAbs ≤ RB.far.natAbs ∧ sc.natAbs ≤ RB.far.natAbs := by
                      match i, hx with
                      | 0, hx =>
                        cases hx
                        exact ⟨rw', b, 1, rfl, hrw8.ext e9, by omega, fb, by decide⟩
                      | 1, hx =>
                        cases hx
                        exact ⟨pl, 1, b, rfl, hpl8.ext e9, by omega, by decide, fb⟩
                      | _ + 2, hx => simp at hx
                    refine ⟨fun σ' H' => ∃ p : Addr, σ' = [some (.ref a), some (.ref r), some (.int RB.far), y3, some (.int b), some (.ref t6), some (.ref xr), some (.ref rw'), some (.ref pl), some (.int n), some (.int m), some (.ref p)] ∧ LamX.ExtN H9 H' ∧ LamX.Tabs [(Pt, lamQ)] H' ∧ DueAt H' (.ref p) (dueK n m b), ?_, ?_⟩
                    · refine ⟨T9, fun H10 e10 T10 => ?_⟩
                      obtain ⟨ba, hra, hba⟩ := hx9.ext e10
                      obtain ⟨dx, lx, hx1, hx2⟩ := id hra
                      refine ⟨.ref xr, rfl, xr, dx, _, rfl, hx1, rfl, .int n, rfl, .int m, rfl, xr, ba, -1, w1, 1, sc, n, m, rfl, hra, hba, by decide, c1, by decide, c2, fun hn d nd' => ?_, fun hn hm d nd' => ?_, fun hn hm hg d nd' => ?_, fun hn hm hg t H11 s11 t0 t1 _ => ?_⟩
                      · refine ⟨CPl, d, _, "InvalidPlace", .int n, rfl, rfl, upd_same, T.xP, T.cP, rfl, fv_place _ _, fun H11 p s11 np => ?_⟩
                        have sd := ((upd_new (o := .xd [("place", .int n), ("code", .str "InvalidPlace")]) nd').trans s11).trans (upd_new (o := .tup [.str "InvalidPlace", .int n]) np)
                        refine ⟨p, rfl, e10.trans (.of sd), tabs_same T10 sd, p, rfl, ?_⟩
                        unfold dueK
                        rw [if_pos hn]
                        exact upd_same
                      · refine ⟨CM, d, _, "InvalidModulus", .int m, rfl, rfl, upd_same, T.xM, T.cM, rfl, fv_mod _ _, fun H11 p s11 np => ?_⟩
                        have sd := ((upd_new (o := .xd [("modulus", .int m), ("code", .str "InvalidModulus")]) nd').trans s11).trans (upd_new (o := .tup [.str "InvalidModulus", .int m]) np)
                        refine ⟨p, rfl, e10.trans (.of sd), tabs_same T10 sd, p, rfl, ?_⟩
                        unfold dueK
                        rw [if_neg (fun z => z hn), if_pos hm]
                        exact upd_same
                      · refine ⟨CD, d, _, "SharedDivisor", .int m, rfl, rfl, upd_same, T.xD, T.cD, rfl, fv_div _ _, fun H11 p s11 np => ?_⟩
                        have sd := ((upd_new (o := .xd [("modulus", .int m), ("code", .str "SharedDivisor")]) nd').trans s11).trans (upd_new (o := .tup [.str "SharedDivisor", .int m]) np)
                        refine ⟨p, rfl, e10.trans (.of sd), tabs_same T10 sd, p, rfl, ?_⟩
                        unfold dueK
                        rw [hws] at hg
                        rw [if_neg (fun z => z hn), if_neg (fun z => z hm), if_pos ((gcd_base hb hm.1).mp hg)]
                        exact upd_same
                      · refine ⟨0, t, rfl, rfl, _, rfl, ite2 (fun _ => ?_) (fun e => absurd (decide_eq_true t0) e)⟩
                        refine ⟨.int m, rfl, t, m, rfl, rfl, lineN (by decide : 2 ≤ 1000), fun p np => ?_⟩
                        dsimp only
                        rw [decide_eq_true t1]
                        have sd := s11.trans (upd_new (o := .tup [.str "value", .bl true]) np)
                        refine ⟨p, rfl, e10.trans (.of sd), tabs_same T10 sd, p, rfl, ?_⟩
                        unfold dueK
                        rw [hws] at hg
                        rw [if_neg (fun z => z hn), if_neg (fun z => z hm), if_neg (fun z => absurd ((gcd_base hb hm.1).mpr z) (by omega))]
                        exact upd_same
                    · rintro σ' H10 ⟨p, rfl, e10, T10, hdp⟩
                      refine ⟨.ref p, rfl, .ref t6, rfl, due_ne (dueK_ok n m b) hdp (hd8.ext (e9.trans e10)) ⟨_, rfl, iteF ⟨_, _, rfl, e9.trans e10, T10⟩⟩⟩
                  · rintro σ H9 ⟨z6, z11, rfl, e9, T9⟩
                    have R9 := rng_ext R8 e9
                    refine ⟨T9, fun H10 e10 T10 => ?_⟩
                    have R10 := rng_ext R9 e10
                    refine ⟨rfl, of1 (n := 2) (d := 1) (.inl ⟨rfl, rfl⟩) (by decide) (by decide) (by decide) (by decide +kernel) fun bb H11 s11 hbb => ?_⟩
                    dsimp only [tCons, tC, tNil]
                    refine row1 (W := [-2, 1]) (zz := 3) (ss := 1) (n := 3) (d := 1) hbb rfl (.inl ⟨rfl, rfl⟩) (by decide) (by decide) (by decide) (by decide +kernel) (by decide +kernel) (by decide +kernel) fun xr H12 s12 hxr => ?_
                    obtain ⟨dx, lx, hx1, hx2⟩ := id hxr
                    refine ⟨xr, dx, _, rfl, hx1, rfl, 1, rfl, xr, bb, -2, 1, 3, 1, -1, 0, rfl, hxr, hbb.same s12, by decide, by decide, by decide, by decide, fun hn d nd' => ?_, fun hn => absurd hn.1 (by decide), fun hn => absurd hn.1 (by decide), fun hn => absurd hn.1 (by decide)⟩
                    refine ⟨CPl, d, _, "InvalidPlace", .int (-1), rfl, rfl, upd_same, T.xP, T.cP, rfl, fv_place _ _, fun H13 p s13 np => ?_⟩
                    refine ⟨1, rfl, lineN (by decide : 2 ≤ 1000), fun t2 nt2 => ?_⟩
                    have sd := (((s11.trans s12).trans (upd_new (o := .xd [("place", .int (-1)), ("code", .str "InvalidPlace")]) nd')).trans s13).trans ((upd_new (o := .tup [.str "InvalidPlace", .int (-1)]) np).trans (upd_new (o := .tup [.str "InvalidPlace", .int (-1)]) nt2))
                    refine due_ne (k := some ("InvalidPlace", -1)) (ok1 _) ⟨p, rfl, upd_new nt2 _ _ upd_same⟩ ⟨t2, rfl, upd_same⟩ ⟨_, rfl, iteF ⟨_, _, _, _, _, _, _, _, _, rfl, R10.same sd, tabs_same T10 sd⟩⟩
      · rintro σ H2 ⟨x3, x4, x5, x6, x7, x8, x9, x10, x11, rfl, R2, T2⟩
        refine ⟨.int RB.far, rfl, rfl, _, rfl, iteT ?_⟩
        refine ⟨rfl, of1 (n := 1) (d := 1) (.inl ⟨rfl, rfl⟩) (by decide) (by decide) (by decide) (by decide +kernel) fun bb H11 s11 hbb => ?_⟩
        dsimp only [tCons, tC, tNil]
        refine row1 (W := [-1, 1]) (zz := 5) (ss := 1) (n := 5) (d := 1) hbb rfl (.inl ⟨rfl, rfl⟩) (by decide) (by decide) (by decide) (by decide +kernel) (by decide +kernel) (by decide +kernel) fun xr H12 s12 hxr => ?_
        obtain ⟨dx, lx, hx1, hx2⟩ := id hxr
        refine ⟨xr, dx, _, rfl, hx1, rfl, .int RB.far, rfl, .int RB.far, rfl, xr, bb, -1, 1, 5, 1, RB.far, RB.far, rfl, hxr, hbb.same s12, by decide, by decide, by decide, by decide, fun hn => absurd ⟨by decide, Int.le_refl _⟩ hn, fun _ hm => absurd ⟨by decide, Int.le_refl _⟩ hm, fun _ _ hg => absurd hg (by decide +kernel), fun _ _ _ t H13 s13 t0 t1 tv => ?_⟩
        have e5 : t = 5 := by
          rw [tv (by decide) rfl rfl rfl]
          decide +kernel
        rw [e5]
        refine ⟨rfl, ?_⟩
        exact q _
    obtain ⟨t, h1, h2⟩ := PT
    exact ⟨t, h1.nox, h2⟩
end
end RB

set_option Elab.async false
set_option linter.all false
set_option maxRecDepth 100000
set_option maxHeartbeats 4000000
namespace RB
open PySem PySem.Spec PyProof.Rows L2
theorem all_mk {l : PySem.W.OpenLaw} {w : World} {K : PySem.W.Frag} {h : Heap} {mg : Str → Option Value} {fa0 Pt : Addr} (X : K.In h) (G_ : h.Ns mainGlobals mg) (hfa : mg "law" = some (.ref fa0))
    {f1 f2 f3 f4 f5 f6 f7 f8 f9 f10 f11 f12 f13 f14 f15 f16 f17 f18 f19 f20 f21 f22 f23 fa B C M fB fC cL T0 : Addr}
    {od1 an1 od2 an2 od3 an3 od4 an4 od5 an5 od6 an6 od7 an7 od8 an8 od9 an9 od10 an10 od11 an11 od12 an12 od13 an13 od14 an14 od15 an15 od16 an16 od17 an17 od18 an18 od19 an19 od20 an20 od21 an21 od22 an22 od23 an23 odL anL odB anB odC anC : Option Addr} {sl1 sl2 sl3 sl4 sl5 sl6 sl7 sl8 sl9 sl10 sl11 sl12 sl13 sl14 sl15 sl16 sl17 sl18 sl19 sl20 sl21 sl22 sl23 slL slB slC : Array (Option Value)} {oc1 kV1 dc1 pm1 cd1 ct1 oc2 kV2 dc2 pm2 cd2 ct2 oc3 kV3 dc3 pm3 cd3 ct3 oc4 kV4 dc4 pm4 cd4 ct4 oc5 kV5 dc5 pm5 cd5 ct5 oc6 kV6 dc6 pm6 cd6 ct6 oc7 kV7 dc7 pm7 cd7 ct7 oc8 kV8 dc8 pm8 cd8 ct8 oc9 kV9 dc9 pm9 cd9 ct9 oc10 kV10 dc10 pm10 cd10 ct10 oc11 kV11 dc11 pm11 cd11 ct11 oc12 kV12 dc12 pm12 cd12 ct12 oc13 kV13 dc13 pm13 cd13 ct13 oc14 kV14 dc14 pm14 cd14 ct14 oc15 kV15 dc15 pm15 cd15 ct15 oc16 kV16 dc16 pm16 cd16 ct16 oc17 kV17 dc17 pm17 cd17 ct17 oc18 kV18 dc18 pm18 cd18 ct18 oc19 kV19 dc19 pm19 cd19 ct19 oc20 kV20 dc20 pm20 cd20 ct20 oc21 kV21 dc21 pm21 cd21 ct21 oc22 kV22 dc22 pm22 cd22 ct22 oc23 kV23 dc23 pm23 cd23 ct23 ocL kVL dcL pmL ctL ocB kVB dcB pmB cdB ctB ocC kVC dcC pmC cdC ctC zB : Value}
    {nm q : Str} {N : Addr} {bs bm : List Value} {sn : List Str} {sub : List Value} {ab : Bool} {col : Option Bool} {dd : Option Addr} {m0 m1 m2 m3 m5 : Option Value} {oT : Obj} {nT : Nat}
    {G W C2 fC2 C3 fC3 C4 fC4 C5 fC5 fX fI fV fZ fO pS pO : Addr} {nm2 q2 nm3 q3 nm4 q4 nm5 q5 : Str} {N2 N3 N4 N5 : Addr} {bs2 bm2 bs3 bm3 bs4 bm4 bs5 bm5 rZ rO : List Value} {sn2 sn3 sn4 sn5 : List Str} {sub2 sub3 sub4 sub5 : List Value} {ab2 ab3 ab4 ab5 : Bool} {col2 col3 col4 col5 : Option Bool} {dd2 dd3 dd4 dd5 : Option Addr} {m02 m12 m22 m32 m52 m03 m13 m23 m33 m53 m04 m14 m24 m34 m54 m05 m15 m25 m35 m55 : Option Value} {odC2 anC2 odC3 anC3 odC4 anC4 odC5 anC5 odX anX odI anI odV anV odZ anZ odO anO : Option Addr} {slC2 slC3 slC4 slC5 slX slI slV slZ slO : Array (Option Value)} {ocC2 kVC2 dcC2 pmC2 cdC2 ctC2 ocC3 kVC3 dcC3 pmC3 cdC3 ctC3 ocC4 kVC4 dcC4 pmC4 cdC4 ctC4 ocC5 kVC5 dcC5 pmC5 cdC5 ctC5 ocX kVX dcX pmX cdX ctX ocI kVI dcI pmI cdI ctI ocV kVV dcV pmV cdV ctV ocZ kVZ dcZ pmZ cdZ ctZ ocO kVO dcO pmO cdO ctO : Value} {tM tL tO : Tok}
    (a1 : PySem.W.nsIn K mainGlobals "shared_factor" = some (some (.ref f1)))
    (l1 : K.lookup f1 = some ⟨oc1, od1, .func (PySem.W.fnOf "shared_factor" "shared_factor" (defArgs sShared) (defBody sShared) (defScope sShared) .none kV1 dc1 pm1 an1 cd1 ct1), sl1⟩)
    (c1 : PySem.W.codeIn K cd1 "shared_factor" = true)
    (k1 : PySem.W.keepIn K (.ref f1) = true)
    (a2 : PySem.W.nsIn K mainGlobals "least_multiple" = some (some (.ref f2)))
    (l2 : K.lookup f2 = some ⟨oc2, od2, .func (PySem.W.fnOf "least_multiple" "least_multiple" (defArgs s_least_multiple) (defBody s_least_multiple) (defScope s_least_multiple) .none kV2 dc2 pm2 an2 cd2 ct2), sl2⟩)
    (c2 : PySem.W.codeIn K cd2 "least_multiple" = true)
    (k2 : PySem.W.keepIn K (.ref f2) = true)
    (a3 : PySem.W.nsIn K mainGlobals "lowest" = some (some (.ref f3)))
    (l3 : K.lookup f3 = some ⟨oc3, od3, .func (PySem.W.fnOf "lowest" "lowest" (defArgs sLowest) (defBody sLowest) (defScope sLowest) .none kV3 dc3 pm3 an3 cd3 ct3), sl3⟩)
    (c3 : PySem.W.codeIn K cd3 "lowest" = true)
    (k3 : PySem.W.keepIn K (.ref f3) = true)
    (a4 : PySem.W.nsIn K mainGlobals "as_pair" = some (some (.ref f4)))
    (l4 : K.lookup f4 = some ⟨oc4, od4, .func (PySem.W.fnOf "as_pair" "as_pair" (defArgs s_as_pair) (defBody s_as_pair) (defScope s_as_pair) .none kV4 dc4 pm4 an4 cd4 ct4), sl4⟩)
    (c4 : PySem.W.codeIn K cd4 "as_pair" = true)
    (k4 : PySem.W.keepIn K (.ref f4) = true)
    (a5 : PySem.W.nsIn K mainGlobals "rational" = some (some (.ref f5)))
    (l5 : K.lookup f5 = some ⟨oc5, od5, .func (PySem.W.fnOf "rational" "rational" (defArgs s_rational) (defBody s_rational) (defScope s_rational) .none kV5 dc5 pm5 an5 cd5 ct5), sl5⟩)
    (c5 : PySem.W.codeIn K cd5 "rational" = true)
    (k5 : PySem.W.keepIn K (.ref f5) = true)
    (a6 : PySem.W.nsIn K mainGlobals "over_one_scale" = some (some (.ref f6)))
    (l6 : K.lookup f6 = some ⟨oc6, od6, .func (PySem.W.fnOf "over_one_scale" "over_one_scale" (defArgs s_over_one_scale) (defBody s_over_one_scale) (defScope s_over_one_scale) .none kV6 dc6 pm6 an6 cd6 ct6), sl6⟩)
    (c6 : PySem.W.codeIn K cd6 "over_one_scale" = true)
    (k6 : PySem.W.keepIn K (.ref f6) = true)
    (a7 : PySem.W.nsIn K mainGlobals "trimmed" = some (some (.ref f7)))
    (l7 : K.lookup f7 = some ⟨oc7, od7, .func (PySem.W.fnOf "trimmed" "trimmed" (defArgs s_trimmed) (defBody s_trimmed) (defScope s_trimmed) .none kV7 dc7 pm7 an7 cd7 ct7), sl7⟩)
    (c7 : PySem.W.codeIn K cd7 "trimmed" = true)
    (k7 : PySem.W.keepIn K (.ref f7) = true)
    (a8 : PySem.W.nsIn K mainGlobals "product" = some (some (.ref f8)))
    (l8 : K.lookup f8 = some ⟨oc8, od8, .func (PySem.W.fnOf "product" "product" (defArgs s_product) (defBody s_product) (defScope s_product) .none kV8 dc8 pm8 an8 cd8 ct8), sl8⟩)
    (c8 : PySem.W.codeIn K cd8 "product" = true)
    (k8 : PySem.W.keepIn K (.ref f8) = true)
    (a9 : PySem.W.nsIn K mainGlobals "content" = some (some (.ref f9)))
    (l9 : K.lookup f9 = some ⟨oc9, od9, .func (PySem.W.fnOf "content" "content" (defArgs s_content) (defBody s_content) (defScope s_content) .none kV9 dc9 pm9 an9 cd9 ct9), sl9⟩)
    (c9 : PySem.W.codeIn K cd9 "content" = true)
    (k9 : PySem.W.keepIn K (.ref f9) = true)
    (a10 : PySem.W.nsIn K mainGlobals "without_factor" = some (some (.ref f10)))
    (l10 : K.lookup f10 = some ⟨oc10, od10, .func (PySem.W.fnOf "without_factor" "without_factor" (defArgs s_without_factor) (defBody s_without_factor) (defScope s_without_factor) .none kV10 dc10 pm10 an10 cd10 ct10), sl10⟩)
    (c10 : PySem.W.codeIn K cd10 "without_factor" = true)
    (k10 : PySem.W.keepIn K (.ref f10) = true)
    (a11 : PySem.W.nsIn K mainGlobals "primitive" = some (some (.ref f11)))
    (l11 : K.lookup f11 = some ⟨oc11, od11, .func (PySem.W.fnOf "primitive" "primitive" (defArgs s_primitive) (defBody s_primitive) (defScope s_primitive) .none kV11 dc11 pm11 an11 cd11 ct11), sl11⟩)
    (c11 : PySem.W.codeIn K cd11 "primitive" = true)
    (k11 : PySem.W.keepIn K (.ref f11) = true)
    (a12 : PySem.W.nsIn K mainGlobals "whole_parts" = some (some (.ref f12)))
    (l12 : K.lookup f12 = some ⟨oc12, od12, .func (PySem.W.fnOf "whole_parts" "whole_parts" (defArgs s_whole_parts) (defBody s_whole_parts) (defScope s_whole_parts) .none kV12 dc12 pm12 an12 cd12 ct12), sl12⟩)
    (c12 : PySem.W.codeIn K cd12 "whole_parts" = true)
    (k12 : PySem.W.keepIn K (.ref f12) = true)
    (a13 : PySem.W.nsIn K mainGlobals "check_size" = some (some (.ref f13)))
    (l13 : K.lookup f13 = some ⟨oc13, od13, .func (PySem.W.fnOf "check_size" "check_size" (defArgs s_check_size) (defBody s_check_size) (defScope s_check_size) .none kV13 dc13 pm13 an13 cd13 ct13), sl13⟩)
    (c13 : PySem.W.codeIn K cd13 "check_size" = true)
    (k13 : PySem.W.keepIn K (.ref f13) = true)
    (a14 : PySem.W.nsIn K mainGlobals "inverse_by" = some (some (.ref f14)))
    (l14 : K.lookup f14 = some ⟨oc14, od14, .func (PySem.W.fnOf "inverse_by" "inverse_by" (defArgs s_inverse_by) (defBody s_inverse_by) (defScope s_inverse_by) .none kV14 dc14 pm14 an14 cd14 ct14), sl14⟩)
    (c14 : PySem.W.codeIn K cd14 "inverse_by" = true)
    (k14 : PySem.W.keepIn K (.ref f14) = true)
    (a15 : PySem.W.nsIn K mainGlobals "rest_by" = some (some (.ref f15)))
    (l15 : K.lookup f15 = some ⟨oc15, od15, .func (PySem.W.fnOf "rest_by" "rest_by" (defArgs s_rest_by) (defBody s_rest_by) (defScope s_rest_by) .none kV15 dc15 pm15 an15 cd15 ct15), sl15⟩)
    (c15 : PySem.W.codeIn K cd15 "rest_by" = true)
    (k15 : PySem.W.keepIn K (.ref f15) = true)
    (a16 : PySem.W.nsIn K mainGlobals "power_rest" = some (some (.ref f16)))
    (l16 : K.lookup f16 = some ⟨oc16, od16, .func (PySem.W.fnOf "power_rest" "power_rest" (defArgs s_power_rest) (defBody s_power_rest) (defScope s_power_rest) .none kV16 dc16 pm16 an16 cd16 ct16), sl16⟩)
    (c16 : PySem.W.codeIn K cd16 "power_rest" = true)
    (k16 : PySem.W.keepIn K (.ref f16) = true)
    (a17 : PySem.W.nsIn K mainGlobals "term_by" = some (some (.ref f17)))
    (l17 : K.lookup f17 = some ⟨oc17, od17, .func (PySem.W.fnOf "term_by" "term_by" (defArgs s_term_by) (defBody s_term_by) (defScope s_term_by) .none kV17 dc17 pm17 an17 cd17 ct17), sl17⟩)
    (c17 : PySem.W.codeIn K cd17 "term_by" = true)
    (k17 : PySem.W.keepIn K (.ref f17) = true)
    (a18 : PySem.W.nsIn K mainGlobals "check_place" = some (some (.ref f18)))
    (l18 : K.lookup f18 = some ⟨oc18, od18, .func (PySem.W.fnOf "check_place" "check_place" (defArgs s_check_place) (defBody s_check_place) (defScope s_check_place) .none kV18 dc18 pm18 an18 cd18 ct18), sl18⟩)
    (c18 : PySem.W.codeIn K cd18 "check_place" = true)
    (k18 : PySem.W.keepIn K (.ref f18) = true)
    (a19 : PySem.W.nsIn K mainGlobals "_law_draws" = some (some (.ref f19)))
    (l19 : K.lookup f19 = some ⟨oc19, od19, .func (PySem.W.fnOf "_law_draws" "_law_draws" (defArgs sDraws) (defBody sDraws) (defScope sDraws) .none kV19 dc19 pm19 an19 cd19 ct19), sl19⟩)
    (c19 : PySem.W.codeIn K cd19 "_law_draws" = true)
    (k19 : PySem.W.keepIn K (.ref f19) = true)
    (a20 : PySem.W.nsIn K mainGlobals "_law_draw" = some (some (.ref f20)))
    (l20 : K.lookup f20 = some ⟨oc20, od20, .func (PySem.W.fnOf "_law_draw" "_law_draw" (defArgs sDraw) (defBody sDraw) (defScope sDraw) .none kV20 dc20 pm20 an20 cd20 ct20), sl20⟩)
    (c20 : PySem.W.codeIn K cd20 "_law_draw" = true)
    (k20 : PySem.W.keepIn K (.ref f20) = true)
    (a21 : PySem.W.nsIn K mainGlobals "_law_pick" = some (some (.ref f21)))
    (l21 : K.lookup f21 = some ⟨oc21, od21, .func (PySem.W.fnOf "_law_pick" "_law_pick" (defArgs sPick) (defBody sPick) (defScope sPick) .none kV21 dc21 pm21 an21 cd21 ct21), sl21⟩)
    (c21 : PySem.W.codeIn K cd21 "_law_pick" = true)
    (k21 : PySem.W.keepIn K (.ref f21) = true)
    (a22 : PySem.W.nsIn K mainGlobals "_law_field" = some (some (.ref f22)))
    (l22 : K.lookup f22 = some ⟨oc22, od22, .func (PySem.W.fnOf "_law_field" "_law_field" (defArgs sField) (defBody sField) (defScope sField) .none kV22 dc22 pm22 an22 cd22 ct22), sl22⟩)
    (c22 : PySem.W.codeIn K cd22 "_law_field" = true)
    (k22 : PySem.W.keepIn K (.ref f22) = true)
    (a23 : PySem.W.nsIn K mainGlobals "_law_try" = some (some (.ref f23)))
    (l23 : K.lookup f23 = some ⟨oc23, od23, .func (PySem.W.fnOf "_law_try" "_law_try" (defArgs sTry) (defBody sTry) (defScope sTry) .none kV23 dc23 pm23 an23 cd23 ct23), sl23⟩)
    (c23 : PySem.W.codeIn K cd23 "_law_try" = true)
    (k23 : PySem.W.keepIn K (.ref f23) = true)
    (aL : PySem.W.nsIn K mainGlobals "law" = some (some (.ref fa)))
    (lL : K.lookup fa = some ⟨ocL, odL, .func (PySem.W.fnOf "law" "law" (defArgs sLaw) (defBody sLaw) (defScope sLaw) .none kVL dcL pmL anL (.ref cL) ctL), slL⟩)
    (cdL : PySem.W.codeIn K (.ref cL) "law" = true)
    (z_abs : PySem.W.nsIn K mainGlobals "abs" = some none)
    (z_any : PySem.W.nsIn K mainGlobals "any" = some none)
    (z_enumerate : PySem.W.nsIn K mainGlobals "enumerate" = some none)
    (z_int : PySem.W.nsIn K mainGlobals "int" = some none)
    (z_isinstance : PySem.W.nsIn K mainGlobals "isinstance" = some none)
    (z_len : PySem.W.nsIn K mainGlobals "len" = some none)
    (z_list : PySem.W.nsIn K mainGlobals "list" = some none)
    (z_range : PySem.W.nsIn K mainGlobals "range" = some none)
    (z_sum : PySem.W.nsIn K mainGlobals "sum" = some none)
    (z_zip : PySem.W.nsIn K mainGlobals "zip" = some none)
    (aB : PySem.W.nsIn K mainGlobals "BagError" = some (some (.ref B)))
    (aC : PySem.W.nsIn K mainGlobals "InvalidNumber" = some (some (.ref C)))
    (aM : PySem.W.nsIn K mainGlobals "Missing" = some (some (.ref M)))
    (xC : K.lookup C = some (excClassObj nm q C N bs bm true sn sub ab col dd m0 m1 m2 m3 m5 "ValueError.__new__"))
    (sa : PySem.W.findIn K (.ref C) "__setattr__" = some (some (.builtin "object.__setattr__")))
    (nb : PySem.W.findIn K (.ref C) "code" = some none)
    (iC : PySem.W.findIn K (.ref C) "__init__" = some (some (.ref fC)))
    (tC : PySem.W.typeIn K (.ref fC) = some (.type "function"))
    (lC : K.lookup fC = some ⟨ocC, odC, .func (PySem.W.fnOf "__init__" "InvalidNumber.__init__" (defArgs sInvInit) (defBody sInvInit) (defScope sInvInit) .none kVC dcC pmC anC cdC ctC), slC⟩)
    (cC : PySem.W.codeIn K cdC "InvalidNumber.__init__" = true)
    (kfC : PySem.W.keepIn K (.ref fC) = true)
    (iB : PySem.W.findCls K (.ref B) (.type "type") "__init__" = some (.val (.ref fB)))
    (lB : K.lookup fB = some ⟨ocB, odB, .func (PySem.W.fnOf "__init__" "BagError.__init__" (defArgs sBagInit) (defBody sBagInit) (defScope sBagInit) (.ref T0) kVB dcB pmB anB cdB ctB), slB⟩)
    (cB : PySem.W.codeIn K cdB "BagError.__init__" = true)
    (rB : PySem.W.readsIn K B (.type "type") = true)
    (gB : PySem.W.specialIn K (.ref B) "__getattribute__" = some (some (.builtin "type.__getattribute__")))
    (kB : PySem.W.keepIn K (.ref fB) = true)
    (lT : K.lookup T0 = some oT)
    (kC : PySem.W.keepIn K (.ref C) = true)
    (eC : PySem.W.subIn K (.ref C) (.type "BaseException") = some true)
    (tyC : PySem.W.typeIn K (.ref C) = some (.type "type"))
    (eB : PySem.W.subIn K (.ref B) (.type "BaseException") = some true)
    (cxB : PySem.W.isClsIn K B = true)
    (tyB : PySem.W.typeIn K (.ref B) = some (.type "type"))
    (sB : PySem.W.subIn K (.ref C) (.ref B) = some true)
    (aC2 : PySem.W.nsIn K mainGlobals "InvalidPolynomial" = some (some (.ref C2)))
    (xC2 : K.lookup C2 = some (excClassObj nm2 q2 C2 N2 bs2 bm2 true sn2 sub2 ab2 col2 dd2 m02 m12 m22 m32 m52 "ValueError.__new__"))
    (sa2 : PySem.W.findIn K (.ref C2) "__setattr__" = some (some (.builtin "object.__setattr__")))
    (nb2 : PySem.W.findIn K (.ref C2) "code" = some none)
    (iC2 : PySem.W.findIn K (.ref C2) "__init__" = some (some (.ref fC2)))
    (tC2 : PySem.W.typeIn K (.ref fC2) = some (.type "function"))
    (lC2 : K.lookup fC2 = some ⟨ocC2, odC2, .func (PySem.W.fnOf "__init__" "InvalidPolynomial.__init__" (defArgs c_InvalidPolynomial_init) (defBody c_InvalidPolynomial_init) (defScope c_InvalidPolynomial_init) .none kVC2 dcC2 pmC2 anC2 cdC2 ctC2), slC2⟩)
    (cC2 : PySem.W.codeIn K cdC2 "InvalidPolynomial.__init__" = true)
    (kfC2 : PySem.W.keepIn K (.ref fC2) = true)
    (kC2 : PySem.W.keepIn K (.ref C2) = true)
    (eC2 : PySem.W.subIn K (.ref C2) (.type "BaseException") = some true)
    (tyC2 : PySem.W.typeIn K (.ref C2) = some (.type "type"))
    (hbm2 : PySem.HandSPX.refsVE bm2 = true)
    (aC3 : PySem.W.nsIn K mainGlobals "InvalidPlace" = some (some (.ref C3)))
    (xC3 : K.lookup C3 = some (excClassObj nm3 q3 C3 N3 bs3 bm3 true sn3 sub3 ab3 col3 dd3 m03 m13 m23 m33 m53 "ValueError.__new__"))
    (sa3 : PySem.W.findIn K (.ref C3) "__setattr__" = some (some (.builtin "object.__setattr__")))
    (nb3 : PySem.W.findIn K (.ref C3) "code" = some none)
    (iC3 : PySem.W.findIn K (.ref C3) "__init__" = some (some (.ref fC3)))
    (tC3 : PySem.W.typeIn K (.ref fC3) = some (.type "function"))
    (lC3 : K.lookup fC3 = some ⟨ocC3, odC3, .func (PySem.W.fnOf "__init__" "InvalidPlace.__init__" (defArgs c_InvalidPlace_init) (defBody c_InvalidPlace_init) (defScope c_InvalidPlace_init) .none kVC3 dcC3 pmC3 anC3 cdC3 ctC3), slC3⟩)
    (cC3 : PySem.W.codeIn K cdC3 "InvalidPlace.__init__" = true)
    (kfC3 : PySem.W.keepIn K (.ref fC3) = true)
    (kC3 : PySem.W.keepIn K (.ref C3) = true)
    (eC3 : PySem.W.subIn K (.ref C3) (.type "BaseException") = some true)
    (tyC3 : PySem.W.typeIn K (.ref C3) = some (.type "type"))
    (sB3 : PySem.W.subIn K (.ref C3) (.ref B) = some true)
    (hbm3 : PySem.HandSPX.refsVE bm3 = true)
    (xe3 : xerrB K C3 = true)
    (nf3 : PySem.W.findIn K (.ref C3) "place" = some none)
    (aC4 : PySem.W.nsIn K mainGlobals "InvalidModulus" = some (some (.ref C4)))
    (xC4 : K.lookup C4 = some (excClassObj nm4 q4 C4 N4 bs4 bm4 true sn4 sub4 ab4 col4 dd4 m04 m14 m24 m34 m54 "ValueError.__new__"))
    (sa4 : PySem.W.findIn K (.ref C4) "__setattr__" = some (some (.builtin "object.__setattr__")))
    (nb4 : PySem.W.findIn K (.ref C4) "code" = some none)
    (iC4 : PySem.W.findIn K (.ref C4) "__init__" = some (some (.ref fC4)))
    (tC4 : PySem.W.typeIn K (.ref fC4) = some (.type "function"))
    (lC4 : K.lookup fC4 = some ⟨ocC4, odC4, .func (PySem.W.fnOf "__init__" "InvalidModulus.__init__" (defArgs c_InvalidModulus_init) (defBody c_InvalidModulus_init) (defScope c_InvalidModulus_init) .none kVC4 dcC4 pmC4 anC4 cdC4 ctC4), slC4⟩)
    (cC4 : PySem.W.codeIn K cdC4 "InvalidModulus.__init__" = true)
    (kfC4 : PySem.W.keepIn K (.ref fC4) = true)
    (kC4 : PySem.W.keepIn K (.ref C4) = true)
    (eC4 : PySem.W.subIn K (.ref C4) (.type "BaseException") = some true)
    (tyC4 : PySem.W.typeIn K (.ref C4) = some (.type "type"))
    (sB4 : PySem.W.subIn K (.ref C4) (.ref B) = some true)
    (hbm4 : PySem.HandSPX.refsVE bm4 = true)
    (xe4 : xerrB K C4 = true)
    (nf4 : PySem.W.findIn K (.ref C4) "modulus" = some none)
    (aC5 : PySem.W.nsIn K mainGlobals "SharedDivisor" = some (some (.ref C5)))
    (xC5 : K.lookup C5 = some (excClassObj nm5 q5 C5 N5 bs5 bm5 true sn5 sub5 ab5 col5 dd5 m05 m15 m25 m35 m55 "ValueError.__new__"))
    (sa5 : PySem.W.findIn K (.ref C5) "__setattr__" = some (some (.builtin "object.__setattr__")))
    (nb5 : PySem.W.findIn K (.ref C5) "code" = some none)
    (iC5 : PySem.W.findIn K (.ref C5) "__init__" = some (some (.ref fC5)))
    (tC5 : PySem.W.typeIn K (.ref fC5) = some (.type "function"))
    (lC5 : K.lookup fC5 = some ⟨ocC5, odC5, .func (PySem.W.fnOf "__init__" "SharedDivisor.__init__" (defArgs c_SharedDivisor_init) (defBody c_SharedDivisor_init) (defScope c_SharedDivisor_init) .none kVC5 dcC5 pmC5 anC5 cdC5 ctC5), slC5⟩)
    (cC5 : PySem.W.codeIn K cdC5 "SharedDivisor.__init__" = true)
    (kfC5 : PySem.W.keepIn K (.ref fC5) = true)
    (kC5 : PySem.W.keepIn K (.ref C5) = true)
    (eC5 : PySem.W.subIn K (.ref C5) (.type "BaseException") = some true)
    (tyC5 : PySem.W.typeIn K (.ref C5) = some (.type "type"))
    (sB5 : PySem.W.subIn K (.ref C5) (.ref B) = some true)
    (hbm5 : PySem.HandSPX.refsVE bm5 = true)
    (xe5 : xerrB K C5 = true)
    (nf5 : PySem.W.findIn K (.ref C5) "modulus" = some none)
    (oM : PySem.W.nsIn K mainGlobals "MAX_SIZE" = some (some (.int 40 tM)))
    (oL : PySem.W.nsIn K mainGlobals "TOO_LONG" = some (some (.int 10000000000000000000000000000000000000000000000000000000000000000000000000000000000000000000000000000 tL)))
    (oO : PySem.W.nsIn K mainGlobals "FAR" = some (some (.int 10000000000000000000000000000000000000000 tO)))
    (aG : PySem.W.nsIn K mainGlobals "Bag" = some (some (.ref G)))
    (aX : PySem.W.findIn K (.ref G) "__init__" = some (some (.ref fX)))
    (iX : PySem.W.isFn K (.ref fX) = true)
    (lX : K.lookup fX = some ⟨ocX, odX, .func (PySem.W.fnOf "__init__" "Bag.__init__" (defArgs c_Bag_init) (defBody c_Bag_init) (defScope c_Bag_init) .none kVX dcX pmX anX cdX ctX), slX⟩)
    (cX : PySem.W.codeIn K cdX "Bag.__init__" = true)
    (kX : PySem.W.keepIn K (.ref fX) = true)
    (aW : PySem.W.nsIn K mainGlobals "Row" = some (some (.ref W)))
    (aI : PySem.W.findIn K (.ref W) "__init__" = some (some (.ref fI)))
    (iI : PySem.W.isFn K (.ref fI) = true)
    (lI : K.lookup fI = some ⟨ocI, odI, .func (PySem.W.fnOf "__init__" "Row.__init__" (defArgs c_Row_init) (defBody c_Row_init) (defScope c_Row_init) .none kVI dcI pmI anI cdI ctI), slI⟩)
    (cI : PySem.W.codeIn K cdI "Row.__init__" = true)
    (kI : PySem.W.keepIn K (.ref fI) = true)
    (aV : PySem.W.findIn K (.ref W) "residue" = some (some (.ref fV)))
    (iV : PySem.W.isFn K (.ref fV) = true)
    (lV : K.lookup fV = some ⟨ocV, odV, .func (PySem.W.fnOf "residue" "Row.residue" (defArgs c_Row_residue) (defBody c_Row_residue) (defScope c_Row_residue) .none kVV dcV pmV anV cdV ctV), slV⟩)
    (cV : PySem.W.codeIn K cdV "Row.residue" = true)
    (kV : PySem.W.keepIn K (.ref fV) = true)
    (pgW : PySem.W.plainGet K W Str.empty = true)
    (hdW : PySem.W.hasDictIn K W = true)
    (poW : PySem.W.plainOver K W = true)
    (saW : PySem.W.findIn K (.ref W) "__setattr__" = some (some (.builtin "object.__setattr__")))
    (mkW : PySem.W.makesIn K W = true)
    (kcW : PySem.W.keepIn K (.ref W) = true)
    (n1W : PySem.W.findIn K (.ref W) "bag" = some none)
    (n2W : PySem.W.findIn K (.ref W) "numbers" = some none)
    (n3W : PySem.W.findIn K (.ref W) "scale" = some none)
    (pgG : PySem.W.plainGet K G Str.empty = true)
    (hdG : PySem.W.hasDictIn K G = true)
    (poG : PySem.W.plainOver K G = true)
    (saG : PySem.W.findIn K (.ref G) "__setattr__" = some (some (.builtin "object.__setattr__")))
    (mkG : PySem.W.makesIn K G = true)
    (kcG : PySem.W.keepIn K (.ref G) = true)
    (nwG : PySem.W.findIn K (.ref G) "whole" = some none)
    (sfG : PySem.W.selfFirst K G = true)
    (pS1 : PySem.W.findIn K (.ref G) "size" = some (some (.ref pS)))
    (pS2 : PySem.W.specialIn K (.ref pS) "__get__" = some (some (.builtin "property.__get__")))
    (pS3 : PySem.W.takesIn K (.ref pS) = some true)
    (pS4 : PySem.W.recIn K pS "property" = some (.ref fZ :: rZ))
    (lZ : K.lookup fZ = some ⟨ocZ, odZ, .func (PySem.W.fnOf "size" "Bag.size" (defArgs c_Bag_size) (defBody c_Bag_size) (defScope c_Bag_size) .none kVZ dcZ pmZ anZ cdZ ctZ), slZ⟩)
    (cZ : PySem.W.codeIn K cdZ "Bag.size" = true)
    (kZ : PySem.W.keepIn K (.ref fZ) = true)
    (ca : PySem.W.findIn K (.ref G) "__class__" = some (some (.builtin "object.__class__")))
    (cn : PySem.W.specialIn K (.builtin "object.__class__") "__get__" = some (some (.builtin "getset_descriptor.__get__")))
    (ct : PySem.W.takesIn K (.builtin "object.__class__") = some true)
    (cm : PySem.W.mroIn K G (.type "object") = some true)
    (crG : PySem.W.readsIn K G (.type "type") = true)
    (cgG : PySem.W.specialIn K (.ref G) "__getattribute__" = some (some (.builtin "type.__getattribute__")))
    (omG : PySem.W.findCls K (.ref G) (.type "type") "of" = some (.get (.builtin "classmethod.__get__") (.ref pO) .none (.ref G)))
    (orG : PySem.W.recIn K pO "classmethod" = some (.ref fO :: rO))
    (ofG : PySem.W.fnIn K fO = true)
    (lO : K.lookup fO = some ⟨ocO, odO, .func (PySem.W.fnOf "of" "Bag.of" (defArgs c_Bag_of) (defBody c_Bag_of) (defScope c_Bag_of) .none kVO dcO pmO anO cdO ctO), slO⟩)
    (cO : PySem.W.codeIn K cdO "Bag.of" = true)
    (hbm : PySem.HandSPX.refsVE bm = true)
    (oTd : oT.data = .seq #[zB] nT)
    (xe : xerrB K C = true)
    (hT : h.get? Pt = some { cls := .none, data := .fields #[] })
    (nT0 : K.lookup Pt = none)
    (cH : PySem.W.CodeHd h cL Pt) :
    LamX.LawAtS l w K CX0 11 63 "_law_script" mg fa0 h := by
  have e := hfa.symm.trans (PySem.W.mg_of X G_ aL)
  cases e
  have F1 := fun_mk (st := sShared) l1 c1 k1
  have b1 := F1.binds (ps := ["one", "other"]) fun _ _ _ _ _ _ us hl => match us, hl with | [_, _], _ => rfl
  have g1 := PySem.W.mg_of X G_ a1
  have F2 := fun_mk (st := s_least_multiple) l2 c2 k2
  have b2 := F2.binds (ps := ["one", "other"]) fun _ _ _ _ _ _ us hl => match us, hl with | [_, _], _ => rfl
  have g2 := PySem.W.mg_of X G_ a2
  have F3 := fun_mk (st := sLowest) l3 c3 k3
  have b3 := F3.binds (ps := ["numerator", "denominator"]) fun _ _ _ _ _ _ us hl => match us, hl with | [_, _], _ => rfl
  have g3 := PySem.W.mg_of X G_ a3
  have F4 := fun_mk (st := s_as_pair) l4 c4 k4
  have b4 := F4.binds (ps := ["value"]) fun _ _ _ _ _ _ us hl => match us, hl with | [_], _ => rfl
  have g4 := PySem.W.mg_of X G_ a4
  have F5 := fun_mk (st := s_rational) l5 c5 k5
  have b5 := F5.binds (ps := ["value"]) fun _ _ _ _ _ _ us hl => match us, hl with | [_], _ => rfl
  have g5 := PySem.W.mg_of X G_ a5
  have F6 := fun_mk (st := s_over_one_scale) l6 c6 k6
  have b6 := F6.binds (ps := ["values"]) fun _ _ _ _ _ _ us hl => match us, hl with | [_], _ => rfl
  have g6 := PySem.W.mg_of X G_ a6
  have F7 := fun_mk (st := s_trimmed) l7 c7 k7
  have b7 := F7.binds (ps := ["numbers"]) fun _ _ _ _ _ _ us hl => match us, hl with | [_], _ => rfl
  have g7 := PySem.W.mg_of X G_ a7
  have F8 := fun_mk (st := s_product) l8 c8 k8
  have b8 := F8.binds (ps := ["one", "other"]) fun _ _ _ _ _ _ us hl => match us, hl with | [_, _], _ => rfl
  have g8 := PySem.W.mg_of X G_ a8
  have F9 := fun_mk (st := s_content) l9 c9 k9
  have b9 := F9.binds (ps := ["numbers"]) fun _ _ _ _ _ _ us hl => match us, hl with | [_], _ => rfl
  have g9 := PySem.W.mg_of X G_ a9
  have F10 := fun_mk (st := s_without_factor) l10 c10 k10
  have b10 := F10.binds (ps := ["numbers", "factor"]) fun _ _ _ _ _ _ us hl => match us, hl with | [_, _], _ => rfl
  have g10 := PySem.W.mg_of X G_ a10
  have F11 := fun_mk (st := s_primitive) l11 c11 k11
  have b11 := F11.binds (ps := ["numbers"]) fun _ _ _ _ _ _ us hl => match us, hl with | [_], _ => rfl
  have g11 := PySem.W.mg_of X G_ a11
  have F12 := fun_mk (st := s_whole_parts) l12 c12 k12
  have b12 := F12.binds (ps := ["poly"]) fun _ _ _ _ _ _ us hl => match us, hl with | [_], _ => rfl
  have g12 := PySem.W.mg_of X G_ a12
  have F13 := fun_mk (st := s_check_size) l13 c13 k13
  have b13 := F13.binds (ps := ["size"]) fun _ _ _ _ _ _ us hl => match us, hl with | [_], _ => rfl
  have g13 := PySem.W.mg_of X G_ a13
  have F14 := fun_mk (st := s_inverse_by) l14 c14 k14
  have b14 := F14.binds (ps := ["number", "modulus"]) fun _ _ _ _ _ _ us hl => match us, hl with | [_, _], _ => rfl
  have g14 := PySem.W.mg_of X G_ a14
  have F15 := fun_mk (st := s_rest_by) l15 c15 k15
  have b15 := F15.binds (ps := ["numbers", "divisor", "modulus"]) fun _ _ _ _ _ _ us hl => match us, hl with | [_, _, _], _ => rfl
  have g15 := PySem.W.mg_of X G_ a15
  have F16 := fun_mk (st := s_power_rest) l16 c16 k16
  have b16 := F16.binds (ps := ["exponent", "divisor", "modulus"]) fun _ _ _ _ _ _ us hl => match us, hl with | [_, _, _], _ => rfl
  have g16 := PySem.W.mg_of X G_ a16
  have F17 := fun_mk (st := s_term_by) l17 c17 k17
  have b17 := F17.binds (ps := ["whole", "numbers", "scale", "place", "modulus"]) fun _ _ _ _ _ _ us hl => match us, hl with | [_, _, _, _, _], _ => rfl
  have g17 := PySem.W.mg_of X G_ a17
  have F18 := fun_mk (st := s_check_place) l18 c18 k18
  have b18 := F18.binds (ps := ["place", "most"]) fun _ _ _ _ _ _ us hl => match us, hl with | [_, _], _ => rfl
  have g18 := PySem.W.mg_of X G_ a18
  have F19 := fun_mk (st := sDraws) l19 c19 k19
  have b19 := F19.binds (ps := ["_law_script"]) fun _ _ _ _ _ _ us hl => match us, hl with | [_], _ => rfl
  have g19 := PySem.W.mg_of X G_ a19
  have F20 := fun_mk (st := sDraw) l20 c20 k20
  have b20 := F20.binds (ps := ["_law_rng", "_law_amount"]) fun _ _ _ _ _ _ us hl => match us, hl with | [_, _], _ => rfl
  have g20 := PySem.W.mg_of X G_ a20
  have F21 := fun_mk (st := sPick) l21 c21 k21
  have b21 := F21.binds (ps := ["_law_rng", "_law_things"]) fun _ _ _ _ _ _ us hl => match us, hl with | [_, _], _ => rfl
  have g21 := PySem.W.mg_of X G_ a21
  have F22 := fun_mk (st := sField) l22 c22 k22
  have b22 := F22.binds (ps := ["_law_e"]) fun _ _ _ _ _ _ us hl => match us, hl with | [_], _ => rfl
  have g22 := PySem.W.mg_of X G_ a22
  have F23 := fun_mk (st := sTry) l23 c23 k23
  have b23 := F23.binds (ps := ["_law_ask"]) fun _ _ _ _ _ _ us hl => match us, hl with | [_], _ => rfl
  have g23 := PySem.W.mg_of X G_ a23
  have m_abs := PySem.W.mg_none_of X G_ z_abs
  have m_any := PySem.W.mg_none_of X G_ z_any
  have m_enumerate := PySem.W.mg_none_of X G_ z_enumerate
  have m_int := PySem.W.mg_none_of X G_ z_int
  have m_isinstance := PySem.W.mg_none_of X G_ z_isinstance
  have m_len := PySem.W.mg_none_of X G_ z_len
  have m_list := PySem.W.mg_none_of X G_ z_list
  have m_range := PySem.W.mg_none_of X G_ z_range
  have m_sum := PySem.W.mg_none_of X G_ z_sum
  have m_zip := PySem.W.mg_none_of X G_ z_zip
  have oex : OexC K C := ⟨⟨nm, q, N, bs, bm, sn, sub, ab, col, dd, m0, m1, m2, m3, m5, xC, hbm⟩, sa, eC, tyC, kC⟩
  have FC := fun_mk (st := sInvInit) lC cC kfC
  have bC := FC.binds (ps := ["self"]) fun _ _ _ _ _ _ us hl => match us, hl with | [_], _ => rfl
  have TI : TInv K mg B C fB fC (PySem.W.fnOf "__init__" "BagError.__init__" (defArgs sBagInit) (defBody sBagInit) (defScope sBagInit) (.ref T0) kVB dcB pmB anB cdB ctB) _ := ⟨oex, PySem.W.mg_of X G_ aC, PySem.W.mg_of X G_ aB, nb, iC, tC, ⟨rB, gB⟩, iB, kB, binds_bag lT oTd, FC, bC⟩
  have oex2 : OexC K C2 := ⟨⟨nm2, q2, N2, bs2, bm2, sn2, sub2, ab2, col2, dd2, m02, m12, m22, m32, m52, xC2, hbm2⟩, sa2, eC2, tyC2, kC2⟩
  have FC2 := fun_mk (st := c_InvalidPolynomial_init) lC2 cC2 kfC2
  have bC2 := FC2.binds (ps := ["self"]) fun _ _ _ _ _ _ us hl => match us, hl with | [_], _ => rfl
  have TP2 : TPol K mg B C2 fB fC2 (PySem.W.fnOf "__init__" "BagError.__init__" (defArgs sBagInit) (defBody sBagInit) (defScope sBagInit) (.ref T0) kVB dcB pmB anB cdB ctB) _ := ⟨oex2, PySem.W.mg_of X G_ aC2, PySem.W.mg_of X G_ aB, nb2, iC2, tC2, ⟨rB, gB⟩, iB, kB, binds_bag lT oTd, FC2, bC2⟩
  have oex3 : OexC K C3 := ⟨⟨nm3, q3, N3, bs3, bm3, sn3, sub3, ab3, col3, dd3, m03, m13, m23, m33, m53, xC3, hbm3⟩, sa3, eC3, tyC3, kC3⟩
  have FC3 := fun_mk (st := c_InvalidPlace_init) lC3 cC3 kfC3
  have bC3 := FC3.binds (ps := ["self", "place"]) fun _ _ _ _ _ _ us hl => match us, hl with | [_, _], _ => rfl
  have TP3 : TInvalidPlace K mg B C3 fB fC3 (PySem.W.fnOf "__init__" "BagError.__init__" (defArgs sBagInit) (defBody sBagInit) (defScope sBagInit) (.ref T0) kVB dcB pmB anB cdB ctB) _ := ⟨oex3, PySem.W.mg_of X G_ aC3, PySem.W.mg_of X G_ aB, nb3, nf3, iC3, tC3, ⟨rB, gB⟩, iB, kB, binds_bag lT oTd, FC3, bC3⟩
  have oex4 : OexC K C4 := ⟨⟨nm4, q4, N4, bs4, bm4, sn4, sub4, ab4, col4, dd4, m04, m14, m24, m34, m54, xC4, hbm4⟩, sa4, eC4, tyC4, kC4⟩
  have FC4 := fun_mk (st := c_InvalidModulus_init) lC4 cC4 kfC4
  have bC4 := FC4.binds (ps := ["self", "modulus"]) fun _ _ _ _ _ _ us hl => match us, hl with | [_, _], _ => rfl
  have TP4 : TInvalidModulus K mg B C4 fB fC4 (PySem.W.fnOf "__init__" "BagError.__init__" (defArgs sBagInit) (defBody sBagInit) (defScope sBagInit) (.ref T0) kVB dcB pmB anB cdB ctB) _ := ⟨oex4, PySem.W.mg_of X G_ aC4, PySem.W.mg_of X G_ aB, nb4, nf4, iC4, tC4, ⟨rB, gB⟩, iB, kB, binds_bag lT oTd, FC4, bC4⟩
  have oex5 : OexC K C5 := ⟨⟨nm5, q5, N5, bs5, bm5, sn5, sub5, ab5, col5, dd5, m05, m15, m25, m35, m55, xC5, hbm5⟩, sa5, eC5, tyC5, kC5⟩
  have FC5 := fun_mk (st := c_SharedDivisor_init) lC5 cC5 kfC5
  have bC5 := FC5.binds (ps := ["self", "modulus"]) fun _ _ _ _ _ _ us hl => match us, hl with | [_, _], _ => rfl
  have TP5 : TSharedDivisor K mg B C5 fB fC5 (PySem.W.fnOf "__init__" "BagError.__init__" (defArgs sBagInit) (defBody sBagInit) (defScope sBagInit) (.ref T0) kVB dcB pmB anB cdB ctB) _ := ⟨oex5, PySem.W.mg_of X G_ aC5, PySem.W.mg_of X G_ aB, nb5, nf5, iC5, tC5, ⟨rB, gB⟩, iB, kB, binds_bag lT oTd, FC5, bC5⟩
  have FX := fun_mk (st := c_Bag_init) lX cX kX
  have bX := FX.binds (ps := ["self", "parts"]) fun _ _ _ _ _ _ us hl => match us, hl with | [_, _], _ => rfl
  have FV := fun_mk (st := c_Row_residue) lV cV kV
  have bV := FV.binds (ps := ["self", "place", "modulus"]) fun _ _ _ _ _ _ us hl => match us, hl with | [_, _, _], _ => rfl
  have FZ := fun_mk (st := c_Bag_size) lZ cZ kZ
  have bZ := FZ.binds (ps := ["self"]) fun _ _ _ _ _ _ us hl => match us, hl with | [_], _ => rfl
  have TG : TBag K mg G := ⟨⟨pgG, hdG, poG, saG⟩, nwG, m_len, m_any, m_abs, ⟨tL, PySem.W.mg_of X G_ oL⟩⟩
  have T2 : TBag2 K mg G pS fZ := ⟨PySem.W.mg_of X G_ aG, m_isinstance, ⟨pS1, pS2, pS3, ⟨_, pS4⟩⟩, ca, cn, ct, cm⟩
  have MG : Mk K G fX := ⟨mkG, aX, iX, kcG⟩
  have TR : TRow K mg W := ⟨⟨pgW, hdW, poW, saW⟩, n1W, n2W, n3W, m_len⟩
  have MW : Mk K W fI := ⟨mkW, aI, iI, kcW⟩
  refine ⟨PySem.W.fnOf "law" "law" (defArgs sLaw) (defBody sLaw) (defScope sLaw) .none kVL dcL pmL anL (.ref cL) ctL, [(cL, Pt)], spLaw K Pt, fun p hp => ?_, fun p hp => ?_, fun p hp => ?_, fun s v => .of_eq rfl, fun H a ns hl _ hH hS => ⟨a, ns, rfl, hS, hl, hH _ List.mem_cons_self, fun _ => rfl⟩, fun base _ _ hTB => ?_⟩
  · rw [List.mem_singleton.mp hp]
    exact hT
  · rw [List.mem_singleton.mp hp]
    exact nT0
  · rw [List.mem_singleton.mp hp]
    exact cH
  · have E := err_inv (P := l.prog) (w := w) (base := base) TI (ok_bag lB cB)
    have EP := err_pol (P := l.prog) (w := w) (base := base) TP2 (ok_bag lB cB)
    have EPl := err_InvalidPlace (P := l.prog) (w := w) (base := base) TP3 (ok_bag lB cB)
    have EM := err_InvalidModulus (P := l.prog) (w := w) (base := base) TP4 (ok_bag lB cB)
    have ED := err_SharedDivisor (P := l.prog) (w := w) (base := base) TP5 (ok_bag lB cB)
    have Gsh : FnOk l.prog w K mg base CX0 1 f1 _ ["one", "other"] spGcd := ok_shared F1 m_abs
    have Gdr : FnOk l.prog w K mg base CX0 1 f20 _ ["_law_rng", "_law_amount"] spDraw := ok_draw F20 m_len
    have Gtr : FnOk l.prog w K mg base CX0 1 f7 _ ["numbers"] (spTrimZ K) := ok_trimmed F7 m_len
    have Gwi : FnOk l.prog w K mg base CX0 1 f10 _ ["numbers", "factor"] (spWithout K) := ok_without F10
    have Gck : FnOk l.prog w K mg base CX0 1 f13 _ ["size"] spCheck := ok_check F13 (PySem.W.mg_of X G_ oM)
    have Gpd : FnOk l.prog w K mg base CX0 1 f8 _ ["one", "other"] (spProd K) := ok_product F8 m_len m_range m_enumerate
    have Gsz : FnOk l.prog w K mg base CX0 1 fZ _ ["self"] (spSize G) := ok_size FZ TG
    have Gpi := ok_pick F21 m_len Gdr g20 k20 b20
    have Gle := ok_lowest (k := 0) F3 Gsh g1 k1 b1 E
    have Gap := ok_as_pair F4 m_isinstance m_int E
    have Gra := ok_ratl F5 Gap g4 k4 b4 Gle g3 k3 b3
    have Glm := ok_least F2 m_abs Gsh g1 k1 b1
    have Gco := ok_content F9 Gsh g1 k1 b1
    have Gpr := ok_prim F11 Gco g9 k9 b9 Gwi g10 k10 b10
    have Gsc := ok_scale F6 (ok_pair1 F4 m_isinstance m_int) g4 k4 b4 Glm g2 k2 b2
    have Gst := ok_scaleT F6 (ok_pair1 F4 m_isinstance m_int) g4 k4 b4 Glm g2 k2 b2
    have Gwp := ok_parts F12 Gsc g6 k6 b6 Gtr g7 k7 b7
    have Gil := ok_initL FX TG EP Gap g4 k4 b4 Gtr g7 k7 b7 Gck g13 k13 b13 Gpr g11 k11 b11 Gwp g12 k12 b12
    have Gof := ok_of lO cO TG Gra g5 k5 b5 Gck g13 k13 b13 Gpd g8 k8 b8 MG Gil bX
    have Gro := ok_row (P := l.prog) (w := w) (base := base) lI cI TR TG T2 Gsz bZ Gst g6 k6 b6 Gco g9 k9 b9 Gwi g10 k10 b10
    have Giv : FnOk l.prog w K mg base CX0 1 f14 _ ["number", "modulus"] spInvB := ok_invB F14
    have Grs : FnOk l.prog w K mg base CX0 1 f15 _ ["numbers", "divisor", "modulus"] (spRest K) := ok_rest F15 m_len m_range m_list
    have Gpw : FnOk l.prog w K mg base CX0 2 f16 _ ["exponent", "divisor", "modulus"] (spPow K) := ok_pow F16 m_range Grs g15 k15 b15 Gpd g8 k8 b8
    have Gtm : FnOk l.prog w K mg base CX0 3 f17 _ ["whole", "numbers", "scale", "place", "modulus"] (spTerm K) := ok_term F17 m_sum m_zip Giv g14 k14 b14 Gpw g16 k16 b16
    have Gpl := ok_place F18 EPl
    have Gre := ok_res FV TR TG (PySem.W.mg_of X G_ oO) EM ED Gpl g18 k18 b18 Gsh g1 k1 b1 Gtm g17 k17 b17
    refine ok_law (B := B) (M := M) (C := G) (R := W) (CPl := C3) (CM := C4) (CD := C5) lL cdL (hTB _ List.mem_cons_self) ⟨m_range, ⟨_, PySem.W.mg_of X G_ oO⟩, ok_draws F19 m_list, g19, k19, b19, Gpi, g21, k21, b21, ok_field F22, g22, k22, b22, PySem.W.mg_of X G_ aB, PySem.W.mg_of X G_ aM, g23, k23, ⟨_, F23, b23⟩, xerr_by xe3, ⟨true, exm_by eB cxB tyB sB3, fun z => Bool.noConfusion z⟩, xerr_by xe4, ⟨true, exm_by eB cxB tyB sB4, fun z => Bool.noConfusion z⟩, xerr_by xe5, ⟨true, exm_by eB cxB tyB sB5, fun z => Bool.noConfusion z⟩, PySem.W.mg_of X G_ aG, ⟨crG, cgG⟩, ⟨omG, ⟨_, orG⟩, ofG⟩, Gof, PySem.W.mg_of X G_ aW, MW, Gro, TR.cl, Gre, ⟨aV, iV, kV⟩, bV⟩
end RB
namespace RB
open PySem PySem.Spec PyProof.Rows L2
def chk (K : PySem.W.Frag) : List Bool := [
  decide (PySem.W.nsIn K mainGlobals "shared_factor" = some (some (.ref (He.ga K "shared_factor")))),
  decide (PySem.W.nsIn K mainGlobals "least_multiple" = some (some (.ref (He.ga K "least_multiple")))),
  decide (PySem.W.nsIn K mainGlobals "lowest" = some (some (.ref (He.ga K "lowest")))),
  decide (PySem.W.nsIn K mainGlobals "as_pair" = some (some (.ref (He.ga K "as_pair")))),
  decide (PySem.W.nsIn K mainGlobals "rational" = some (some (.ref (He.ga K "rational")))),
  decide (PySem.W.nsIn K mainGlobals "over_one_scale" = some (some (.ref (He.ga K "over_one_scale")))),
  decide (PySem.W.nsIn K mainGlobals "trimmed" = some (some (.ref (He.ga K "trimmed")))),
  decide (PySem.W.nsIn K mainGlobals "product" = some (some (.ref (He.ga K "product")))),
  decide (PySem.W.nsIn K mainGlobals "content" = some (some (.ref (He.ga K "content")))),
  decide (PySem.W.nsIn K mainGlobals "without_factor" = some (some (.ref (He.ga K "without_factor")))),
  decide (PySem.W.nsIn K mainGlobals "primitive" = some (some (.ref (He.ga K "primitive")))),
  decide (PySem.W.nsIn K mainGlobals "whole_parts" = some (some (.ref (He.ga K "whole_parts")))),
  decide (PySem.W.nsIn K mainGlobals "check_size" = some (some (.ref (He.ga K "check_size")))),
  decide (PySem.W.nsIn K mainGlobals "inverse_by" = some (some (.ref (He.ga K "inverse_by")))),
  decide (PySem.W.nsIn K mainGlobals "rest_by" = some (some (.ref (He.ga K "rest_by")))),
  decide (PySem.W.nsIn K mainGlobals "power_rest" = some (some (.ref (He.ga K "power_rest")))),
  decide (PySem.W.nsIn K mainGlobals "term_by" = some (some (.ref (He.ga K "term_by")))),
  decide (PySem.W.nsIn K mainGlobals "check_place" = some (some (.ref (He.ga K "check_place")))),
  decide (PySem.W.nsIn K mainGlobals "_law_draws" = some (some (.ref (He.ga K "_law_draws")))),
  decide (PySem.W.nsIn K mainGlobals "_law_draw" = some (some (.ref (He.ga K "_law_draw")))),
  decide (PySem.W.nsIn K mainGlobals "_law_pick" = some (some (.ref (He.ga K "_law_pick")))),
  decide (PySem.W.nsIn K mainGlobals "_law_field" = some (some (.ref (He.ga K "_law_field")))),
  decide (PySem.W.nsIn K mainGlobals "_law_try" = some (some (.ref (He.ga K "_law_try")))),
  decide (PySem.W.nsIn K mainGlobals "law" = some (some (.ref (He.ga K "law")))),
  decide (PySem.W.nsIn K mainGlobals "abs" = some none),
  decide (PySem.W.nsIn K mainGlobals "any" = some none),
  decide (PySem.W.nsIn K mainGlobals "enumerate" = some none),
  decide (PySem.W.nsIn K mainGlobals "int" = some none),
  decide (PySem.W.nsIn K mainGlobals "isinstance" = some none),
  decide (PySem.W.nsIn K mainGlobals "len" = some none),
  decide (PySem.W.nsIn K mainGlobals "list" = some none),
  decide (PySem.W.nsIn K mainGlobals "range" = some none),
  decide (PySem.W.nsIn K mainGlobals "sum" = some none),
  decide (PySem.W.nsIn K mainGlobals "zip" = some none),
  decide (PySem.W.nsIn K mainGlobals "BagError" = some (some (.ref (He.ga K "BagError")))),
  decide (PySem.W.nsIn K mainGlobals "InvalidNumber" = some (some (.ref (He.ga K "InvalidNumber")))),
  decide (PySem.W.nsIn K mainGlobals "Missing" = some (some (.ref (He.ga K "Missing")))),
  RBH.excO K (He.ga K "InvalidNumber"),
  decide (PySem.W.findIn K (.ref (He.ga K "InvalidNumber")) "__setattr__" = some (some (.builtin "object.__setattr__"))),
  decide (PySem.W.findIn K (.ref (He.ga K "InvalidNumber")) "code" = some none),
  decide (PySem.W.findIn K (.ref (He.ga K "InvalidNumber")) "__init__" = some (some (.ref (He.ma K (He.ga K "InvalidNumber") "__init__")))),
  decide (PySem.W.typeIn K (.ref (He.ma K (He.ga K "InvalidNumber") "__init__")) = some (.type "function")),
  RBH.fcvB K (He.ga K "BagError") "__init__",
  PySem.W.readsIn K (He.ga K "BagError") (.type "type"),
  decide (PySem.W.specialIn K (.ref (He.ga K "BagError")) "__getattribute__" = some (some (.builtin "type.__getattribute__"))),
  RBH.oneB K (RBH.dfT K (RBH.fcv K (He.ga K "BagError") "__init__")),
  PySem.W.keepIn K (.ref (He.ga K "InvalidNumber")),
  decide (PySem.W.subIn K (.ref (He.ga K "InvalidNumber")) (.type "BaseException") = some true),
  decide (PySem.W.typeIn K (.ref (He.ga K "InvalidNumber")) = some (.type "type")),
  decide (PySem.W.subIn K (.ref (He.ga K "BagError")) (.type "BaseException") = some true),
  PySem.W.isClsIn K (He.ga K "BagError"),
  decide (PySem.W.typeIn K (.ref (He.ga K "BagError")) = some (.type "type")),
  decide (PySem.W.subIn K (.ref (He.ga K "InvalidNumber")) (.ref (He.ga K "BagError")) = some true),
  decide (PySem.W.nsIn K mainGlobals "InvalidPolynomial" = some (some (.ref (He.ga K "InvalidPolynomial")))),
  RBH.excO K (He.ga K "InvalidPolynomial"),
  decide (PySem.W.findIn K (.ref (He.ga K "InvalidPolynomial")) "__setattr__" = some (some (.builtin "object.__setattr__"))),
  decide (PySem.W.findIn K (.ref (He.ga K "InvalidPolynomial")) "code" = some none),
  decide (PySem.W.findIn K (.ref (He.ga K "InvalidPolynomial")) "__init__" = some (some (.ref (He.ma K (He.ga K "InvalidPolynomial") "__init__")))),
  decide (PySem.W.typeIn K (.ref (He.ma K (He.ga K "InvalidPolynomial") "__init__")) = some (.type "function")),
  PySem.W.keepIn K (.ref (He.ga K "InvalidPolynomial")),
  decide (PySem.W.subIn K (.ref (He.ga K "InvalidPolynomial")) (.type "BaseException") = some true),
  decide (PySem.W.typeIn K (.ref (He.ga K "InvalidPolynomial")) = some (.type "type")),
  decide (PySem.W.nsIn K mainGlobals "InvalidPlace" = some (some (.ref (He.ga K "InvalidPlace")))),
  RBH.excO K (He.ga K "InvalidPlace"),
  decide (PySem.W.findIn K (.ref (He.ga K "InvalidPlace")) "__setattr__" = some (some (.builtin "object.__setattr__"))),
  decide (PySem.W.findIn K (.ref (He.ga K "InvalidPlace")) "code" = some none),
  decide (PySem.W.findIn K (.ref (He.ga K "InvalidPlace")) "__init__" = some (some (.ref (He.ma K (He.ga K "InvalidPlace") "__init__")))),
  decide (PySem.W.typeIn K (.ref (He.ma K (He.ga K "InvalidPlace") "__init__")) = some (.type "function")),
  PySem.W.keepIn K (.ref (He.ga K "InvalidPlace")),
  decide (PySem.W.subIn K (.ref (He.ga K "InvalidPlace")) (.type "BaseException") = some true),
  decide (PySem.W.typeIn K (.ref (He.ga K "InvalidPlace")) = some (.type "type")),
  decide (PySem.W.subIn K (.ref (He.ga K "InvalidPlace")) (.ref (He.ga K "BagError")) = some true),
  xerrB K (He.ga K "InvalidPlace"),
  decide (PySem.W.findIn K (.ref (He.ga K "InvalidPlace")) "place" = some none),
  decide (PySem.W.nsIn K mainGlobals "InvalidModulus" = some (some (.ref (He.ga K "InvalidModulus")))),
  RBH.excO K (He.ga K "InvalidModulus"),
  decide (PySem.W.findIn K (.ref (He.ga K "InvalidModulus")) "__setattr__" = some (some (.builtin "object.__setattr__"))),
  decide (PySem.W.findIn K (.ref (He.ga K "InvalidModulus")) "code" = some none),
  decide (PySem.W.findIn K (.ref (He.ga K "InvalidModulus")) "__init__" = some (some (.ref (He.ma K (He.ga K "InvalidModulus") "__init__")))),
  decide (PySem.W.typeIn K (.ref (He.ma K (He.ga K "InvalidModulus") "__init__")) = some (.type "function")),
  PySem.W.keepIn K (.ref (He.ga K "InvalidModulus")),
  decide (PySem.W.subIn K (.ref (He.ga K "InvalidModulus")) (.type "BaseException") = some true),
  decide (PySem.W.typeIn K (.ref (He.ga K "InvalidModulus")) = some (.type "type")),
  decide (PySem.W.subIn K (.ref (He.ga K "InvalidModulus")) (.ref (He.ga K "BagError")) = some true),
  xerrB K (He.ga K "InvalidModulus"),
  decide (PySem.W.findIn K (.ref (He.ga K "InvalidModulus")) "modulus" = some none),
  decide (PySem.W.nsIn K mainGlobals "SharedDivisor" = some (some (.ref (He.ga K "SharedDivisor")))),
  RBH.excO K (He.ga K "SharedDivisor"),
  decide (PySem.W.findIn K (.ref (He.ga K "SharedDivisor")) "__setattr__" = some (some (.builtin "object.__setattr__"))),
  decide (PySem.W.findIn K (.ref (He.ga K "SharedDivisor")) "code" = some none),
  decide (PySem.W.findIn K (.ref (He.ga K "SharedDivisor")) "__init__" = some (some (.ref (He.ma K (He.ga K "SharedDivisor") "__init__")))),
  decide (PySem.W.typeIn K (.ref (He.ma K (He.ga K "SharedDivisor") "__init__")) = some (.type "function")),
  PySem.W.keepIn K (.ref (He.ga K "SharedDivisor")),
  decide (PySem.W.subIn K (.ref (He.ga K "SharedDivisor")) (.type "BaseException") = some true),
  decide (PySem.W.typeIn K (.ref (He.ga K "SharedDivisor")) = some (.type "type")),
  decide (PySem.W.subIn K (.ref (He.ga K "SharedDivisor")) (.ref (He.ga K "BagError")) = some true),
  xerrB K (He.ga K "SharedDivisor"),
  decide (PySem.W.findIn K (.ref (He.ga K "SharedDivisor")) "modulus" = some none),
  decide (PySem.W.nsIn K mainGlobals "MAX_SIZE" = some (some (.int 40 (RBH.iTok K "MAX_SIZE")))),
  decide (PySem.W.nsIn K mainGlobals "TOO_LONG" = some (some (.int 10000000000000000000000000000000000000000000000000000000000000000000000000000000000000000000000000000 (RBH.iTok K "TOO_LONG")))),
  decide (PySem.W.nsIn K mainGlobals "FAR" = some (some (.int 10000000000000000000000000000000000000000 (RBH.iTok K "FAR")))),
  decide (PySem.W.nsIn K mainGlobals "Bag" = some (some (.ref (He.ga K "Bag")))),
  decide (PySem.W.findIn K (.ref (He.ga K "Bag")) "__init__" = some (some (.ref (He.ma K (He.ga K "Bag") "__init__")))),
  PySem.W.isFn K (.ref (He.ma K (He.ga K "Bag") "__init__")),
  decide (PySem.W.nsIn K mainGlobals "Row" = some (some (.ref (He.ga K "Row")))),
  decide (PySem.W.findIn K (.ref (He.ga K "Row")) "__init__" = some (some (.ref (He.ma K (He.ga K "Row") "__init__")))),
  PySem.W.isFn K (.ref (He.ma K (He.ga K "Row") "__init__")),
  decide (PySem.W.findIn K (.ref (He.ga K "Row")) "residue" = some (some (.ref (He.ma K (He.ga K "Row") "residue")))),
  PySem.W.isFn K (.ref (He.ma K (He.ga K "Row") "residue")),
  PySem.W.plainGet K (He.ga K "Row") Str.empty,
  PySem.W.hasDictIn K (He.ga K "Row"),
  PySem.W.plainOver K (He.ga K "Row"),
  decide (PySem.W.findIn K (.ref (He.ga K "Row")) "__setattr__" = some (some (.builtin "object.__setattr__"))),
  PySem.W.makesIn K (He.ga K "Row"),
  PySem.W.keepIn K (.ref (He.ga K "Row")),
  decide (PySem.W.findIn K (.ref (He.ga K "Row")) "bag" = some none),
  decide (PySem.W.findIn K (.ref (He.ga K "Row")) "numbers" = some none),
  decide (PySem.W.findIn K (.ref (He.ga K "Row")) "scale" = some none),
  PySem.W.plainGet K (He.ga K "Bag") Str.empty,
  PySem.W.hasDictIn K (He.ga K "Bag"),
  PySem.W.plainOver K (He.ga K "Bag"),
  decide (PySem.W.findIn K (.ref (He.ga K "Bag")) "__setattr__" = some (some (.builtin "object.__setattr__"))),
  PySem.W.makesIn K (He.ga K "Bag"),
  PySem.W.keepIn K (.ref (He.ga K "Bag")),
  decide (PySem.W.findIn K (.ref (He.ga K "Bag")) "whole" = some none),
  PySem.W.selfFirst K (He.ga K "Bag"),
  decide (PySem.W.findIn K (.ref (He.ga K "Bag")) "size" = some (some (.ref (He.ma K (He.ga K "Bag") "size")))),
  decide (PySem.W.specialIn K (.ref (He.ma K (He.ga K "Bag") "size")) "__get__" = some (some (.builtin "property.__get__"))),
  decide (PySem.W.takesIn K (.ref (He.ma K (He.ga K "Bag") "size")) = some true),
  decide (PySem.W.recIn K (He.ma K (He.ga K "Bag") "size") "property" = some (.ref (RBH.rc0 K (He.ma K (He.ga K "Bag") "size") "property") :: (RBH.rcT K (He.ma K (He.ga K "Bag") "size") "property"))),
  decide (PySem.W.findIn K (.ref (He.ga K "Bag")) "__class__" = some (some (.builtin "object.__class__"))),
  decide (PySem.W.specialIn K (.builtin "object.__class__") "__get__" = some (some (.builtin "getset_descriptor.__get__"))),
  decide (PySem.W.takesIn K (.builtin "object.__class__") = some true),
  decide (PySem.W.mroIn K (He.ga K "Bag") (.type "object") = some true),
  PySem.W.readsIn K (He.ga K "Bag") (.type "type"),
  decide (PySem.W.specialIn K (.ref (He.ga K "Bag")) "__getattribute__" = some (some (.builtin "type.__getattribute__"))),
  RBH.fcgB K (He.ga K "Bag") "of",
  decide (PySem.W.recIn K (RBH.fcg K (He.ga K "Bag") "of") "classmethod" = some (.ref (RBH.rc0 K (RBH.fcg K (He.ga K "Bag") "of") "classmethod") :: (RBH.rcT K (RBH.fcg K (He.ga K "Bag") "of") "classmethod"))),
  PySem.W.fnIn K (RBH.rc0 K (RBH.fcg K (He.ga K "Bag") "of") "classmethod"),
  xerrB K (He.ga K "InvalidNumber")]
def fnR : List RBH.DefR := [
  ⟨fun K => He.ga K "shared_factor", "shared_factor", "shared_factor", defArgs sShared, defBody sShared, defScope sShared, false⟩,
  ⟨fun K => He.ga K "least_multiple", "least_multiple", "least_multiple", defArgs s_least_multiple, defBody s_least_multiple, defScope s_least_multiple, false⟩,
  ⟨fun K => He.ga K "lowest", "lowest", "lowest", defArgs sLowest, defBody sLowest, defScope sLowest, false⟩,
  ⟨fun K => He.ga K "as_pair", "as_pair", "as_pair", defArgs s_as_pair, defBody s_as_pair, defScope s_as_pair, false⟩,
  ⟨fun K => He.ga K "rational", "rational", "rational", defArgs s_rational, defBody s_rational, defScope s_rational, false⟩,
  ⟨fun K => He.ga K "over_one_scale", "over_one_scale", "over_one_scale", defArgs s_over_one_scale, defBody s_over_one_scale, defScope s_over_one_scale, false⟩,
  ⟨fun K => He.ga K "trimmed", "trimmed", "trimmed", defArgs s_trimmed, defBody s_trimmed, defScope s_trimmed, false⟩,
  ⟨fun K => He.ga K "product", "product", "product", defArgs s_product, defBody s_product, defScope s_product, false⟩,
  ⟨fun K => He.ga K "content", "content", "content", defArgs s_content, defBody s_content, defScope s_content, false⟩,
  ⟨fun K => He.ga K "without_factor", "without_factor", "without_factor", defArgs s_without_factor, defBody s_without_factor, defScope s_without_factor, false⟩,
  ⟨fun K => He.ga K "primitive", "primitive", "primitive", defArgs s_primitive, defBody s_primitive, defScope s_primitive, false⟩,
  ⟨fun K => He.ga K "whole_parts", "whole_parts", "whole_parts", defArgs s_whole_parts, defBody s_whole_parts, defScope s_whole_parts, false⟩,
  ⟨fun K => He.ga K "check_size", "check_size", "check_size", defArgs s_check_size, defBody s_check_size, defScope s_check_size, false⟩,
  ⟨fun K => He.ga K "inverse_by", "inverse_by", "inverse_by", defArgs s_inverse_by, defBody s_inverse_by, defScope s_inverse_by, false⟩,
  ⟨fun K => He.ga K "rest_by", "rest_by", "rest_by", defArgs s_rest_by, defBody s_rest_by, defScope s_rest_by, false⟩,
  ⟨fun K => He.ga K "power_rest", "power_rest", "power_rest", defArgs s_power_rest, defBody s_power_rest, defScope s_power_rest, false⟩,
  ⟨fun K => He.ga K "term_by", "term_by", "term_by", defArgs s_term_by, defBody s_term_by, defScope s_term_by, false⟩,
  ⟨fun K => He.ga K "check_place", "check_place", "check_place", defArgs s_check_place, defBody s_check_place, defScope s_check_place, false⟩,
  ⟨fun K => He.ga K "_law_draws", "_law_draws", "_law_draws", defArgs sDraws, defBody sDraws, defScope sDraws, false⟩,
  ⟨fun K => He.ga K "_law_draw", "_law_draw", "_law_draw", defArgs sDraw, defBody sDraw, defScope sDraw, false⟩,
  ⟨fun K => He.ga K "_law_pick", "_law_pick", "_law_pick", defArgs sPick, defBody sPick, defScope sPick, false⟩,
  ⟨fun K => He.ga K "_law_field", "_law_field", "_law_field", defArgs sField, defBody sField, defScope sField, false⟩,
  ⟨fun K => He.ga K "_law_try", "_law_try", "_law_try", defArgs sTry, defBody sTry, defScope sTry, false⟩,
  ⟨fun K => He.ga K "law", "law", "law", defArgs sLaw, defBody sLaw, defScope sLaw, false⟩,
  ⟨fun K => He.ma K (He.ga K "InvalidNumber") "__init__", "__init__", "InvalidNumber.__init__", defArgs sInvInit, defBody sInvInit, defScope sInvInit, false⟩,
  ⟨fun K => RBH.fcv K (He.ga K "BagError") "__init__", "__init__", "BagError.__init__", defArgs sBagInit, defBody sBagInit, defScope sBagInit, true⟩,
  ⟨fun K => He.ma K (He.ga K "InvalidPolynomial") "__init__", "__init__", "InvalidPolynomial.__init__", defArgs c_InvalidPolynomial_init, defBody c_InvalidPolynomial_init, defScope c_InvalidPolynomial_init, false⟩,
  ⟨fun K => He.ma K (He.ga K "InvalidPlace") "__init__", "__init__", "InvalidPlace.__init__", defArgs c_InvalidPlace_init, defBody c_InvalidPlace_init, defScope c_InvalidPlace_init, false⟩,
  ⟨fun K => He.ma K (He.ga K "InvalidModulus") "__init__", "__init__", "InvalidModulus.__init__", defArgs c_InvalidModulus_init, defBody c_InvalidModulus_init, defScope c_InvalidModulus_init, false⟩,
  ⟨fun K => He.ma K (He.ga K "SharedDivisor") "__init__", "__init__", "SharedDivisor.__init__", defArgs c_SharedDivisor_init, defBody c_SharedDivisor_init, defScope c_SharedDivisor_init, false⟩,
  ⟨fun K => He.ma K (He.ga K "Bag") "__init__", "__init__", "Bag.__init__", defArgs c_Bag_init, defBody c_Bag_init, defScope c_Bag_init, false⟩,
  ⟨fun K => He.ma K (He.ga K "Row") "__init__", "__init__", "Row.__init__", defArgs c_Row_init, defBody c_Row_init, defScope c_Row_init, false⟩,
  ⟨fun K => He.ma K (He.ga K "Row") "residue", "residue", "Row.residue", defArgs c_Row_residue, defBody c_Row_residue, defScope c_Row_residue, false⟩,
  ⟨fun K => RBH.rc0 K (He.ma K (He.ga K "Bag") "size") "property", "size", "Bag.size", defArgs c_Bag_size, defBody c_Bag_size, defScope c_Bag_size, false⟩,
  ⟨fun K => RBH.rc0 K (RBH.fcg K (He.ga K "Bag") "of") "classmethod", "of", "Bag.of", defArgs c_Bag_of, defBody c_Bag_of, defScope c_Bag_of, false⟩]
def tfR : List He.Defn := [("law", none)]
abbrev RR : PySem.W.OpenRow := PySem.W.OpenLaw.row PySem.Challenge.rw_rootbags_k70_residues_that_are_refused
abbrev hkR : PySem.W.Hook := RBH.hookR 5 fnR tfR (fun K => (chk K).all id)
def obR (s : PySem.W.SharedT) : RBH.AlR := RBH.obsR 5 fnR tfR (fun K => (chk K).all id) (HandSHeadRun.getT s)
theorem obR_eq (s : PySem.W.SharedT) : obR s = hkR.obs s.abs := RBH.obsR_eq (HandSHeadRun.getT_eq s)
def looseR : List PySem.Str := (["_wall", "shared_factor", "least_multiple", "lowest", "as_pair", "rational", "over_one_scale", "trimmed", "scaled", "powers_of", "stretched", "difference", "product", "split_whole", "exact_quotient", "content", "without_factor", "primitive", "rest_by_prime", "are_plainly_apart", "shared_whole", "whole_parts", "left_over", "root_scale", "monic_whole", "sums_of_powers", "numbers_of_sums", "mixed_sums", "pair_sum_numbers", "pair_product_numbers"] : List PySem.Str) ++ (["power_numbers", "check_size", "early_sizes", "lowest_by", "increase", "companion", "matrix_product", "with_diagonal", "matrix_of_values", "first_traces", "corner_vector", "border_numbers", "characteristic", "numbers_of_matrix", "check_road", "check_exponent", "values_by_matrix", "powers", "inverse_by", "rest_by", "power_rest", "term_by", "check_count", "check_place", "base_powers", "next_number", "term_pairs", "lowest_terms", "_law_draws", "_law_draw"] : List PySem.Str) ++ (["_law_pick", "_law_field", "_law_try", "BagError", "InvalidNumber", "InvalidPolynomial", "SizeExceeded", "DigitsExceeded", "InvalidExponent", "InvalidCount", "InvalidRoad", "InvalidRow", "InvalidPlace", "InvalidModulus", "SharedDivisor", "Missing", "Bag", "Row", "PRIME", "MAX_SIZE", "MAX_DIGITS", "TOO_LONG", "ROADS", "MAX_EXPONENT", "MAX_TERMS", "FAR"] : List PySem.Str)
theorem runR (w : World) : HandSHeadRun.RunEq RR (PySem.W.view RR.prog [97]) hkR obR 60000 looseR w := by
  intro os
  kernel_rfl
theorem factsR {l : PySem.W.OpenLaw} {w : World} {K : PySem.W.Frag} {h : Heap} {mg : Str → Option Value} {f0 : Addr} (X : K.In h) (G : h.Ns mainGlobals mg) (hmg : mg ("law" : Str) = some (.ref f0)) (c : RBH.SaysR fnR tfR (fun K => (chk K).all id) h K) :
    LamX.LawAtS l w K CX0 11 63 "_law_script" mg f0 h := by
  have a1 : PySem.W.nsIn K mainGlobals "shared_factor" = some (some (.ref (He.ga K "shared_factor"))) := c.dec 0
  obtain ⟨k1, oc1, od1, sl1, kV1, dc1, pm1, an1, cd1, ct1, l1, c1⟩ := c.def0 0
  have a2 : PySem.W.nsIn K mainGlobals "least_multiple" = some (some (.ref (He.ga K "least_multiple"))) := c.dec 1
  obtain ⟨k2, oc2, od2, sl2, kV2, dc2, pm2, an2, cd2, ct2, l2, c2⟩ := c.def0 1
  have a3 : PySem.W.nsIn K mainGlobals "lowest" = some (some (.ref (He.ga K "lowest"))) := c.dec 2
  obtain ⟨k3, oc3, od3, sl3, kV3, dc3, pm3, an3, cd3, ct3, l3, c3⟩ := c.def0 2
  have a4 : PySem.W.nsIn K mainGlobals "as_pair" = some (some (.ref (He.ga K "as_pair"))) := c.dec 3
  obtain ⟨k4, oc4, od4, sl4, kV4, dc4, pm4, an4, cd4, ct4, l4, c4⟩ := c.def0 3
  have a5 : PySem.W.nsIn K mainGlobals "rational" = some (some (.ref (He.ga K "rational"))) := c.dec 4
  obtain ⟨k5, oc5, od5, sl5, kV5, dc5, pm5, an5, cd5, ct5, l5, c5⟩ := c.def0 4
  have a6 : PySem.W.nsIn K mainGlobals "over_one_scale" = some (some (.ref (He.ga K "over_one_scale"))) := c.dec 5
  obtain ⟨k6, oc6, od6, sl6, kV6, dc6, pm6, an6, cd6, ct6, l6, c6⟩ := c.def0 5
  have a7 : PySem.W.nsIn K mainGlobals "trimmed" = some (some (.ref (He.ga K "trimmed"))) := c.dec 6
  obtain ⟨k7, oc7, od7, sl7, kV7, dc7, pm7, an7, cd7, ct7, l7, c7⟩ := c.def0 6
  have a8 : PySem.W.nsIn K mainGlobals "product" = some (some (.ref (He.ga K "product"))) := c.dec 7
  obtain ⟨k8, oc8, od8, sl8, kV8, dc8, pm8, an8, cd8, ct8, l8, c8⟩ := c.def0 7
  have a9 : PySem.W.nsIn K mainGlobals "content" = some (some (.ref (He.ga K "content"))) := c.dec 8
  obtain ⟨k9, oc9, od9, sl9, kV9, dc9, pm9, an9, cd9, ct9, l9, c9⟩ := c.def0 8
  have a10 : PySem.W.nsIn K mainGlobals "without_factor" = some (some (.ref (He.ga K "without_factor"))) := c.dec 9
  obtain ⟨k10, oc10, od10, sl10, kV10, dc10, pm10, an10, cd10, ct10, l10, c10⟩ := c.def0 9
  have a11 : PySem.W.nsIn K mainGlobals "primitive" = some (some (.ref (He.ga K "primitive"))) := c.dec 10
  obtain ⟨k11, oc11, od11, sl11, kV11, dc11, pm11, an11, cd11, ct11, l11, c11⟩ := c.def0 10
  have a12 : PySem.W.nsIn K mainGlobals "whole_parts" = some (some (.ref (He.ga K "whole_parts"))) := c.dec 11
  obtain ⟨k12, oc12, od12, sl12, kV12, dc12, pm12, an12, cd12, ct12, l12, c12⟩ := c.def0 11
  have a13 : PySem.W.nsIn K mainGlobals "check_size" = some (some (.ref (He.ga K "check_size"))) := c.dec 12
  obtain ⟨k13, oc13, od13, sl13, kV13, dc13, pm13, an13, cd13, ct13, l13, c13⟩ := c.def0 12
  have a14 : PySem.W.nsIn K mainGlobals "inverse_by" = some (some (.ref (He.ga K "inverse_by"))) := c.dec 13
  obtain ⟨k14, oc14, od14, sl14, kV14, dc14, pm14, an14, cd14, ct14, l14, c14⟩ := c.def0 13
  have a15 : PySem.W.nsIn K mainGlobals "rest_by" = some (some (.ref (He.ga K "rest_by"))) := c.dec 14
  obtain ⟨k15, oc15, od15, sl15, kV15, dc15, pm15, an15, cd15, ct15, l15, c15⟩ := c.def0 14
  have a16 : PySem.W.nsIn K mainGlobals "power_rest" = some (some (.ref (He.ga K "power_rest"))) := c.dec 15
  obtain ⟨k16, oc16, od16, sl16, kV16, dc16, pm16, an16, cd16, ct16, l16, c16⟩ := c.def0 15
  have a17 : PySem.W.nsIn K mainGlobals "term_by" = some (some (.ref (He.ga K "term_by"))) := c.dec 16
  obtain ⟨k17, oc17, od17, sl17, kV17, dc17, pm17, an17, cd17, ct17, l17, c17⟩ := c.def0 16
  have a18 : PySem.W.nsIn K mainGlobals "check_place" = some (some (.ref (He.ga K "check_place"))) := c.dec 17
  obtain ⟨k18, oc18, od18, sl18, kV18, dc18, pm18, an18, cd18, ct18, l18, c18⟩ := c.def0 17
  have a19 : PySem.W.nsIn K mainGlobals "_law_draws" = some (some (.ref (He.ga K "_law_draws"))) := c.dec 18
  obtain ⟨k19, oc19, od19, sl19, kV19, dc19, pm19, an19, cd19, ct19, l19, c19⟩ := c.def0 18
  have a20 : PySem.W.nsIn K mainGlobals "_law_draw" = some (some (.ref (He.ga K "_law_draw"))) := c.dec 19
  obtain ⟨k20, oc20, od20, sl20, kV20, dc20, pm20, an20, cd20, ct20, l20, c20⟩ := c.def0 19
  have a21 : PySem.W.nsIn K mainGlobals "_law_pick" = some (some (.ref (He.ga K "_law_pick"))) := c.dec 20
  obtain ⟨k21, oc21, od21, sl21, kV21, dc21, pm21, an21, cd21, ct21, l21, c21⟩ := c.def0 20
  have a22 : PySem.W.nsIn K mainGlobals "_law_field" = some (some (.ref (He.ga K "_law_field"))) := c.dec 21
  obtain ⟨k22, oc22, od22, sl22, kV22, dc22, pm22, an22, cd22, ct22, l22, c22⟩ := c.def0 21
  have a23 : PySem.W.nsIn K mainGlobals "_law_try" = some (some (.ref (He.ga K "_law_try"))) := c.dec 22
  obtain ⟨k23, oc23, od23, sl23, kV23, dc23, pm23, an23, cd23, ct23, l23, c23⟩ := c.def0 22
  have aL : PySem.W.nsIn K mainGlobals "law" = some (some (.ref (He.ga K "law"))) := c.dec 23
  obtain ⟨_, ocL, odL, slL, kVL, dcL, pmL, anL, cL_, ctL, lL, cdL⟩ := c.def0 23
  obtain ⟨cL, rfl⟩ := He.codeIn_ref cdL
  have z_abs : PySem.W.nsIn K mainGlobals "abs" = some none := c.dec 24
  have z_any : PySem.W.nsIn K mainGlobals "any" = some none := c.dec 25
  have z_enumerate : PySem.W.nsIn K mainGlobals "enumerate" = some none := c.dec 26
  have z_int : PySem.W.nsIn K mainGlobals "int" = some none := c.dec 27
  have z_isinstance : PySem.W.nsIn K mainGlobals "isinstance" = some none := c.dec 28
  have z_len : PySem.W.nsIn K mainGlobals "len" = some none := c.dec 29
  have z_list : PySem.W.nsIn K mainGlobals "list" = some none := c.dec 30
  have z_range : PySem.W.nsIn K mainGlobals "range" = some none := c.dec 31
  have z_sum : PySem.W.nsIn K mainGlobals "sum" = some none := c.dec 32
  have z_zip : PySem.W.nsIn K mainGlobals "zip" = some none := c.dec 33
  have aB : PySem.W.nsIn K mainGlobals "BagError" = some (some (.ref (He.ga K "BagError"))) := c.dec 34
  have aC : PySem.W.nsIn K mainGlobals "InvalidNumber" = some (some (.ref (He.ga K "InvalidNumber"))) := c.dec 35
  have aM : PySem.W.nsIn K mainGlobals "Missing" = some (some (.ref (He.ga K "Missing"))) := c.dec 36
  obtain ⟨nm, q, N, bs, bm, sn, sub, ab, col, dd, m0, m1, m2, m3, m5, xC, hbm⟩ := RBH.excO_ok (c.get 37)
  have sa : PySem.W.findIn K (.ref (He.ga K "InvalidNumber")) "__setattr__" = some (some (.builtin "object.__setattr__")) := c.dec 38
  have nb : PySem.W.findIn K (.ref (He.ga K "InvalidNumber")) "code" = some none := c.dec 39
  have iC : PySem.W.findIn K (.ref (He.ga K "InvalidNumber")) "__init__" = some (some (.ref (He.ma K (He.ga K "InvalidNumber") "__init__"))) := c.dec 40
  have tC : PySem.W.typeIn K (.ref (He.ma K (He.ga K "InvalidNumber") "__init__")) = some (.type "function") := c.dec 41
  obtain ⟨kfC, ocC, odC, slC, kVC, dcC, pmC, anC, cdC, ctC, lC, cC⟩ := c.def0 24
  have iB := RBH.fcv_ok (c.get 42)
  obtain ⟨kB, ⟨ocB, odB, slB, kVB, dcB, pmB, anB, cdB, ctB, lB, cB⟩, _⟩ := c.def1 25
  have rB := c.get 43
  have gB : PySem.W.specialIn K (.ref (He.ga K "BagError")) "__getattribute__" = some (some (.builtin "type.__getattribute__")) := c.dec 44
  obtain ⟨oT, zB, nT, lT, oTd⟩ := RBH.one_ok (c.get 45)
  have kC := c.get 46
  have eC : PySem.W.subIn K (.ref (He.ga K "InvalidNumber")) (.type "BaseException") = some true := c.dec 47
  have tyC : PySem.W.typeIn K (.ref (He.ga K "InvalidNumber")) = some (.type "type") := c.dec 48
  have eB : PySem.W.subIn K (.ref (He.ga K "BagError")) (.type "BaseException") = some true := c.dec 49
  have cxB := c.get 50
  have tyB : PySem.W.typeIn K (.ref (He.ga K "BagError")) = some (.type "type") := c.dec 51
  have sB : PySem.W.subIn K (.ref (He.ga K "InvalidNumber")) (.ref (He.ga K "BagError")) = some true := c.dec 52
  have aC2 : PySem.W.nsIn K mainGlobals "InvalidPolynomial" = some (some (.ref (He.ga K "InvalidPolynomial"))) := c.dec 53
  obtain ⟨nm2, q2, N2, bs2, bm2, sn2, sub2, ab2, col2, dd2, m02, m12, m22, m32, m52, xC2, hbm2⟩ := RBH.excO_ok (c.get 54)
  have sa2 : PySem.W.findIn K (.ref (He.ga K "InvalidPolynomial")) "__setattr__" = some (some (.builtin "object.__setattr__")) := c.dec 55
  have nb2 : PySem.W.findIn K (.ref (He.ga K "InvalidPolynomial")) "code" = some none := c.dec 56
  have iC2 : PySem.W.findIn K (.ref (He.ga K "InvalidPolynomial")) "__init__" = some (some (.ref (He.ma K (He.ga K "InvalidPolynomial") "__init__"))) := c.dec 57
  have tC2 : PySem.W.typeIn K (.ref (He.ma K (He.ga K "InvalidPolynomial") "__init__")) = some (.type "function") := c.dec 58
  obtain ⟨kfC2, ocC2, odC2, slC2, kVC2, dcC2, pmC2, anC2, cdC2, ctC2, lC2, cC2⟩ := c.def0 26
  have kC2 := c.get 59
  have eC2 : PySem.W.subIn K (.ref (He.ga K "InvalidPolynomial")) (.type "BaseException") = some true := c.dec 60
  have tyC2 : PySem.W.typeIn K (.ref (He.ga K "InvalidPolynomial")) = some (.type "type") := c.dec 61
  have aC3 : PySem.W.nsIn K mainGlobals "InvalidPlace" = some (some (.ref (He.ga K "InvalidPlace"))) := c.dec 62
  obtain ⟨nm3, q3, N3, bs3, bm3, sn3, sub3, ab3, col3, dd3, m03, m13, m23, m33, m53, xC3, hbm3⟩ := RBH.excO_ok (c.get 63)
  have sa3 : PySem.W.findIn K (.ref (He.ga K "InvalidPlace")) "__setattr__" = some (some (.builtin "object.__setattr__")) := c.dec 64
  have nb3 : PySem.W.findIn K (.ref (He.ga K "InvalidPlace")) "code" = some none := c.dec 65
  have iC3 : PySem.W.findIn K (.ref (He.ga K "InvalidPlace")) "__init__" = some (some (.ref (He.ma K (He.ga K "InvalidPlace") "__init__"))) := c.dec 66
  have tC3 : PySem.W.typeIn K (.ref (He.ma K (He.ga K "InvalidPlace") "__init__")) = some (.type "function") := c.dec 67
  obtain ⟨kfC3, ocC3, odC3, slC3, kVC3, dcC3, pmC3, anC3, cdC3, ctC3, lC3, cC3⟩ := c.def0 27
  have kC3 := c.get 68
  have eC3 : PySem.W.subIn K (.ref (He.ga K "InvalidPlace")) (.type "BaseException") = some true := c.dec 69
  have tyC3 : PySem.W.typeIn K (.ref (He.ga K "InvalidPlace")) = some (.type "type") := c.dec 70
  have sB3 : PySem.W.subIn K (.ref (He.ga K "InvalidPlace")) (.ref (He.ga K "BagError")) = some true := c.dec 71
  have xe3 := c.get 72
  have nf3 : PySem.W.findIn K (.ref (He.ga K "InvalidPlace")) "place" = some none := c.dec 73
  have aC4 : PySem.W.nsIn K mainGlobals "InvalidModulus" = some (some (.ref (He.ga K "InvalidModulus"))) := c.dec 74
  obtain ⟨nm4, q4, N4, bs4, bm4, sn4, sub4, ab4, col4, dd4, m04, m14, m24, m34, m54, xC4, hbm4⟩ := RBH.excO_ok (c.get 75)
  have sa4 : PySem.W.findIn K (.ref (He.ga K "InvalidModulus")) "__setattr__" = some (some (.builtin "object.__setattr__")) := c.dec 76
  have nb4 : PySem.W.findIn K (.ref (He.ga K "InvalidModulus")) "code" = some none := c.dec 77
  have iC4 : PySem.W.findIn K (.ref (He.ga K "InvalidModulus")) "__init__" = some (some (.ref (He.ma K (He.ga K "InvalidModulus") "__init__"))) := c.dec 78
  have tC4 : PySem.W.typeIn K (.ref (He.ma K (He.ga K "InvalidModulus") "__init__")) = some (.type "function") := c.dec 79
  obtain ⟨kfC4, ocC4, odC4, slC4, kVC4, dcC4, pmC4, anC4, cdC4, ctC4, lC4, cC4⟩ := c.def0 28
  have kC4 := c.get 80
  have eC4 : PySem.W.subIn K (.ref (He.ga K "InvalidModulus")) (.type "BaseException") = some true := c.dec 81
  have tyC4 : PySem.W.typeIn K (.ref (He.ga K "InvalidModulus")) = some (.type "type") := c.dec 82
  have sB4 : PySem.W.subIn K (.ref (He.ga K "InvalidModulus")) (.ref (He.ga K "BagError")) = some true := c.dec 83
  have xe4 := c.get 84
  have nf4 : PySem.W.findIn K (.ref (He.ga K "InvalidModulus")) "modulus" = some none := c.dec 85
  have aC5 : PySem.W.nsIn K mainGlobals "SharedDivisor" = some (some (.ref (He.ga K "SharedDivisor"))) := c.dec 86
  obtain ⟨nm5, q5, N5, bs5, bm5, sn5, sub5, ab5, col5, dd5, m05, m15, m25, m35, m55, xC5, hbm5⟩ := RBH.excO_ok (c.get 87)
  have sa5 : PySem.W.findIn K (.ref (He.ga K "SharedDivisor")) "__setattr__" = some (some (.builtin "object.__setattr__")) := c.dec 88
  have nb5 : PySem.W.findIn K (.ref (He.ga K "SharedDivisor")) "code" = some none := c.dec 89
  have iC5 : PySem.W.findIn K (.ref (He.ga K "SharedDivisor")) "__init__" = some (some (.ref (He.ma K (He.ga K "SharedDivisor") "__init__"))) := c.dec 90
  have tC5 : PySem.W.typeIn K (.ref (He.ma K (He.ga K "SharedDivisor") "__init__")) = some (.type "function") := c.dec 91
  obtain ⟨kfC5, ocC5, odC5, slC5, kVC5, dcC5, pmC5, anC5, cdC5, ctC5, lC5, cC5⟩ := c.def0 29
  have kC5 := c.get 92
  have eC5 : PySem.W.subIn K (.ref (He.ga K "SharedDivisor")) (.type "BaseException") = some true := c.dec 93
  have tyC5 : PySem.W.typeIn K (.ref (He.ga K "SharedDivisor")) = some (.type "type") := c.dec 94
  have sB5 : PySem.W.subIn K (.ref (He.ga K "SharedDivisor")) (.ref (He.ga K "BagError")) = some true := c.dec 95
  have xe5 := c.get 96
  have nf5 : PySem.W.findIn K (.ref (He.ga K "SharedDivisor")) "modulus" = some none := c.dec 97
  have oM : PySem.W.nsIn K mainGlobals "MAX_SIZE" = some (some (.int 40 (RBH.iTok K "MAX_SIZE"))) := c.dec 98
  have oL : PySem.W.nsIn K mainGlobals "TOO_LONG" = some (some (.int 10000000000000000000000000000000000000000000000000000000000000000000000000000000000000000000000000000 (RBH.iTok K "TOO_LONG"))) := c.dec 99
  have oO : PySem.W.nsIn K mainGlobals "FAR" = some (some (.int 10000000000000000000000000000000000000000 (RBH.iTok K "FAR"))) := c.dec 100
  have aG : PySem.W.nsIn K mainGlobals "Bag" = some (some (.ref (He.ga K "Bag"))) := c.dec 101
  have aX : PySem.W.findIn K (.ref (He.ga K "Bag")) "__init__" = some (some (.ref (He.ma K (He.ga K "Bag") "__init__"))) := c.dec 102
  have iX := c.get 103
  obtain ⟨kX, ocX, odX, slX, kVX, dcX, pmX, anX, cdX, ctX, lX, cX⟩ := c.def0 30
  have aW : PySem.W.nsIn K mainGlobals "Row" = some (some (.ref (He.ga K "Row"))) := c.dec 104
  have aI : PySem.W.findIn K (.ref (He.ga K "Row")) "__init__" = some (some (.ref (He.ma K (He.ga K "Row") "__init__"))) := c.dec 105
  have iI := c.get 106
  obtain ⟨kI, ocI, odI, slI, kVI, dcI, pmI, anI, cdI, ctI, lI, cI⟩ := c.def0 31
  have aV : PySem.W.findIn K (.ref (He.ga K "Row")) "residue" = some (some (.ref (He.ma K (He.ga K "Row") "residue"))) := c.dec 107
  have iV := c.get 108
  obtain ⟨kV, ocV, odV, slV, kVV, dcV, pmV, anV, cdV, ctV, lV, cV⟩ := c.def0 32
  have pgW := c.get 109
  have hdW := c.get 110
  have poW := c.get 111
  have saW : PySem.W.findIn K (.ref (He.ga K "Row")) "__setattr__" = some (some (.builtin "object.__setattr__")) := c.dec 112
  have mkW := c.get 113
  have kcW := c.get 114
  have n1W : PySem.W.findIn K (.ref (He.ga K "Row")) "bag" = some none := c.dec 115
  have n2W : PySem.W.findIn K (.ref (He.ga K "Row")) "numbers" = some none := c.dec 116
  have n3W : PySem.W.findIn K (.ref (He.ga K "Row")) "scale" = some none := c.dec 117
  have pgG := c.get 118
  have hdG := c.get 119
  have poG := c.get 120
  have saG : PySem.W.findIn K (.ref (He.ga K "Bag")) "__setattr__" = some (some (.builtin "object.__setattr__")) := c.dec 121
  have mkG := c.get 122
  have kcG := c.get 123
  have nwG : PySem.W.findIn K (.ref (He.ga K "Bag")) "whole" = some none := c.dec 124
  have sfG := c.get 125
  have pS1 : PySem.W.findIn K (.ref (He.ga K "Bag")) "size" = some (some (.ref (He.ma K (He.ga K "Bag") "size"))) := c.dec 126
  have pS2 : PySem.W.specialIn K (.ref (He.ma K (He.ga K "Bag") "size")) "__get__" = some (some (.builtin "property.__get__")) := c.dec 127
  have pS3 : PySem.W.takesIn K (.ref (He.ma K (He.ga K "Bag") "size")) = some true := c.dec 128
  have pS4 : PySem.W.recIn K (He.ma K (He.ga K "Bag") "size") "property" = some (.ref (RBH.rc0 K (He.ma K (He.ga K "Bag") "size") "property") :: (RBH.rcT K (He.ma K (He.ga K "Bag") "size") "property")) := c.dec 129
  obtain ⟨kZ, ocZ, odZ, slZ, kVZ, dcZ, pmZ, anZ, cdZ, ctZ, lZ, cZ⟩ := c.def0 33
  have ca : PySem.W.findIn K (.ref (He.ga K "Bag")) "__class__" = some (some (.builtin "object.__class__")) := c.dec 130
  have cn : PySem.W.specialIn K (.builtin "object.__class__") "__get__" = some (some (.builtin "getset_descriptor.__get__")) := c.dec 131
  have ct : PySem.W.takesIn K (.builtin "object.__class__") = some true := c.dec 132
  have cm : PySem.W.mroIn K (He.ga K "Bag") (.type "object") = some true := c.dec 133
  have crG := c.get 134
  have cgG : PySem.W.specialIn K (.ref (He.ga K "Bag")) "__getattribute__" = some (some (.builtin "type.__getattribute__")) := c.dec 135
  have omG := RBH.fcg_ok (c.get 136)
  have orG : PySem.W.recIn K (RBH.fcg K (He.ga K "Bag") "of") "classmethod" = some (.ref (RBH.rc0 K (RBH.fcg K (He.ga K "Bag") "of") "classmethod") :: (RBH.rcT K (RBH.fcg K (He.ga K "Bag") "of") "classmethod")) := c.dec 137
  have ofG := c.get 138
  obtain ⟨_, ocO, odO, slO, kVO, dcO, pmO, anO, cdO, ctO, lO, cO⟩ := c.def0 34
  have xe := c.get 139
  have ec := He.codeOf_eq (p := ("law", none)) lL rfl
  have hT := c.empty ("law", none) List.mem_cons_self
  have nT0 := c.out ("law", none) List.mem_cons_self
  have cH0 := c.hd ("law", none) List.mem_cons_self
  have cH := PySem.W.codeHd_of_K X (show PySem.W.codeHdIn K cL (He.cT K ("law", none)).2 = true from by rw [← ec]; exact cH0)
  exact all_mk X G hmg a1 l1 c1 k1 a2 l2 c2 k2 a3 l3 c3 k3 a4 l4 c4 k4 a5 l5 c5 k5 a6 l6 c6 k6 a7 l7 c7 k7 a8 l8 c8 k8 a9 l9 c9 k9 a10 l10 c10 k10 a11 l11 c11 k11 a12 l12 c12 k12 a13 l13 c13 k13 a14 l14 c14 k14 a15 l15 c15 k15 a16 l16 c16 k16 a17 l17 c17 k17 a18 l18 c18 k18 a19 l19 c19 k19 a20 l20 c20 k20 a21 l21 c21 k21 a22 l22 c22 k22 a23 l23 c23 k23 aL lL cdL z_abs z_any z_enumerate z_int z_isinstance z_len z_list z_range z_sum z_zip aB aC aM xC sa nb iC tC lC cC kfC iB lB cB rB gB kB lT kC eC tyC eB cxB tyB sB aC2 xC2 sa2 nb2 iC2 tC2 lC2 cC2 kfC2 kC2 eC2 tyC2 hbm2 aC3 xC3 sa3 nb3 iC3 tC3 lC3 cC3 kfC3 kC3 eC3 tyC3 sB3 hbm3 xe3 nf3 aC4 xC4 sa4 nb4 iC4 tC4 lC4 cC4 kfC4 kC4 eC4 tyC4 sB4 hbm4 xe4 nf4 aC5 xC5 sa5 nb5 iC5 tC5 lC5 cC5 kfC5 kC5 eC5 tyC5 sB5 hbm5 xe5 nf5 oM oL oO aG aX iX lX cX kX aW aI iI lI cI kI aV iV lV cV kV pgW hdW poW saW mkW kcW n1W n2W n3W pgG hdG poG saG mkG kcG nwG sfG pS1 pS2 pS3 pS4 lZ cZ kZ ca cn ct cm crG cgG omG orG ofG lO cO hbm oTd xe hT nT0 cH
end RB
open PySem PySem.W PySem.Calls PyProof.Rows
set_option maxHeartbeats 0 in
theorem PySem.Challenge.cw_rootbags_k70_residues_that_are_refused_holds : PySem.Challenge.rw_rootbags_k70_residues_that_are_refused.Holds := by
  w_on; o_law
  refine HandSHeadRun.head_any (r := OpenLaw.row PySem.Challenge.rw_rootbags_k70_residues_that_are_refused) (q := view (OpenLaw.row PySem.Challenge.rw_rootbags_k70_residues_that_are_refused).prog [97]) (H := RB.hkR) (ob := RB.obR) (M := 60000) (loose := RB.looseR) (d := HandSHeadRun.topDef (OpenLaw.row PySem.Challenge.rw_rootbags_k70_residues_that_are_refused).prog 97) (kwd := []) RB.obR_eq
    (by kernel_rfl) (fun s => by kernel_rfl) RB.runR (by kernel_rfl) (by kernel_rfl) (by kernel_rfl) (by rfl) (by first | assumption | decide +kernel) (by decide +kernel) ⟨rfl, rfl, rfl, rfl, rfl, by decide +kernel⟩ ?hw ?hc
  case hw => w_witness2
  case hc =>
    refine LamX.walk_ofTsE (l := PySem.Challenge.rw_rootbags_k70_residues_that_are_refused) (n := 63) (k := 11) (x := "_law_script") (CX := fun _ => L2.CX0) rfl (by decide) (by kernel_rfl) ⟨rfl, by decide, by decide⟩ ?F (fun _ _ _ _ _ z => z)
    intro w mg fa h Y G hmg0
    obtain ⟨K, KX, c⟩ := Y
    have hmg : mg ("law" : PySem.Str) = some (.ref fa) := by
      have e : (HandSHeadRun.topDef (OpenLaw.row PySem.Challenge.rw_rootbags_k70_residues_that_are_refused).prog 97).name = ("law" : PySem.Str) := by kernel_rfl
      rw [← e]
      exact hmg0
    exact ⟨K, KX, RB.factsR KX G hmg c⟩

