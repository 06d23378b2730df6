import PyProof.Rows.All
import Wide.All
import OpenK.AllK
import Wide.FinOn
import HandS.ForMost
import HandS.ForExc
import HandS.IsInst
import HandS.Style
import HandS.Conv
import HandS.Wide
import HandS.Walk
import HandS.Defaults
import HandS.Codes
import PyProof.ReprRoads
import KE.KStateDown
import HandS.More
import HandS.Head0
import HandS.Head1
import HandS.Head2
import HandS.HeadEnd
import HandS.HeadHook1
import HandS.HeadHook2
import HandS.HeadHook3
import HandS.HeadHook4
import HandS.EndTab
import HandS.ExcIs
import HandS.DictComp
import HandS.TupLen
import HandS.Deep
import HandS.Set
import HandS.SetFor
import HandS.Strs
import HandS.Iter
import PyProof.StrLawsRepr
import KE.KSortKeySt
import KE.KMinKey
import HandS.SortKw
import HandS.Nested
import HandS.TupLe
import HandS.Exc
import HandS.ExcOwn
import HandS.TryOnly
import HandS.TryMany
import HandS.Lambda
import HandS.HotCalls
import PySem.Challenge.RW_phrasedesk_k13_refused_desks
set_option Elab.async false
set_option linter.all false
set_option maxRecDepth 100000
set_option maxHeartbeats 0
/-! Phrasedesk, part 0: what every law needs over the hand layer: promises of defs that write data out as texts, a class without an __init__ of its own, rows and froms on the heap, chains. -/
namespace PD
open PySem PySem.Spec PyProof.Rows L2

/-! ### promises kept where nothing is being written out around -/
structure FnG (P : Program) (w : World) (K : PySem.W.Frag) (mg : Str → Option Value) (base : Heap) (lv : Nat) (f : Addr) (fd : FuncData) (ps : List Str) (sp : Sp) : Prop where
  many : ∀ xs G Q E, sp xs G Q E → xs.length = ps.length
  goes : ∀ (B : Around) (fr : List Env) (z : Shared) (G : Hp) (ar : Args) (us : List Value) (xs : List V) (Q : VK) (E : XK), B.guards = some [] → Room lv B →
    Env0 P w K mg base B fr z G → BindsTo z fd ar (ps.zip us) → Vals xs us → sp xs G Q E → codeAny (model P w) B (.call (.ref f) ar) (CR CX0 fr P w G z Q E) z

section
variable {P : Program} {w : World} {K : PySem.W.Frag} {mg : Str → Option Value} {base : Heap}
theorem FnG.of {lv : Nat} {f : Addr} {fd : FuncData} {ps : List Str} {sp : Sp} (F : FnOk P w K mg base CX0 lv f fd ps sp) : FnG P w K mg base lv f fd ps sp :=
  ⟨F.len, fun B fr z G ar us xs Q E _ hr e0 hb hv hs => F.run B fr z G ar us xs Q E hr e0 hb hv hs⟩
theorem FnG.up {lv m : Nat} {f : Addr} {fd : FuncData} {ps : List Str} {sp : Sp} (F : FnG P w K mg base lv f fd ps sp) (h : lv ≤ m) : FnG P w K mg base m f fd ps sp :=
  ⟨F.many, fun B fr z G ar us xs Q E hg hr => F.goes B fr z G ar us xs Q E hg (hr.mono h)⟩

/-- a def's body as a term of rules and its reading, where nothing is being written out -/
theorem okG {x qual : Str} {params : Arguments} {body : List Stmt} {scope : Scope} {dvs : List V} {kws : List (Str × V)} {f : Addr} {fd : FuncData} {N ps : List Str} {lv : Nat} {sp : Sp}
    (F : FunD K x qual params body scope dvs kws f fd) (S : FnScope N ps scope) (len : ∀ xs G Q E, sp xs G Q E → xs.length = ps.length)
    (bd : ∀ (cv : Value) (B : Around) (fr : List Env) (z : Shared) (G : Hp) (xs : List V) (Q : VK) (E : XK), (B.deeper (envOfC qual scope z.heap.objs.size f cv)).guards = some [] →
      Room lv (B.deeper (envOfC qual scope z.heap.objs.size f cv)) → sp xs G Q E →
      ∃ t, PSs (cxOf CX0 P w K mg base N qual scope f cv B fr z G E).nox body t ∧ t { nx := fun _ G' => Q .non G', rt := Q } (start N xs) G) :
    FnG P w K mg base (lv + 1) f fd ps sp := by
  obtain ⟨oc, od, dV, kV, doc, pm, an, cv, ct, sl, rfl, lk, hc, -, -⟩ := F.ex
  constructor
  · exact len
  · intro B fr z G ar us xs Q E hg hr e0 hb hv hs
    have hl := len xs G Q E hs
    have st : ∀ b o, base.get? b = some o → z.heap.get? b = some o := fun b o e => (e0.bs b o e).1
    have KZ : K.In z.heap := e0.mod.kin.keeps st
    have kinds : ∀ y ∈ ps.zip us, scope.names.lookup y.1 = some .local ∨
        (scope.names.lookup y.1 = some .cell ∧ ((cellsFrom (z.heap.objs.size + 1) scope.names []).lookup y.1).isSome = true) := by
      rintro ⟨n, v⟩ hy
      cases S.par n (List.of_mem_zip hy).1 with
      | inl q => exact .inl q
      | inr q => exact .inr ⟨q, PySem.W.cellsFrom_some _ _ _ (.inl q)⟩
    refine codeAny_call_function hr.depth (KZ _ _ lk) rfl S.co S.gen rfl (PySem.W.codeRec_of KZ hc) (hb _ _ _ _ ?_)
    refine wpAny_newFunctionEnv_cells S.kind kinds ?_
    intro env ee z1 ic
    cases ee
    refine ⟨(e0.mod.nolimit.keeps st).keeps ic.toInCall.keep, codeAny_func ?_⟩
    obtain ⟨t, ht, q⟩ := bd cv B fr z G xs Q E hg (hr.deeper _) hs
    have I : Inv (cxOf CX0 P w K mg base N qual scope f cv B fr z G E) [] (start N xs) G z1 := inv_start S hr.hd e0 hl hv ic
    refine wpAny_mono (ht.nox.run [] z1 (start N xs) G _ I q) ?_ fun e z2 h2 => h2
    intro fl z2 h2
    cases fl with
    | ret u =>
      obtain ⟨v, σ', G', J, rv, q2⟩ := h2
      exact ⟨v, G', J.os, J.bare, J.base, J.hok, rv, q2⟩
    | next =>
      obtain ⟨σ', G', J, q2⟩ := h2
      exact ⟨V.non, G', J.os, J.bare, J.base, J.hok, rfl, q2⟩
    | brk => exact h2.elim fun _ h3 => h3.elim fun _ h4 => False.elim h4.2
    | cont => exact h2.elim fun _ h3 => h3.elim fun _ h4 => False.elim h4.2
end

section
variable {X : Cx} {lv : Nat} {f : Addr} {fd : FuncData} {ps : List Str} {sp : Sp} {x : Str} {p pos : Pos} {e : Expr} {es : List Expr} {t : TA}
theorem runG {pins : List (Addr × Obj)} {σ : L2.St} {G : Hp} {z : Shared} {Q : VK} {us : List Value} {xs : List V} (F : FnG X.prog X.w X.K X.mg X.base lv f fd ps sp) (hg : X.A.guards = some []) (hr : Room lv X.A)
    (hb : Binds X.K fd ps []) (I : Inv X pins σ G z) (r : Vals xs us) (h : sp xs G Q E0) : wpAny (model X.prog X.w) X.A (call (.ref f) us) (EP X pins σ Q) X.xe z := by
  have hl : (us ++ []).length = ps.length := by
    rw [List.append_nil, ← r.length]
    exact F.many _ _ _ _ h
  have hbd := hb z us I.kIn hl
  rw [List.append_nil] at hbd
  refine wpAny_call (codeAny_mono (F.goes X.A X.stack z G ⟨us, []⟩ us xs Q E0 hg hr I.env0 hbd r h) ?_)
  intro res z2 hq
  cases res with
  | error er => exact (show False from hq).elim
  | ok fl =>
    cases fl with
    | ret u => exact I.after hq
    | next => exact (show False from hq).elim
    | brk => exact (show False from hq).elim
    | cont => exact (show False from hq).elim
/-- f(e, ..), f such a def -/
theorem pe_callG (F : FnG X.prog X.w X.K X.mg X.base lv f fd ps sp) (hgd : X.A.guards = some []) (hr : Room lv X.A) (hg : Gl X x) (hm : X.mg x = some (.ref f)) (hk : PySem.W.keepIn X.K (.ref f) = true)
    (hb : Binds X.K fd ps []) (ha : PA X (e :: es) t) (hdb : (x == ("__debug__" : Str)) = false := by decide)
    (he : starEach (e :: es) X.env = (false, eval e X.env) :: starEach es X.env := by rfl) (hpl : (backTo pos (starEach es X.env)).any (·.1) = false := by rfl) :
    PE X (.Call (.Name x p) (e :: es) [] pos) (fun σ G Q => t σ G fun xs G1 => sp xs G1 Q E0) := by
  constructor
  intro pins z σ G Q I h
  refine wpAny_Call_Name_kw (ld_glob I hg hm ?_ hdb)
  refine PySem.W.callWith_K (h₀ := X.base) I.ok.mod.kin hk (thn (ha.run pos pins z σ G _ I h) ?_) he hpl
  rintro us z1 ⟨xs, G1, I1, r, q⟩
  exact ⟨I1.kIn, runG F hgd hr hb I1 r q⟩

/-! ### str(data) -/
def rStrD (K : PySem.W.Frag) : List V → Hp → VK → Prop := fun xs G Q => ∃ (a : Addr) (d : PyData), xs = [.ref a] ∧ Dp K G (.ref a) d ∧ d.showable = true ∧ d.hasDict = false ∧
  d.depth ≤ 60 ∧ d.shown.length ≤ sizeLine ∧ Q (.str d.shown) G
theorem call_strD (hg : X.A.guards = some []) (hu : X.A.units + 64 < cLine) : CallR X (.type "str") (rStrD X.K) := by
  intro pins z σ G xs us Q I r h
  obtain ⟨a, d, rfl, dp, hs, hd, hz, hl, q⟩ := h
  obtain ⟨u, rfl, r1⟩ := vals1 r
  cases (show u = Value.ref a from r1)
  obtain ⟨as, rd⟩ := Dp.reads I d (.ref a) (.ref a) dp rfl
  refine str_of_reads rd hs (fun e => by rw [hd] at e; cases e) hg (by omega) (fun b o e => e) (fun h' u tk hk => ?_) hl
  exact ⟨.str d.shown, G, I.kept (h' := h') (t' := tk) hk, ⟨u, rfl⟩, q⟩

/-! ### C() of a class without an __init__ of its own -/
def tBare (C : Addr) : TE := fun _ G Q => ∀ y dy, G y = none → G dy = none → dy ≠ y → Q (.ref y) (upd (upd G dy (.own y)) y (.ins C dy []))
structure Bare (K : PySem.W.Frag) (C : Addr) : Prop where
  makes : PySem.W.makesIn K C = true
  init : PySem.W.findIn K (.ref C) "__init__" = some (some (.builtin "object.__init__"))
  kp : PySem.W.keepIn K (.ref C) = true
theorem pe_bare {C : Addr} (M : Bare X.K C) (hg : Gl X x) (hm : X.mg x = some (.ref C)) (hdb : (x == ("__debug__" : Str)) = false := by decide) : PE X (.Call (.Name x p) [] [] pos) (tBare C) := by
  constructor
  intro pins z σ G Q I h
  refine wpAny_Call_Name_kw (ld_glob I hg hm ?_ hdb)
  refine PySem.W.callWith_K0 I.kIn M.kp ?_
  have J := Inv.made (C := C) I
  have q := h (z.heap.objs.size + 1) z.heap.objs.size (I.hok.fresh (Nat.le_succ _)) (I.hok.fresh (Nat.le_refl _)) (Nat.ne_of_lt (Nat.lt_succ_self _))
  have Y := PySem.W.makes_of (M := model X.prog X.w) I.kIn M.makes
  refine wpAny_call (make_map0 I.kIn M.makes M.init (fun self => PySem.W.Looks.of_pure (PySem.W.oi_bind self)) ?_)
  have at1 : ((z.heap.push PySem.W.emptyDict).push (PySem.W.instObj C z.heap.objs.size)).get? (z.heap.objs.size + 1) = some (PySem.W.instObj C z.heap.objs.size) := by
    have g := Heap.get?_push_size (z.heap.push PySem.W.emptyDict) (o := PySem.W.instObj C z.heap.objs.size) rfl
    rwa [Heap.size_push] at g
  have ty : PySem.W.Looks (model X.prog X.w) ((z.heap.push PySem.W.emptyDict).push (PySem.W.instObj C z.heap.objs.size)) (typeOf (.ref (z.heap.objs.size + 1))) (.ref C) := (PySem.W.Looks.ld at1).andThen .now
  have io : PySem.W.Looks (model X.prog X.w) ((z.heap.push PySem.W.emptyDict).push (PySem.W.instObj C z.heap.objs.size)) (isInstance (.ref (z.heap.objs.size + 1)) (.type "object")) true :=
    ty.andThen (Y.top.keeps fun b o e => Heap.get?_push_of_some _ (Heap.get?_push_of_some _ e))
  refine codeAny_call_builtin PySem.W.oi_plain PySem.W.entry_oi
    (@PySem.W.check_slot (model X.prog X.w) _ _ _ "object.__init__" "object" "__init__" (.ref (z.heap.objs.size + 1)) [] [] _ PySem.W.oi_kind PySem.W.oi_split io (PySem.W.oi_args (.ref (z.heap.objs.size + 1))) ?_)
  rw [PySem.W.oi_run]
  exact wpAny_pure (And.intro rfl ⟨.ref (z.heap.objs.size + 1), _, J, rfl, q⟩)
end
/-! ### defs of the text, from the head's facts -/
section
variable {P : Program} {w : World} {K : PySem.W.Frag} {mg : Str → Option Value} {base : Heap} {x qual : Str} {st : Stmt} {f : Addr} {N ps : List Str} {k : Nat} {sp : Sp}
/-- how a def without defaults binds -/
abbrev BindOk (x qual : Str) (st : Stmt) (ps : List Str) : Prop := ∀ (kV doc pm : Value) (an : Option Addr) (cdv ct : Value) (us : List Value), us.length = ps.length →
  bindArgs (PySem.W.fnOf x qual (defArgs st) (defBody st) (defScope st) .none kV doc pm an cdv ct) ⟨us, []⟩ = pure (ps.zip us)
abbrev BodyOk (P : Program) (w : World) (K : PySem.W.Frag) (mg : Str → Option Value) (base : Heap) (qual : Str) (st : Stmt) (f : Addr) (N : List Str) (k : Nat) (sp : Sp) : Prop :=
  ∀ (cdv : Value) (A : Around) (outer : List Env) (s : Shared) (H : Hp) (vs : List V) (Q : VK) (E : XK), Room k (A.deeper (envOfC qual (defScope st) s.heap.objs.size f cdv)) → sp vs H Q E →
    ∃ t, PSs (cxOf CX0 P w K mg base N qual (defScope st) f cdv A outer s H E).nox (defBody st) t ∧ t { nx := fun _ H' => Q .non H', rt := Q } (start N vs) H
theorem fnD {fd : FuncData} (F : FunD K x qual (defArgs st) (defBody st) (defScope st) [] [] f fd) (S : FnScope N ps (defScope st)) (len : ∀ vs H Q E, sp vs H Q E → vs.length = ps.length)
    (b : BodyOk P w K mg base qual st f N k sp) : FnOk P w K mg base CX0 (k + 1) f fd ps sp := by
  refine F.ok S len ?_
  intro cdv A outer s H vs Q E hr h
  obtain ⟨t, h1, h2⟩ := b cdv A outer s H vs Q E hr h
  exact ⟨t, h1.nox, h2⟩
theorem calD (F : ∃ fd, FunD K x x (defArgs st) (defBody st) (defScope st) [] [] f fd) (hm : mg x = some (.ref f)) (hb : BindOk x x st ps) (S : FnScope N ps (defScope st)) (len : ∀ vs H Q E, sp vs H Q E → vs.length = ps.length)
    (b : BodyOk P w K mg base x st f N k sp) : C8.Cal P w K mg base (k + 1) x sp [] := by
  obtain ⟨fd, F⟩ := F
  exact ⟨f, fd, ps, [], fnD F S len b, hm, F.kp, F.bindsN hb, .nil⟩
theorem metD {C : Addr} {m : Str} (F : ∃ fd, FunD K m qual (defArgs st) (defBody st) (defScope st) [] [] f fd) (c : Cls K C) (hm : Meth K C m f) (hb : BindOk m qual st ps) (S : FnScope N ps (defScope st)) (len : ∀ vs H Q E, sp vs H Q E → vs.length = ps.length)
    (b : BodyOk P w K mg base qual st f N k sp) : C8.Met P w K mg base (k + 1) C m sp [] := by
  obtain ⟨fd, F⟩ := F
  exact ⟨f, fd, ps, [], c, hm, fnD F S len b, F.bindsN hb, .nil⟩
theorem makD {C : Addr} (F : ∃ fd, FunD K "__init__" qual (defArgs st) (defBody st) (defScope st) [] [] f fd) (M : Mk K C f) (hg : mg x = some (.ref C)) (hb : BindOk "__init__" qual st ps) (S : FnScope N ps (defScope st)) (len : ∀ vs H Q E, sp vs H Q E → vs.length = ps.length)
    (b : BodyOk P w K mg base qual st f N k sp) : C8.Mak P w K mg base (k + 1) x C sp [] := by
  obtain ⟨fd, F⟩ := F
  exact ⟨f, fd, ps, [], M, fnD F S len b, hg, F.bindsN hb, .nil⟩
/-- a def that writes data out, or calls one that does -/
structure CalG (P : Program) (w : World) (K : PySem.W.Frag) (mg : Str → Option Value) (base : Heap) (k : Nat) (x : Str) (sp : Sp) : Prop where
  ex : ∃ (f : Addr) (fd : FuncData) (ps : List Str), FnG P w K mg base k f fd ps sp ∧ mg x = some (.ref f) ∧ PySem.W.keepIn K (.ref f) = true ∧ Binds K fd ps []
theorem calG (F : ∃ fd, FunD K x x (defArgs st) (defBody st) (defScope st) [] [] f fd) (hm : mg x = some (.ref f)) (hb : BindOk x x st ps) (S : FnScope N ps (defScope st)) (len : ∀ vs H Q E, sp vs H Q E → vs.length = ps.length)
    (b : ∀ (cv : Value) (B : Around) (fr : List Env) (z : Shared) (G : Hp) (xs : List V) (Q : VK) (E : XK), (B.deeper (envOfC x (defScope st) z.heap.objs.size f cv)).guards = some [] →
      Room k (B.deeper (envOfC x (defScope st) z.heap.objs.size f cv)) → sp xs G Q E →
      ∃ t, PSs (cxOf CX0 P w K mg base N x (defScope st) f cv B fr z G E).nox (defBody st) t ∧ t { nx := fun _ G' => Q .non G', rt := Q } (start N xs) G) : CalG P w K mg base (k + 1) x sp := by
  obtain ⟨fd, F⟩ := F
  exact ⟨f, fd, ps, okG F S len b, hm, F.kp, F.bindsN hb⟩
end
section
variable {X : Cx} {k j : Nat} {sp : Sp} {x : Str} {p pos : Pos} {e : Expr} {es : List Expr} {t : TA}
theorem pe_cG (c : CalG X.prog X.w X.K X.mg X.base k x sp) (hgd : X.A.guards = some []) (hr : Room j X.A) (hk : k ≤ j) (hg : Gl X x) (ha : PA X (e :: es) t) (hdb : (x == ("__debug__" : Str)) = false := by decide)
    (he : starEach (e :: es) X.env = (false, eval e X.env) :: starEach es X.env := by rfl) (hpl : (backTo pos (starEach es X.env)).any (·.1) = false := by rfl) :
    PE X (.Call (.Name x p) (e :: es) [] pos) (fun σ G Q => t σ G fun xs G1 => sp xs G1 Q E0) := by
  obtain ⟨f, fd, ps, F, hm, kp, b⟩ := c.ex
  exact pe_callG F hgd (hr.mono hk) hg hm kp b ha hdb he hpl
theorem pe_c0 (c : C8.Cal X.prog X.w X.K X.mg X.base k x sp []) (hr : Room j X.A) (hk : k ≤ j) (hg : Gl X x) (hdb : (x == ("__debug__" : Str)) = false := by decide) :
    PE X (.Call (.Name x p) [] [] pos) (tCall sp [] E0 tNil) := by
  obtain ⟨f, fd, ps, ds, F, hm, kp, b, d⟩ := c.ex
  exact pe_call0 F (hr.mono hk) hg hm kp b d pass0 hdb
end
/-! ### instances asked by isinstance -/
structure Ins1 (K : PySem.W.Frag) (C : Addr) : Prop where
  cls : PySem.W.findIn K (.ref C) "__class__" = some (some (.builtin "object.__class__"))
  get : PySem.W.specialIn K (.builtin "object.__class__") "__get__" = some (some (.builtin "getset_descriptor.__get__"))
  tak : PySem.W.takesIn K (.builtin "object.__class__") = some true
  mro : PySem.W.mroIn K C (.type "object") = some true
theorem Ins1.ty {K : PySem.W.Frag} {C a dx : Addr} {fs : List (Str × V)} {H : Hp} (i : Ins1 K C) (c : Cls K C) (e : H a = some (.ins C dx fs)) : TyX K H (.ref a) (.ref C) := .base (.ins e c i.cls i.get i.tak i.mro)
theorem is_ty {K : PySem.W.Frag} {a b : String} {r : Bool} (h : kitB a b = some r) : PySem.W.kitOne K (.type a) (.type b) = some r := h
/-! ### heaps -/
theorem same_upd {H : Hp} {p : Addr} {o : HO} (h : H p = none) : Same H (upd H p o) := fun b x e => by
  rw [upd_ne (ne_of_none e h)]
  exact e
theorem Same.tup {K : PySem.W.Frag} {H H' : Hp} {a : Addr} {xs : List V} (e : Same H H') (h : SqT K H a xs) : SqT K H' a xs := by
  rcases h with (h | ⟨o, h⟩) | h
  · exact .inl (.inl (e _ _ h))
  · exact .inl (.inr ⟨o, e _ _ h⟩)
  · exact .inr h
/-- a change of a list that was new leaves what was -/
theorem Same.chg {H H' : Hp} {p : Addr} {o : HO} (e : Same H H') (h : H p = none) : Same H (upd H' p o) := fun b x q => by
  rw [upd_ne (ne_of_none q h)]
  exact e b x q
/-! ### rows and froms -/
abbrev Cell := Option (Int × Option Int)
def oV : Option Int → V
  | none => .non
  | some i => .int i
def CellV (H : Hp) (v : V) : Cell → Prop
  | none => v = .non
  | some (a, b) => ∃ p, v = .ref p ∧ H p = some (.tup [.int a, oV b])
theorem CellV.same {H H' : Hp} (e : Same H H') {v : V} : ∀ {c : Cell}, CellV H v c → CellV H' v c
  | none, h => h
  | some (a, b), ⟨p, h1, h2⟩ => ⟨p, h1, e _ _ h2⟩
structure Cells (H : Hp) (vs : List V) (row : List Cell) : Prop where
  len : vs.length = row.length
  each : ∀ (i : Nat) (c : Cell), row[i]? = some c → ∃ v, vs[i]? = some v ∧ CellV H v c
theorem Cells.same {H H' : Hp} (e : Same H H') {vs : List V} {row : List Cell} (h : Cells H vs row) : Cells H' vs row :=
  ⟨h.len, fun i c q => let ⟨v, h1, h2⟩ := h.each i c q; ⟨v, h1, h2.same e⟩⟩
/-- a row stands at p -/
def RowAt (H : Hp) (p : Addr) (row : List Cell) : Prop := ∃ vs, H p = some (.lst vs) ∧ Cells H vs row
theorem RowAt.same {H H' : Hp} (e : Same H H') {p : Addr} {row : List Cell} (h : RowAt H p row) : RowAt H' p row :=
  let ⟨vs, h1, h2⟩ := h; ⟨vs, e _ _ h1, h2.same e⟩
/-- a list of ints stands at p -/
def LsAt (H : Hp) (p : Addr) (ns : List Int) : Prop := H p = some (.lst (ns.map V.int))
theorem LsAt.same {H H' : Hp} (e : Same H H') {p : Addr} {ns : List Int} (h : LsAt H p ns) : LsAt H' p ns := e _ _ h
structure FrOk (fr : List Int) : Prop where
  lo : 1 ≤ fr.length
  hi : fr.length ≤ 7
  each : ∀ (i : Nat) (x : Int), fr[i]? = some x → 0 ≤ x ∧ x ≤ (i : Int)
structure RowOk (fr : List Int) (row : List Cell) : Prop where
  len : row.length = fr.length + 1
  src : ∃ a, row[0]? = some (some (a, none)) ∧ 0 ≤ a
  each : ∀ (i : Nat) (c : Cell), row[i + 1]? = some c → c = none ∨ ∃ a b, c = some (a, some b) ∧ 0 ≤ a ∧ 0 ≤ b
/-! ### chains -/
def up (fr : List Int) (t : Nat) : Nat := (fr.getD (t - 1) 0).toNat
def brk (fr : List Int) (row : List Cell) (t : Nat) : Bool := match row.getD t none, row.getD (up fr t) none with
  | some (_, b), some (a, _) => !decide (b = some a)
  | _, _ => true
def chainN (fr : List Int) (row : List Cell) : Nat → Nat → Option (List Int)
  | 0, _ => none
  | n + 1, t => if t = 0 then none else if brk fr row t then some [(t : Int)] else (chainN fr row n (up fr t)).map ((t : Int) :: ·)
def chain (fr : List Int) (row : List Cell) (t : Nat) : Option (List Int) := chainN fr row (t + 1) t
section
variable {fr : List Int} {row : List Cell}
theorem FrOk.at (h : FrOk fr) {t : Nat} (h0 : 0 < t) (h1 : t ≤ fr.length) : ∃ x : Int, fr[t - 1]? = some x ∧ 0 ≤ x ∧ x < (t : Int) ∧ x = (up fr t : Int) := by
  have hl : t - 1 < fr.length := by omega
  have e : fr[t - 1]? = some fr[t - 1] := List.getElem?_eq_getElem hl
  obtain ⟨a, b⟩ := h.each _ _ e
  refine ⟨fr[t - 1], e, a, by omega, ?_⟩
  unfold up
  rw [List.getD_eq_getElem?_getD, e, Option.getD_some]
  omega
theorem up_lt (h : FrOk fr) {t : Nat} (h0 : 0 < t) (h1 : t ≤ fr.length) : up fr t < t := by
  obtain ⟨x, _, _, b, c⟩ := h.at h0 h1
  omega
theorem chainN_more (h : FrOk fr) : ∀ (n m t : Nat), t ≤ fr.length → t < n → t < m → chainN fr row n t = chainN fr row m t := by
  intro n
  induction n with
  | zero => intro m t _ h1; omega
  | succ n ih =>
    intro m t ht h1 h2
    obtain ⟨m, rfl⟩ : ∃ k, m = k + 1 := ⟨m - 1, by omega⟩
    unfold chainN
    by_cases h0 : t = 0
    · rw [if_pos h0, if_pos h0]
    · rw [if_neg h0, if_neg h0]
      have hu := up_lt h (by omega : 0 < t) ht
      rw [ih m (up fr t) (by omega) (by omega) (by omega)]
theorem chain_zero : chain fr row 0 = none := rfl
theorem chain_step (h : FrOk fr) {t : Nat} (h0 : 0 < t) (h1 : t ≤ fr.length) : chain fr row t = if brk fr row t then some [(t : Int)] else (chain fr row (up fr t)).map ((t : Int) :: ·) := by
  have hu := up_lt h h0 h1
  show chainN fr row (t + 1) t = _
  unfold chainN
  rw [if_neg (by omega)]
  unfold chain
  rw [chainN_more h t (up fr t + 1) (up fr t) (by omega) (by omega) (by omega)]
theorem chain_mem (h : FrOk fr) : ∀ (t : Nat) (c : List Int), t ≤ fr.length → chain fr row t = some c → c ≠ [] ∧ c.length ≤ t ∧ ∀ x ∈ c, 1 ≤ x ∧ x ≤ (t : Int) := by
  intro t
  induction t using Nat.strongRecOn with
  | _ t ih =>
    intro c ht e
    by_cases h0 : t = 0
    · subst h0
      cases e
    · rw [chain_step h (by omega) ht] at e
      have hu := up_lt h (by omega : 0 < t) ht
      split at e
      · have e2 := Option.some.inj e
        subst e2
        refine ⟨by simp, by simp; omega, ?_⟩
        intro x hx
        have : x = (t : Int) := by simpa using hx
        omega
      · obtain ⟨r, e1, e2⟩ := Option.map_eq_some_iff.mp e
        obtain ⟨_, h2, h3⟩ := ih _ hu r (by omega) e1
        subst e2
        refine ⟨by simp, by simp; omega, ?_⟩
        intro x hx
        rcases List.mem_cons.mp hx with q | q
        · omega
        · have := h3 x q
          omega
end
end PD

/-! Phrasedesk: a head whose objects are named one by one (their addresses written out), so that they needn't be searched in the kernel; its run looked at in two theorems -/
namespace PD
open PySem PySem.Spec PyProof.Rows L2
section
variable {fa : List He.Fa} {fn : List He.DefD} {tf : List He.Defn} {ex : PySem.W.Frag → Bool} {as : List Addr}
def obsL (as : List Addr) (fa : List He.Fa) (fn : List He.DefD) (tf : List He.Defn) (ex : PySem.W.Frag → Bool) (g : Addr → Option Obj) : He.AlX :=
  let K := He.frT g as
  (He.obsT fa fn [] K, ex K && He.tabsB g tf K)
theorem saysL {w : World} {h : Heap} (e : obsL as fa fn tf ex h.get? = He.valX fn [] w) : He.SaysX fa fn [] tf ex w h (He.frT h.get? as) := by
  generalize eK : He.frT h.get? as = K
  have e' : (He.obsT fa fn [] K, ex K && He.tabsB h.get? tf K) = (He.valT fn [] w, true) := by
    rw [← eK]
    exact e
  rw [Prod.mk.injEq, Bool.and_eq_true] at e'
  obtain ⟨e1, e2, e3⟩ := e'
  have each : ∀ p ∈ tf, PySem.W.codeHdIn K (He.cT K p).1 (He.cT K p).2 = true ∧ h.get? (He.cT K p).2 = some { cls := .none, data := .fields #[] } ∧ K.lookup (He.cT K p).2 = none := by
    intro p hp
    have z := List.all_eq_true.mp e3 p hp
    rw [Bool.and_eq_true] at z
    obtain ⟨z1, z2⟩ := z
    cases q : h.get? (He.cT K p).2 with
    | none => rw [q] at z2; cases z2
    | some o =>
      rw [q] at z2
      have z3 : He.emptyTab o = true := z2
      refine ⟨z1, congrArg some (He.emptyTab_eq z3), ?_⟩
      have w1 := He.frT_none (as := as) q z3
      rw [eK] at w1
      exact w1
  exact { t := e1, more := e2, hd := fun p hp => (each p hp).1, out := fun p hp => (each p hp).2.2, empty := fun p hp => (each p hp).2.1 }
def hookL (as : List Addr) (fa : List He.Fa) (fn : List He.DefD) (tf : List He.Defn) (ex : PySem.W.Frag → Bool) : PySem.W.Hook where
  α := He.AlX
  obs := fun s => obsL as fa fn tf ex s.heap.get?
  val := He.valX fn []
  says := fun w h => ∃ K : PySem.W.Frag, K.In h ∧ He.SaysX fa fn [] tf ex w h K
  of := fun _ _ e => Exists.intro _ ⟨He.frT_in, saysL e⟩
  keeps := by
    rintro w h h' ⟨K, i, c⟩ k
    exact ⟨K, i.keeps k, { c with empty := fun p hp => k _ _ (c.empty p hp) }⟩
theorem obsL_eq {g : Addr → Option Obj} {s : Shared} (h : ∀ a, g a = s.heap.get? a) : obsL as fa fn tf ex g = (hookL as fa fn tf ex).obs s := by
  obtain rfl : g = s.heap.get? := funext h
  rfl
end
theorem join2 {σ α β γ : Type} {o : Option σ} {f : σ → α} {g : σ → β} {h : σ → γ} {a : α} {b : β} {c : γ} (e1 : o.map (fun s => (f s, g s)) = some (a, b)) (e2 : o.map h = some c) : o.map (fun s => (f s, g s, h s)) = some (a, b, c) := by
  cases o with
  | none => cases e1
  | some s =>
    have e1' : (f s, g s) = (a, b) := Option.some.inj e1
    have e2' : h s = c := Option.some.inj e2
    rw [Prod.mk.injEq] at e1'
    show some (f s, g s, h s) = _
    rw [e1'.1, e1'.2, e2']
end PD

namespace PD
open PySem PySem.Spec PyProof.Rows L2
def top (i : Nat) : Stmt := PySem.Challenge.pw_phrasedesk_k13_refused_desks.main.body.getD i (.Pass ⟨0, 0, 0, 0⟩)
abbrev s_wall : Stmt := top 0
abbrev s_is_number : Stmt := top 22
abbrev s_is_count : Stmt := top 23
abbrev s_is_number_or_none : Stmt := top 24
abbrev s_is_pair : Stmt := top 25
abbrev s_is_text : Stmt := top 26
abbrev s_is_froms : Stmt := top 27
abbrev s_is_tongue : Stmt := top 28
abbrev s_is_old_one : Stmt := top 29
abbrev s_is_old : Stmt := top 30
abbrev s_is_hands : Stmt := top 31
abbrev s_copied : Stmt := top 32
abbrev s_put_from : Stmt := top 33
abbrev s_is_broken : Stmt := top 34
abbrev s_chain_up : Stmt := top 35
abbrev s_one_above : Stmt := top 36
abbrev s_depth_of : Stmt := top 37
abbrev s_rounds_needed : Stmt := top 38
abbrev s_round_of_each : Stmt := top 39
abbrev s_is_put_anew : Stmt := top 40
abbrev s_Past_init : Stmt := inClass (top 41) 0
abbrev s_Past_begin_phrase : Stmt := inClass (top 41) 1
abbrev s_Past_lay_down : Stmt := inClass (top 41) 2
abbrev s_Past_take_off : Stmt := inClass (top 41) 3
abbrev s_Past_has_phrase : Stmt := inClass (top 41) 4
abbrev s_Past_standing : Stmt := inClass (top 41) 5
abbrev s_Past_text_standing : Stmt := inClass (top 41) 6
abbrev s_Past_cells : Stmt := inClass (top 41) 7
abbrev s_Past_was_seen : Stmt := inClass (top 41) 8
abbrev s_Past_is_over : Stmt := inClass (top 41) 9
abbrev s_Past_can_take_off : Stmt := inClass (top 41) 10
abbrev s_Past_takes : Stmt := inClass (top 41) 11
abbrev s_Past_takes_phrase : Stmt := inClass (top 41) 12
abbrev s_Past_takes_put : Stmt := inClass (top 41) 13
abbrev s_Past_takes_back : Stmt := inClass (top 41) 14
abbrev s_Rounds_init : Stmt := inClass (top 44) 0
abbrev s_Rounds_shows : Stmt := inClass (top 44) 1
abbrev s_evened : Stmt := top 46
abbrev s_fewest_rows : Stmt := top 47
abbrev s_deepest_first : Stmt := top 48
abbrev s_last_row : Stmt := top 49
abbrev s_telling_depth : Stmt := top 50
abbrev s_Desk_init : Stmt := inClass (top 52) 0
abbrev s_Desk_phrase : Stmt := inClass (top 52) 1
abbrev s_Desk_put : Stmt := inClass (top 52) 2
abbrev s_Desk_back : Stmt := inClass (top 52) 3
abbrev s_Desk_now : Stmt := inClass (top 52) 4
abbrev s_Desk_all_put : Stmt := inClass (top 52) 5
abbrev s_Desk_row : Stmt := inClass (top 52) 6
abbrev s_Desk_old : Stmt := inClass (top 52) 7
abbrev s_Desk_likes : Stmt := inClass (top 52) 8
abbrev s_Desk_fill : Stmt := inClass (top 52) 9
abbrev s_Desk_rounds : Stmt := inClass (top 52) 10
abbrev s_Desk_tale : Stmt := inClass (top 52) 11
abbrev s_Desk_check_phrase : Stmt := inClass (top 52) 12
abbrev s_Desk_check_place : Stmt := inClass (top 52) 13
abbrev s_Desk_check_other_tongue : Stmt := inClass (top 52) 14
abbrev s_Desk_check_text : Stmt := inClass (top 52) 15
abbrev s_Desk_is_fresh : Stmt := inClass (top 52) 16
abbrev s_Desk_texts_to_fill : Stmt := inClass (top 52) 17
abbrev s_Desk_put_like : Stmt := inClass (top 52) 18
abbrev s_law_kinds : Stmt := top 54
abbrev s_law_refused : Stmt := top 55
abbrev s_law_all : Stmt := top 56
abbrev s_law_strange : Stmt := top 57
abbrev s_law_no_froms : Stmt := top 58
abbrev s_law_no_texts : Stmt := top 59
abbrev s_law_told_of : Stmt := top 60
abbrev s_law_puts_right : Stmt := top 61
abbrev s_law : Stmt := top 62
--HEAD
def d_wall : He.DefD := ⟨("_wall", none), "_wall", "_wall", defArgs s_wall, defBody s_wall, defScope s_wall, [], []⟩
def d_is_number : He.DefD := ⟨("is_number", none), "is_number", "is_number", defArgs s_is_number, defBody s_is_number, defScope s_is_number, [], []⟩
def d_is_count : He.DefD := ⟨("is_count", none), "is_count", "is_count", defArgs s_is_count, defBody s_is_count, defScope s_is_count, [], []⟩
def d_is_number_or_none : He.DefD := ⟨("is_number_or_none", none), "is_number_or_none", "is_number_or_none", defArgs s_is_number_or_none, defBody s_is_number_or_none, defScope s_is_number_or_none, [], []⟩
def d_is_pair : He.DefD := ⟨("is_pair", none), "is_pair", "is_pair", defArgs s_is_pair, defBody s_is_pair, defScope s_is_pair, [], []⟩
def d_is_text : He.DefD := ⟨("is_text", none), "is_text", "is_text", defArgs s_is_text, defBody s_is_text, defScope s_is_text, [], []⟩
def d_is_froms : He.DefD := ⟨("is_froms", none), "is_froms", "is_froms", defArgs s_is_froms, defBody s_is_froms, defScope s_is_froms, [], []⟩
def d_is_tongue : He.DefD := ⟨("is_tongue", none), "is_tongue", "is_tongue", defArgs s_is_tongue, defBody s_is_tongue, defScope s_is_tongue, [], []⟩
def d_is_old_one : He.DefD := ⟨("is_old_one", none), "is_old_one", "is_old_one", defArgs s_is_old_one, defBody s_is_old_one, defScope s_is_old_one, [], []⟩
def d_is_old : He.DefD := ⟨("is_old", none), "is_old", "is_old", defArgs s_is_old, defBody s_is_old, defScope s_is_old, [], []⟩
def d_is_hands : He.DefD := ⟨("is_hands", none), "is_hands", "is_hands", defArgs s_is_hands, defBody s_is_hands, defScope s_is_hands, [], []⟩
def d_copied : He.DefD := ⟨("copied", none), "copied", "copied", defArgs s_copied, defBody s_copied, defScope s_copied, [], []⟩
def d_put_from : He.DefD := ⟨("put_from", none), "put_from", "put_from", defArgs s_put_from, defBody s_put_from, defScope s_put_from, [], []⟩
def d_is_broken : He.DefD := ⟨("is_broken", none), "is_broken", "is_broken", defArgs s_is_broken, defBody s_is_broken, defScope s_is_broken, [], []⟩
def d_chain_up : He.DefD := ⟨("chain_up", none), "chain_up", "chain_up", defArgs s_chain_up, defBody s_chain_up, defScope s_chain_up, [], []⟩
def d_one_above : He.DefD := ⟨("one_above", none), "one_above", "one_above", defArgs s_one_above, defBody s_one_above, defScope s_one_above, [], []⟩
def d_depth_of : He.DefD := ⟨("depth_of", none), "depth_of", "depth_of", defArgs s_depth_of, defBody s_depth_of, defScope s_depth_of, [], []⟩
def d_rounds_needed : He.DefD := ⟨("rounds_needed", none), "rounds_needed", "rounds_needed", defArgs s_rounds_needed, defBody s_rounds_needed, defScope s_rounds_needed, [], []⟩
def d_round_of_each : He.DefD := ⟨("round_of_each", none), "round_of_each", "round_of_each", defArgs s_round_of_each, defBody s_round_of_each, defScope s_round_of_each, [], []⟩
def d_is_put_anew : He.DefD := ⟨("is_put_anew", none), "is_put_anew", "is_put_anew", defArgs s_is_put_anew, defBody s_is_put_anew, defScope s_is_put_anew, [], []⟩
def d_Past_init : He.DefD := ⟨("Past", some "__init__"), "__init__", "Past.__init__", defArgs s_Past_init, defBody s_Past_init, defScope s_Past_init, [], []⟩
def d_Past_begin_phrase : He.DefD := ⟨("Past", some "begin_phrase"), "begin_phrase", "Past.begin_phrase", defArgs s_Past_begin_phrase, defBody s_Past_begin_phrase, defScope s_Past_begin_phrase, [], []⟩
def d_Past_lay_down : He.DefD := ⟨("Past", some "lay_down"), "lay_down", "Past.lay_down", defArgs s_Past_lay_down, defBody s_Past_lay_down, defScope s_Past_lay_down, [], []⟩
def d_Past_take_off : He.DefD := ⟨("Past", some "take_off"), "take_off", "Past.take_off", defArgs s_Past_take_off, defBody s_Past_take_off, defScope s_Past_take_off, [], []⟩
def d_Past_has_phrase : He.DefD := ⟨("Past", some "has_phrase"), "has_phrase", "Past.has_phrase", defArgs s_Past_has_phrase, defBody s_Past_has_phrase, defScope s_Past_has_phrase, [], []⟩
def d_Past_standing : He.DefD := ⟨("Past", some "standing"), "standing", "Past.standing", defArgs s_Past_standing, defBody s_Past_standing, defScope s_Past_standing, [], []⟩
def d_Past_text_standing : He.DefD := ⟨("Past", some "text_standing"), "text_standing", "Past.text_standing", defArgs s_Past_text_standing, defBody s_Past_text_standing, defScope s_Past_text_standing, [], []⟩
def d_Past_cells : He.DefD := ⟨("Past", some "cells"), "cells", "Past.cells", defArgs s_Past_cells, defBody s_Past_cells, defScope s_Past_cells, [], []⟩
def d_Past_was_seen : He.DefD := ⟨("Past", some "was_seen"), "was_seen", "Past.was_seen", defArgs s_Past_was_seen, defBody s_Past_was_seen, defScope s_Past_was_seen, [], []⟩
def d_Past_is_over : He.DefD := ⟨("Past", some "is_over"), "is_over", "Past.is_over", defArgs s_Past_is_over, defBody s_Past_is_over, defScope s_Past_is_over, [], []⟩
def d_Past_can_take_off : He.DefD := ⟨("Past", some "can_take_off"), "can_take_off", "Past.can_take_off", defArgs s_Past_can_take_off, defBody s_Past_can_take_off, defScope s_Past_can_take_off, [], []⟩
def d_Past_takes : He.DefD := ⟨("Past", some "takes"), "takes", "Past.takes", defArgs s_Past_takes, defBody s_Past_takes, defScope s_Past_takes, [], []⟩
def d_Past_takes_phrase : He.DefD := ⟨("Past", some "takes_phrase"), "takes_phrase", "Past.takes_phrase", defArgs s_Past_takes_phrase, defBody s_Past_takes_phrase, defScope s_Past_takes_phrase, [], []⟩
def d_Past_takes_put : He.DefD := ⟨("Past", some "takes_put"), "takes_put", "Past.takes_put", defArgs s_Past_takes_put, defBody s_Past_takes_put, defScope s_Past_takes_put, [], []⟩
def d_Past_takes_back : He.DefD := ⟨("Past", some "takes_back"), "takes_back", "Past.takes_back", defArgs s_Past_takes_back, defBody s_Past_takes_back, defScope s_Past_takes_back, [], []⟩
def d_Rounds_init : He.DefD := ⟨("Rounds", some "__init__"), "__init__", "Rounds.__init__", defArgs s_Rounds_init, defBody s_Rounds_init, defScope s_Rounds_init, [], []⟩
def d_Rounds_shows : He.DefD := ⟨("Rounds", some "shows"), "shows", "Rounds.shows", defArgs s_Rounds_shows, defBody s_Rounds_shows, defScope s_Rounds_shows, [], []⟩
def d_evened : He.DefD := ⟨("evened", none), "evened", "evened", defArgs s_evened, defBody s_evened, defScope s_evened, [], []⟩
def d_fewest_rows : He.DefD := ⟨("fewest_rows", none), "fewest_rows", "fewest_rows", defArgs s_fewest_rows, defBody s_fewest_rows, defScope s_fewest_rows, [], []⟩
def d_deepest_first : He.DefD := ⟨("deepest_first", none), "deepest_first", "deepest_first", defArgs s_deepest_first, defBody s_deepest_first, defScope s_deepest_first, [], []⟩
def d_last_row : He.DefD := ⟨("last_row", none), "last_row", "last_row", defArgs s_last_row, defBody s_last_row, defScope s_last_row, [], []⟩
def d_telling_depth : He.DefD := ⟨("telling_depth", none), "telling_depth", "telling_depth", defArgs s_telling_depth, defBody s_telling_depth, defScope s_telling_depth, [], []⟩
def d_Desk_init : He.DefD := ⟨("Desk", some "__init__"), "__init__", "Desk.__init__", defArgs s_Desk_init, defBody s_Desk_init, defScope s_Desk_init, [], []⟩
def d_Desk_phrase : He.DefD := ⟨("Desk", some "phrase"), "phrase", "Desk.phrase", defArgs s_Desk_phrase, defBody s_Desk_phrase, defScope s_Desk_phrase, [], []⟩
def d_Desk_put : He.DefD := ⟨("Desk", some "put"), "put", "Desk.put", defArgs s_Desk_put, defBody s_Desk_put, defScope s_Desk_put, [], []⟩
def d_Desk_back : He.DefD := ⟨("Desk", some "back"), "back", "Desk.back", defArgs s_Desk_back, defBody s_Desk_back, defScope s_Desk_back, [], []⟩
def d_Desk_now : He.DefD := ⟨("Desk", some "now"), "now", "Desk.now", defArgs s_Desk_now, defBody s_Desk_now, defScope s_Desk_now, [], []⟩
def d_Desk_all_put : He.DefD := ⟨("Desk", some "all_put"), "all_put", "Desk.all_put", defArgs s_Desk_all_put, defBody s_Desk_all_put, defScope s_Desk_all_put, [], []⟩
def d_Desk_row : He.DefD := ⟨("Desk", some "row"), "row", "Desk.row", defArgs s_Desk_row, defBody s_Desk_row, defScope s_Desk_row, [], []⟩
def d_Desk_old : He.DefD := ⟨("Desk", some "old"), "old", "Desk.old", defArgs s_Desk_old, defBody s_Desk_old, defScope s_Desk_old, [], []⟩
def d_Desk_likes : He.DefD := ⟨("Desk", some "likes"), "likes", "Desk.likes", defArgs s_Desk_likes, defBody s_Desk_likes, defScope s_Desk_likes, [], []⟩
def d_Desk_fill : He.DefD := ⟨("Desk", some "fill"), "fill", "Desk.fill", defArgs s_Desk_fill, defBody s_Desk_fill, defScope s_Desk_fill, [], []⟩
def d_Desk_rounds : He.DefD := ⟨("Desk", some "rounds"), "rounds", "Desk.rounds", defArgs s_Desk_rounds, defBody s_Desk_rounds, defScope s_Desk_rounds, [], []⟩
def d_Desk_tale : He.DefD := ⟨("Desk", some "tale"), "tale", "Desk.tale", defArgs s_Desk_tale, defBody s_Desk_tale, defScope s_Desk_tale, [], []⟩
def d_Desk_check_phrase : He.DefD := ⟨("Desk", some "check_phrase"), "check_phrase", "Desk.check_phrase", defArgs s_Desk_check_phrase, defBody s_Desk_check_phrase, defScope s_Desk_check_phrase, [], []⟩
def d_Desk_check_place : He.DefD := ⟨("Desk", some "check_place"), "check_place", "Desk.check_place", defArgs s_Desk_check_place, defBody s_Desk_check_place, defScope s_Desk_check_place, [], []⟩
def d_Desk_check_other_tongue : He.DefD := ⟨("Desk", some "check_other_tongue"), "check_other_tongue", "Desk.check_other_tongue", defArgs s_Desk_check_other_tongue, defBody s_Desk_check_other_tongue, defScope s_Desk_check_other_tongue, [], []⟩
def d_Desk_check_text : He.DefD := ⟨("Desk", some "check_text"), "check_text", "Desk.check_text", defArgs s_Desk_check_text, defBody s_Desk_check_text, defScope s_Desk_check_text, [], []⟩
def d_Desk_is_fresh : He.DefD := ⟨("Desk", some "is_fresh"), "is_fresh", "Desk.is_fresh", defArgs s_Desk_is_fresh, defBody s_Desk_is_fresh, defScope s_Desk_is_fresh, [], []⟩
def d_Desk_texts_to_fill : He.DefD := ⟨("Desk", some "texts_to_fill"), "texts_to_fill", "Desk.texts_to_fill", defArgs s_Desk_texts_to_fill, defBody s_Desk_texts_to_fill, defScope s_Desk_texts_to_fill, [], []⟩
def d_Desk_put_like : He.DefD := ⟨("Desk", some "put_like"), "put_like", "Desk.put_like", defArgs s_Desk_put_like, defBody s_Desk_put_like, defScope s_Desk_put_like, [], []⟩
def d_law_kinds : He.DefD := ⟨("_law_kinds", none), "_law_kinds", "_law_kinds", defArgs s_law_kinds, defBody s_law_kinds, defScope s_law_kinds, [], []⟩
def d_law_refused : He.DefD := ⟨("_law_refused", none), "_law_refused", "_law_refused", defArgs s_law_refused, defBody s_law_refused, defScope s_law_refused, [], []⟩
def d_law_all : He.DefD := ⟨("_law_all", none), "_law_all", "_law_all", defArgs s_law_all, defBody s_law_all, defScope s_law_all, [], []⟩
def d_law_strange : He.DefD := ⟨("_law_strange", none), "_law_strange", "_law_strange", defArgs s_law_strange, defBody s_law_strange, defScope s_law_strange, [], []⟩
def d_law_no_froms : He.DefD := ⟨("_law_no_froms", none), "_law_no_froms", "_law_no_froms", defArgs s_law_no_froms, defBody s_law_no_froms, defScope s_law_no_froms, [], []⟩
def d_law_no_texts : He.DefD := ⟨("_law_no_texts", none), "_law_no_texts", "_law_no_texts", defArgs s_law_no_texts, defBody s_law_no_texts, defScope s_law_no_texts, [], []⟩
def d_law_told_of : He.DefD := ⟨("_law_told_of", none), "_law_told_of", "_law_told_of", defArgs s_law_told_of, defBody s_law_told_of, defScope s_law_told_of, [], []⟩
def d_law_puts_right : He.DefD := ⟨("_law_puts_right", none), "_law_puts_right", "_law_puts_right", defArgs s_law_puts_right, defBody s_law_puts_right, defScope s_law_puts_right, [], []⟩
def d_law : He.DefD := ⟨("law", none), "law", "law", defArgs s_law, defBody s_law, defScope s_law, [], []⟩
def fn : List He.DefD := [d_wall, d_is_number, d_is_count, d_is_number_or_none, d_is_pair, d_is_text, d_is_froms, d_is_tongue, d_is_old_one, d_is_old, d_is_hands, d_copied, d_put_from, d_is_broken, d_chain_up, d_one_above, d_depth_of, d_rounds_needed, d_round_of_each, d_is_put_anew, d_Past_init, d_Past_begin_phrase, d_Past_lay_down, d_Past_take_off, d_Past_has_phrase, d_Past_standing, d_Past_text_standing, d_Past_cells, d_Past_was_seen, d_Past_is_over, d_Past_can_take_off, d_Past_takes, d_Past_takes_phrase, d_Past_takes_put, d_Past_takes_back, d_Rounds_init, d_Rounds_shows, d_evened, d_fewest_rows, d_deepest_first, d_last_row, d_telling_depth, d_Desk_init, d_Desk_phrase, d_Desk_put, d_Desk_back, d_Desk_now, d_Desk_all_put, d_Desk_row, d_Desk_old, d_Desk_likes, d_Desk_fill, d_Desk_rounds, d_Desk_tale, d_Desk_check_phrase, d_Desk_check_place, d_Desk_check_other_tongue, d_Desk_check_text, d_Desk_is_fresh, d_Desk_texts_to_fill, d_Desk_put_like, d_law_kinds, d_law_refused, d_law_all, d_law_strange, d_law_no_froms, d_law_no_texts, d_law_told_of, d_law_puts_right, d_law]
def fa0 : List He.Fa := [.glo "_wall", .glo "is_number", .glo "is_count", .glo "is_number_or_none", .glo "is_pair", .glo "is_text", .glo "is_froms", .glo "is_tongue", .glo "is_old_one", .glo "is_old", .glo "is_hands", .glo "copied", .glo "put_from", .glo "is_broken", .glo "chain_up", .glo "one_above", .glo "depth_of", .glo "rounds_needed", .glo "round_of_each", .glo "is_put_anew", .glo "evened", .glo "fewest_rows", .glo "deepest_first", .glo "last_row", .glo "telling_depth", .glo "_law_kinds", .glo "_law_refused", .glo "_law_all", .glo "_law_strange", .glo "_law_no_froms"]
def fa1 : List He.Fa := [.glo "_law_no_texts", .glo "_law_told_of", .glo "_law_puts_right", .glo "law", .int "FEWEST_TONGUES" 2, .int "MOST_TONGUES" 8, .int "MOST_PHRASES" 6, .int "MOST_LETTERS" 6, .int "MOST_HANDS" 4, .str "LETTERS" "abcdefghijklmnopqrstuvwxyz", .free "ValueError", .free "abs", .free "all", .free "bool", .free "enumerate", .free "int", .free "isinstance", .free "len", .free "list", .free "max", .free "range", .free "set", .free "sorted", .free "str", .free "tuple", .free "zip", .glo "Past", .cls "Past", .meth "Past" "begin_phrase", .meth "Past" "lay_down"]
def fa2 : List He.Fa := [.meth "Past" "take_off", .meth "Past" "has_phrase", .meth "Past" "standing", .meth "Past" "text_standing", .meth "Past" "cells", .meth "Past" "was_seen", .meth "Past" "is_over", .meth "Past" "can_take_off", .meth "Past" "takes", .meth "Past" "takes_phrase", .meth "Past" "takes_put", .meth "Past" "takes_back", .mkr "Past", .glo "Answer", .cls "Answer", .glo "Rounds", .cls "Rounds", .meth "Rounds" "shows", .mkr "Rounds", .glo "Desk", .cls "Desk", .meth "Desk" "phrase", .meth "Desk" "put", .meth "Desk" "back", .meth "Desk" "now", .meth "Desk" "all_put", .meth "Desk" "row", .meth "Desk" "old", .meth "Desk" "likes", .meth "Desk" "fill"]
def fa3 : List He.Fa := [.meth "Desk" "rounds", .meth "Desk" "tale", .meth "Desk" "check_phrase", .meth "Desk" "check_place", .meth "Desk" "check_other_tongue", .meth "Desk" "check_text", .meth "Desk" "is_fresh", .meth "Desk" "texts_to_fill", .meth "Desk" "put_like", .mkr "Desk", .noat "Past" "ever", .noat "Past" "froms", .noat "Past" "origins", .noat "Past" "phrases", .noat "Past" "piles", .noat "Past" "texts", .noat "Rounds" "depth", .noat "Rounds" "rows", .noat "Desk" "lines", .noat "Desk" "past", .glo "PhraseError", .exc "PhraseError", .glo "BadFroms", .exc "BadFroms", .glo "BadPhrase", .exc "BadPhrase", .glo "BadTongue", .exc "BadTongue", .glo "BadText", .exc "BadText"]
def fa4 : List He.Fa := [.glo "BadSeen", .exc "BadSeen", .glo "BadRow", .exc "BadRow", .glo "BadOld", .exc "BadOld", .glo "BadHands", .exc "BadHands", .glo "BadTale", .exc "BadTale", .glo "Overtaken", .exc "Overtaken", .glo "Nothing", .exc "Nothing", .glo "TooMany", .exc "TooMany"]
def fa : List He.Fa := fa0 ++ fa1 ++ fa2 ++ fa3 ++ fa4
def insB (K : PySem.W.Frag) (x : Str) : Bool := He.eqO (PySem.W.findIn K (.ref (He.ga K x)) "__class__") (some (some (.builtin "object.__class__"))) && (decide (PySem.W.mroIn K (He.ga K x) (.type "object") = some true) && (He.eqO (PySem.W.specialIn K (.builtin "object.__class__") "__get__") (some (some (.builtin "getset_descriptor.__get__"))) && decide (PySem.W.takesIn K (.builtin "object.__class__") = some true)))
def isB (K : PySem.W.Frag) (x y : Str) (b : Bool) : Bool := decide (PySem.W.kitOne K (.ref (He.ga K x)) (.ref (He.ga K y)) = some b)
def bareB (K : PySem.W.Frag) (x : Str) : Bool := PySem.W.makesIn K (He.ga K x) && (He.eqO (PySem.W.findIn K (.ref (He.ga K x)) "__init__") (some (some (.builtin "object.__init__"))) && PySem.W.keepIn K (.ref (He.ga K x)))
def excB (K : PySem.W.Frag) (x : Str) : Bool := He.eqO (PySem.W.findIn K (.ref (He.ga K x)) "__getattribute__") (some (some (.builtin "BaseException.__getattribute__"))) && (He.eqO (PySem.W.findIn K (.ref (He.ga K x)) "__getattr__") (some none) && (decide (PySem.W.subIn K (.ref (He.ga K x)) (.type "BaseException") = some true) && (PySem.W.hasDictIn K (He.ga K x) && insB K x)))
def tfs : List He.Defn := [("deepest_first", none), ("telling_depth", none), ("_law_puts_right", none), ("law", none)]
def exs (K : PySem.W.Frag) : List Bool := [insB K "Past", isB K "Past" "Past" true, isB K "Past" "Answer" false, isB K "Past" "Rounds" false, isB K "Past" "Desk" false, insB K "Answer", bareB K "Answer", isB K "Answer" "Past" false, isB K "Answer" "Answer" true, isB K "Answer" "Rounds" false, isB K "Answer" "Desk" false, insB K "Rounds", isB K "Rounds" "Past" false, isB K "Rounds" "Answer" true, isB K "Rounds" "Rounds" true, isB K "Rounds" "Desk" false, insB K "Desk", isB K "Desk" "Past" false, isB K "Desk" "Answer" false, isB K "Desk" "Rounds" false, isB K "Desk" "Desk" true, decide (PySem.W.exmOne K (.ref (He.ga K "BadFroms")) (.ref (He.ga K "PhraseError")) = some true), decide (PySem.W.exmOne K (.ref (He.ga K "BadOld")) (.ref (He.ga K "PhraseError")) = some true), decide (PySem.W.exmOne K (.ref (He.ga K "BadHands")) (.ref (He.ga K "PhraseError")) = some true), decide (PySem.W.exmOne K (.ref (He.ga K "TooMany")) (.ref (He.ga K "PhraseError")) = some true), decide (PySem.W.exmOne K (.ref (He.ga K "BadSeen")) (.ref (He.ga K "PhraseError")) = some true), decide (PySem.W.exmOne K (.ref (He.ga K "Overtaken")) (.ref (He.ga K "PhraseError")) = some true), decide (PySem.W.exmOne K (.ref (He.ga K "Nothing")) (.ref (He.ga K "PhraseError")) = some true), decide (PySem.W.exmOne K (.ref (He.ga K "BadPhrase")) (.ref (He.ga K "PhraseError")) = some true), decide (PySem.W.exmOne K (.ref (He.ga K "BadTongue")) (.ref (He.ga K "PhraseError")) = some true), decide (PySem.W.exmOne K (.ref (He.ga K "BadText")) (.ref (He.ga K "PhraseError")) = some true), excB K "BadFroms", isB K "BadFroms" "BadFroms" true, isB K "BadFroms" "BadPhrase" false, isB K "BadFroms" "BadTongue" false, isB K "BadFroms" "BadText" false, isB K "BadFroms" "BadSeen" false, isB K "BadFroms" "BadRow" false, isB K "BadFroms" "BadOld" false, isB K "BadFroms" "BadHands" false, isB K "BadFroms" "BadTale" false, isB K "BadFroms" "Overtaken" false, isB K "BadFroms" "Nothing" false, isB K "BadFroms" "TooMany" false, decide (PySem.W.kitOne K (.ref (He.ga K "BadFroms")) (.type "ValueError") = some true), excB K "BadOld", isB K "BadOld" "BadFroms" false, isB K "BadOld" "BadPhrase" false, isB K "BadOld" "BadTongue" false, isB K "BadOld" "BadText" false, isB K "BadOld" "BadSeen" false, isB K "BadOld" "BadRow" false, isB K "BadOld" "BadOld" true, isB K "BadOld" "BadHands" false, isB K "BadOld" "BadTale" false, isB K "BadOld" "Overtaken" false, isB K "BadOld" "Nothing" false, isB K "BadOld" "TooMany" false, decide (PySem.W.kitOne K (.ref (He.ga K "BadOld")) (.type "ValueError") = some true), excB K "BadHands", isB K "BadHands" "BadFroms" false, isB K "BadHands" "BadPhrase" false, isB K "BadHands" "BadTongue" false, isB K "BadHands" "BadText" false, isB K "BadHands" "BadSeen" false, isB K "BadHands" "BadRow" false, isB K "BadHands" "BadOld" false, isB K "BadHands" "BadHands" true, isB K "BadHands" "BadTale" false, isB K "BadHands" "Overtaken" false, isB K "BadHands" "Nothing" false, isB K "BadHands" "TooMany" false, decide (PySem.W.kitOne K (.ref (He.ga K "BadHands")) (.type "ValueError") = some true), excB K "TooMany", isB K "TooMany" "BadFroms" false, isB K "TooMany" "BadPhrase" false, isB K "TooMany" "BadTongue" false, isB K "TooMany" "BadText" false, isB K "TooMany" "BadSeen" false, isB K "TooMany" "BadRow" false, isB K "TooMany" "BadOld" false, isB K "TooMany" "BadHands" false, isB K "TooMany" "BadTale" false, isB K "TooMany" "Overtaken" false, isB K "TooMany" "Nothing" false, isB K "TooMany" "TooMany" true, decide (PySem.W.kitOne K (.ref (He.ga K "TooMany")) (.type "ValueError") = some true), excB K "BadSeen", isB K "BadSeen" "BadFroms" false, isB K "BadSeen" "BadPhrase" false, isB K "BadSeen" "BadTongue" false, isB K "BadSeen" "BadText" false, isB K "BadSeen" "BadSeen" true, isB K "BadSeen" "BadRow" false, isB K "BadSeen" "BadOld" false, isB K "BadSeen" "BadHands" false, isB K "BadSeen" "BadTale" false, isB K "BadSeen" "Overtaken" false, isB K "BadSeen" "Nothing" false, isB K "BadSeen" "TooMany" false, decide (PySem.W.kitOne K (.ref (He.ga K "BadSeen")) (.type "ValueError") = some true), excB K "Overtaken", isB K "Overtaken" "BadFroms" false, isB K "Overtaken" "BadPhrase" false, isB K "Overtaken" "BadTongue" false, isB K "Overtaken" "BadText" false, isB K "Overtaken" "BadSeen" false, isB K "Overtaken" "BadRow" false, isB K "Overtaken" "BadOld" false, isB K "Overtaken" "BadHands" false, isB K "Overtaken" "BadTale" false, isB K "Overtaken" "Overtaken" true, isB K "Overtaken" "Nothing" false, isB K "Overtaken" "TooMany" false, decide (PySem.W.kitOne K (.ref (He.ga K "Overtaken")) (.type "ValueError") = some true), excB K "Nothing", isB K "Nothing" "BadFroms" false, isB K "Nothing" "BadPhrase" false, isB K "Nothing" "BadTongue" false, isB K "Nothing" "BadText" false, isB K "Nothing" "BadSeen" false, isB K "Nothing" "BadRow" false, isB K "Nothing" "BadOld" false, isB K "Nothing" "BadHands" false, isB K "Nothing" "BadTale" false, isB K "Nothing" "Overtaken" false, isB K "Nothing" "Nothing" true, isB K "Nothing" "TooMany" false, decide (PySem.W.kitOne K (.ref (He.ga K "Nothing")) (.type "ValueError") = some true), excB K "BadPhrase", isB K "BadPhrase" "BadFroms" false, isB K "BadPhrase" "BadPhrase" true, isB K "BadPhrase" "BadTongue" false, isB K "BadPhrase" "BadText" false, isB K "BadPhrase" "BadSeen" false, isB K "BadPhrase" "BadRow" false, isB K "BadPhrase" "BadOld" false, isB K "BadPhrase" "BadHands" false, isB K "BadPhrase" "BadTale" false, isB K "BadPhrase" "Overtaken" false, isB K "BadPhrase" "Nothing" false, isB K "BadPhrase" "TooMany" false, decide (PySem.W.kitOne K (.ref (He.ga K "BadPhrase")) (.type "ValueError") = some true), excB K "BadTongue", isB K "BadTongue" "BadFroms" false, isB K "BadTongue" "BadPhrase" false, isB K "BadTongue" "BadTongue" true, isB K "BadTongue" "BadText" false, isB K "BadTongue" "BadSeen" false, isB K "BadTongue" "BadRow" false, isB K "BadTongue" "BadOld" false, isB K "BadTongue" "BadHands" false, isB K "BadTongue" "BadTale" false, isB K "BadTongue" "Overtaken" false, isB K "BadTongue" "Nothing" false, isB K "BadTongue" "TooMany" false, decide (PySem.W.kitOne K (.ref (He.ga K "BadTongue")) (.type "ValueError") = some true), excB K "BadText", isB K "BadText" "BadFroms" false, isB K "BadText" "BadPhrase" false, isB K "BadText" "BadTongue" false, isB K "BadText" "BadText" true, isB K "BadText" "BadSeen" false, isB K "BadText" "BadRow" false, isB K "BadText" "BadOld" false, isB K "BadText" "BadHands" false, isB K "BadText" "BadTale" false, isB K "BadText" "Overtaken" false, isB K "BadText" "Nothing" false, isB K "BadText" "TooMany" false, decide (PySem.W.kitOne K (.ref (He.ga K "BadText")) (.type "ValueError") = some true), decide ((He.cT K ("deepest_first", none)).2 ≠ (He.cT K ("telling_depth", none)).2), decide ((He.cT K ("deepest_first", none)).2 ≠ (He.cT K ("_law_puts_right", none)).2), decide ((He.cT K ("deepest_first", none)).2 ≠ (He.cT K ("law", none)).2), decide ((He.cT K ("telling_depth", none)).2 ≠ (He.cT K ("_law_puts_right", none)).2), decide ((He.cT K ("telling_depth", none)).2 ≠ (He.cT K ("law", none)).2), decide ((He.cT K ("_law_puts_right", none)).2 ≠ (He.cT K ("law", none)).2)]
def ex (K : PySem.W.Frag) : Bool := (exs K).all id
abbrev R : PySem.W.OpenRow := PySem.W.OpenLaw.row PySem.Challenge.rw_phrasedesk_k13_refused_desks
def ads0 : List Addr := [3, 6, 4, 21, 31, 44, 56, 68, 80, 92, 104, 116, 128, 140, 152, 164, 176, 185, 192, 199, 206, 211, 216, 223, 230, 235, 242, 247, 254, 261, 268, 275, 282, 287, 294, 299, 412, 426, 454, 463]
def ads1 : List Addr := [468, 473, 478, 485, 622, 633, 638, 643, 650, 655, 662, 667, 674, 681, 0, 20, 30, 43, 55, 67, 79, 91, 103, 115, 127, 139, 151, 163, 175, 184, 191, 198, 205, 210, 215, 222, 229, 234, 241, 246]
def ads2 : List Addr := [253, 260, 267, 274, 281, 286, 293, 298, 411, 425, 453, 462, 467, 472, 477, 484, 621, 632, 637, 642, 649, 654, 661, 666, 673, 680, 15, 16, 17, 18, 19, 29, 32, 42, 54, 66, 78, 90, 102, 114]
def ads3 : List Addr := [126, 138, 150, 162, 174, 179, 180, 181, 182, 183, 186, 187, 188, 189, 190, 193, 194, 195, 196, 197, 200, 201, 202, 203, 204, 207, 208, 209, 212, 213, 214, 217, 218, 219, 220, 221, 224, 225, 226, 227]
def ads4 : List Addr := [228, 231, 232, 233, 236, 237, 238, 239, 240, 243, 244, 245, 248, 249, 250, 251, 252, 255, 256, 257, 258, 259, 262, 263, 264, 265, 266, 269, 270, 271, 272, 273, 276, 277, 278, 279, 280, 283, 284, 285]
def ads5 : List Addr := [288, 289, 290, 291, 292, 295, 296, 297, 313, 320, 327, 334, 341, 348, 355, 360, 367, 374, 381, 388, 395, 402, 409, 410, 413, 414, 424, 427, 428, 444, 451, 452, 457, 458, 459, 460, 461, 464, 465, 466]
def ads6 : List Addr := [469, 470, 471, 474, 475, 476, 479, 480, 481, 482, 483, 499, 506, 513, 520, 527, 532, 539, 544, 549, 556, 563, 570, 577, 584, 591, 598, 605, 612, 619, 620, 623, 624, 627, 628, 629, 630, 631, 634, 635]
def ads7 : List Addr := [636, 639, 640, 641, 644, 645, 646, 647, 648, 651, 652, 653, 656, 657, 658, 659, 660, 663, 664, 665, 668, 669, 670, 671, 672, 675, 676, 677, 678, 679, 312, 319, 326, 333, 340, 347, 354, 359, 366, 373]
def ads8 : List Addr := [380, 387, 394, 401, 408, 443, 450, 498, 505, 512, 519, 526, 531, 538, 543, 548, 555, 562, 569, 576, 583, 590, 597, 604, 611, 618, 307, 308, 309, 310, 311, 314, 315, 316, 317, 318, 321, 322, 323, 324]
def ads9 : List Addr := [325, 328, 329, 330, 331, 332, 335, 336, 337, 338, 339, 342, 343, 344, 345, 346, 349, 350, 351, 352, 353, 356, 357, 358, 361, 362, 363, 364, 365, 368, 369, 370, 371, 372, 375, 376, 377, 378, 379, 382]
def ads10 : List Addr := [383, 384, 385, 386, 389, 390, 391, 392, 393, 396, 397, 398, 399, 400, 403, 404, 405, 406, 407, 438, 439, 440, 441, 442, 445, 446, 447, 448, 449, 493, 494, 495, 496, 497, 500, 501, 502, 503, 504, 507]
def ads11 : List Addr := [508, 509, 510, 511, 514, 515, 516, 517, 518, 521, 522, 523, 524, 525, 528, 529, 530, 533, 534, 535, 536, 537, 540, 541, 542, 545, 546, 547, 550, 551, 552, 553, 554, 557, 558, 559, 560, 561, 564, 565]
def ads12 : List Addr := [566, 567, 568, 571, 572, 573, 574, 575, 578, 579, 580, 581, 582, 585, 586, 587, 588, 589, 592, 593, 594, 595, 596, 599, 600, 601, 602, 603, 606, 607, 608, 609, 610, 613, 614, 615, 616, 617]
def ads : List Addr := ads0 ++ ads1 ++ ads2 ++ ads3 ++ ads4 ++ ads5 ++ ads6 ++ ads7 ++ ads8 ++ ads9 ++ ads10 ++ ads11 ++ ads12
abbrev hk : PySem.W.Hook := hookL ads fa fn tfs ex
def ob (s : PySem.W.SharedT) : He.AlX := obsL ads fa fn tfs ex (HandSHeadRun.getT s)
theorem ob_eq (s : PySem.W.SharedT) : ob s = hk.obs s.abs := obsL_eq (HandSHeadRun.getT_eq s)
def loose0 : List Str := ["_wall", "PhraseError", "BadFroms", "BadPhrase", "BadTongue", "BadText", "BadSeen", "BadRow", "BadOld", "BadHands", "BadTale", "Overtaken", "Nothing", "TooMany", "FEWEST_TONGUES", "MOST_TONGUES", "MOST_PHRASES", "MOST_LETTERS", "MOST_HANDS", "LETTERS", "is_number", "is_count", "is_number_or_none", "is_pair", "is_text", "is_froms", "is_tongue", "is_old_one", "is_old", "is_hands"]
def loose1 : List Str := ["copied", "put_from", "is_broken", "chain_up", "one_above", "depth_of", "rounds_needed", "round_of_each", "is_put_anew", "Past", "Answer", "Rounds", "evened", "fewest_rows", "deepest_first", "last_row", "telling_depth", "Desk", "_law_kinds", "_law_refused", "_law_all", "_law_strange", "_law_no_froms", "_law_no_texts", "_law_told_of", "_law_puts_right"]
def loose : List Str := loose0 ++ loose1
section
open PySem.W PySem.Calls HandSHeadRun
theorem run1 (w : World) (os : OsState) : (endF (stepQ (denQ tabQ) R.prog w) 6000 R.prog w os).map (fun s => (looksF R.prog (boot_heap w.params) s.abs, seenQ (view R.prog [62]) loose (importedModules R.prog.main.body) (fun s => xlAt (view R.prog [62]) [] s && recOk R.toRowW.records s) s.abs)) = some (true, openGood (view R.prog [62]) loose) := by
  kernel_rfl
theorem run2 (w : World) (os : OsState) : (endF (stepQ (denQ tabQ) R.prog w) 6000 R.prog w os).map ob = some (hk.val w) := by
  kernel_rfl
end
theorem run (w : World) : HandSHeadRun.RunEq R (PySem.W.view R.prog [62]) hk ob 6000 loose w := fun os => join2 (run1 w os) (run2 w os)
abbrev lamName (x : Str) : Str := x ++ ".<locals>." ++ "<lambda>"
abbrev tbs (K : PySem.W.Frag) : List (Addr × Str) := [((He.cT K ("deepest_first", none)).2, lamName "deepest_first"), ((He.cT K ("telling_depth", none)).2, lamName "telling_depth"), ((He.cT K ("_law_puts_right", none)).2, lamName "_law_puts_right"), ((He.cT K ("law", none)).2, lamName "law")]
structure Tb (K : PySem.W.Frag) (mg : Str → Option Value) (base : Heap) : Prop where
  tb_deepest_first : LamX.TabB base mg (He.codeOf K ("deepest_first", none)) (He.cT K ("deepest_first", none)).2
  tb_telling_depth : LamX.TabB base mg (He.codeOf K ("telling_depth", none)) (He.cT K ("telling_depth", none)).2
  tb_law_puts_right : LamX.TabB base mg (He.codeOf K ("_law_puts_right", none)) (He.cT K ("_law_puts_right", none)).2
  tb_law : LamX.TabB base mg (He.codeOf K ("law", none)) (He.cT K ("law", none)).2
--TX
structure Tx (K : PySem.W.Frag) (mg : Str → Option Value) : Prop where
  F_wall : ∃ fd, FunD K "_wall" "_wall" (defArgs s_wall) (defBody s_wall) (defScope s_wall) [] [] (He.ga K "_wall") fd
  g_wall : mg "_wall" = some (.ref (He.ga K "_wall"))
  F_is_number : ∃ fd, FunD K "is_number" "is_number" (defArgs s_is_number) (defBody s_is_number) (defScope s_is_number) [] [] (He.ga K "is_number") fd
  g_is_number : mg "is_number" = some (.ref (He.ga K "is_number"))
  F_is_count : ∃ fd, FunD K "is_count" "is_count" (defArgs s_is_count) (defBody s_is_count) (defScope s_is_count) [] [] (He.ga K "is_count") fd
  g_is_count : mg "is_count" = some (.ref (He.ga K "is_count"))
  F_is_number_or_none : ∃ fd, FunD K "is_number_or_none" "is_number_or_none" (defArgs s_is_number_or_none) (defBody s_is_number_or_none) (defScope s_is_number_or_none) [] [] (He.ga K "is_number_or_none") fd
  g_is_number_or_none : mg "is_number_or_none" = some (.ref (He.ga K "is_number_or_none"))
  F_is_pair : ∃ fd, FunD K "is_pair" "is_pair" (defArgs s_is_pair) (defBody s_is_pair) (defScope s_is_pair) [] [] (He.ga K "is_pair") fd
  g_is_pair : mg "is_pair" = some (.ref (He.ga K "is_pair"))
  F_is_text : ∃ fd, FunD K "is_text" "is_text" (defArgs s_is_text) (defBody s_is_text) (defScope s_is_text) [] [] (He.ga K "is_text") fd
  g_is_text : mg "is_text" = some (.ref (He.ga K "is_text"))
  F_is_froms : ∃ fd, FunD K "is_froms" "is_froms" (defArgs s_is_froms) (defBody s_is_froms) (defScope s_is_froms) [] [] (He.ga K "is_froms") fd
  g_is_froms : mg "is_froms" = some (.ref (He.ga K "is_froms"))
  F_is_tongue : ∃ fd, FunD K "is_tongue" "is_tongue" (defArgs s_is_tongue) (defBody s_is_tongue) (defScope s_is_tongue) [] [] (He.ga K "is_tongue") fd
  g_is_tongue : mg "is_tongue" = some (.ref (He.ga K "is_tongue"))
  F_is_old_one : ∃ fd, FunD K "is_old_one" "is_old_one" (defArgs s_is_old_one) (defBody s_is_old_one) (defScope s_is_old_one) [] [] (He.ga K "is_old_one") fd
  g_is_old_one : mg "is_old_one" = some (.ref (He.ga K "is_old_one"))
  F_is_old : ∃ fd, FunD K "is_old" "is_old" (defArgs s_is_old) (defBody s_is_old) (defScope s_is_old) [] [] (He.ga K "is_old") fd
  g_is_old : mg "is_old" = some (.ref (He.ga K "is_old"))
  F_is_hands : ∃ fd, FunD K "is_hands" "is_hands" (defArgs s_is_hands) (defBody s_is_hands) (defScope s_is_hands) [] [] (He.ga K "is_hands") fd
  g_is_hands : mg "is_hands" = some (.ref (He.ga K "is_hands"))
  F_copied : ∃ fd, FunD K "copied" "copied" (defArgs s_copied) (defBody s_copied) (defScope s_copied) [] [] (He.ga K "copied") fd
  g_copied : mg "copied" = some (.ref (He.ga K "copied"))
  F_put_from : ∃ fd, FunD K "put_from" "put_from" (defArgs s_put_from) (defBody s_put_from) (defScope s_put_from) [] [] (He.ga K "put_from") fd
  g_put_from : mg "put_from" = some (.ref (He.ga K "put_from"))
  F_is_broken : ∃ fd, FunD K "is_broken" "is_broken" (defArgs s_is_broken) (defBody s_is_broken) (defScope s_is_broken) [] [] (He.ga K "is_broken") fd
  g_is_broken : mg "is_broken" = some (.ref (He.ga K "is_broken"))
  F_chain_up : ∃ fd, FunD K "chain_up" "chain_up" (defArgs s_chain_up) (defBody s_chain_up) (defScope s_chain_up) [] [] (He.ga K "chain_up") fd
  g_chain_up : mg "chain_up" = some (.ref (He.ga K "chain_up"))
  F_one_above : ∃ fd, FunD K "one_above" "one_above" (defArgs s_one_above) (defBody s_one_above) (defScope s_one_above) [] [] (He.ga K "one_above") fd
  g_one_above : mg "one_above" = some (.ref (He.ga K "one_above"))
  F_depth_of : ∃ fd, FunD K "depth_of" "depth_of" (defArgs s_depth_of) (defBody s_depth_of) (defScope s_depth_of) [] [] (He.ga K "depth_of") fd
  g_depth_of : mg "depth_of" = some (.ref (He.ga K "depth_of"))
  F_rounds_needed : ∃ fd, FunD K "rounds_needed" "rounds_needed" (defArgs s_rounds_needed) (defBody s_rounds_needed) (defScope s_rounds_needed) [] [] (He.ga K "rounds_needed") fd
  g_rounds_needed : mg "rounds_needed" = some (.ref (He.ga K "rounds_needed"))
  F_round_of_each : ∃ fd, FunD K "round_of_each" "round_of_each" (defArgs s_round_of_each) (defBody s_round_of_each) (defScope s_round_of_each) [] [] (He.ga K "round_of_each") fd
  g_round_of_each : mg "round_of_each" = some (.ref (He.ga K "round_of_each"))
  F_is_put_anew : ∃ fd, FunD K "is_put_anew" "is_put_anew" (defArgs s_is_put_anew) (defBody s_is_put_anew) (defScope s_is_put_anew) [] [] (He.ga K "is_put_anew") fd
  g_is_put_anew : mg "is_put_anew" = some (.ref (He.ga K "is_put_anew"))
  F_Past_init : ∃ fd, FunD K "__init__" "Past.__init__" (defArgs s_Past_init) (defBody s_Past_init) (defScope s_Past_init) [] [] (He.ma K (He.ga K "Past") "__init__") fd
  F_Past_begin_phrase : ∃ fd, FunD K "begin_phrase" "Past.begin_phrase" (defArgs s_Past_begin_phrase) (defBody s_Past_begin_phrase) (defScope s_Past_begin_phrase) [] [] (He.ma K (He.ga K "Past") "begin_phrase") fd
  F_Past_lay_down : ∃ fd, FunD K "lay_down" "Past.lay_down" (defArgs s_Past_lay_down) (defBody s_Past_lay_down) (defScope s_Past_lay_down) [] [] (He.ma K (He.ga K "Past") "lay_down") fd
  F_Past_take_off : ∃ fd, FunD K "take_off" "Past.take_off" (defArgs s_Past_take_off) (defBody s_Past_take_off) (defScope s_Past_take_off) [] [] (He.ma K (He.ga K "Past") "take_off") fd
  F_Past_has_phrase : ∃ fd, FunD K "has_phrase" "Past.has_phrase" (defArgs s_Past_has_phrase) (defBody s_Past_has_phrase) (defScope s_Past_has_phrase) [] [] (He.ma K (He.ga K "Past") "has_phrase") fd
  F_Past_standing : ∃ fd, FunD K "standing" "Past.standing" (defArgs s_Past_standing) (defBody s_Past_standing) (defScope s_Past_standing) [] [] (He.ma K (He.ga K "Past") "standing") fd
  F_Past_text_standing : ∃ fd, FunD K "text_standing" "Past.text_standing" (defArgs s_Past_text_standing) (defBody s_Past_text_standing) (defScope s_Past_text_standing) [] [] (He.ma K (He.ga K "Past") "text_standing") fd
  F_Past_cells : ∃ fd, FunD K "cells" "Past.cells" (defArgs s_Past_cells) (defBody s_Past_cells) (defScope s_Past_cells) [] [] (He.ma K (He.ga K "Past") "cells") fd
  F_Past_was_seen : ∃ fd, FunD K "was_seen" "Past.was_seen" (defArgs s_Past_was_seen) (defBody s_Past_was_seen) (defScope s_Past_was_seen) [] [] (He.ma K (He.ga K "Past") "was_seen") fd
  F_Past_is_over : ∃ fd, FunD K "is_over" "Past.is_over" (defArgs s_Past_is_over) (defBody s_Past_is_over) (defScope s_Past_is_over) [] [] (He.ma K (He.ga K "Past") "is_over") fd
  F_Past_can_take_off : ∃ fd, FunD K "can_take_off" "Past.can_take_off" (defArgs s_Past_can_take_off) (defBody s_Past_can_take_off) (defScope s_Past_can_take_off) [] [] (He.ma K (He.ga K "Past") "can_take_off") fd
  F_Past_takes : ∃ fd, FunD K "takes" "Past.takes" (defArgs s_Past_takes) (defBody s_Past_takes) (defScope s_Past_takes) [] [] (He.ma K (He.ga K "Past") "takes") fd
  F_Past_takes_phrase : ∃ fd, FunD K "takes_phrase" "Past.takes_phrase" (defArgs s_Past_takes_phrase) (defBody s_Past_takes_phrase) (defScope s_Past_takes_phrase) [] [] (He.ma K (He.ga K "Past") "takes_phrase") fd
  F_Past_takes_put : ∃ fd, FunD K "takes_put" "Past.takes_put" (defArgs s_Past_takes_put) (defBody s_Past_takes_put) (defScope s_Past_takes_put) [] [] (He.ma K (He.ga K "Past") "takes_put") fd
  F_Past_takes_back : ∃ fd, FunD K "takes_back" "Past.takes_back" (defArgs s_Past_takes_back) (defBody s_Past_takes_back) (defScope s_Past_takes_back) [] [] (He.ma K (He.ga K "Past") "takes_back") fd
  F_Rounds_init : ∃ fd, FunD K "__init__" "Rounds.__init__" (defArgs s_Rounds_init) (defBody s_Rounds_init) (defScope s_Rounds_init) [] [] (He.ma K (He.ga K "Rounds") "__init__") fd
  F_Rounds_shows : ∃ fd, FunD K "shows" "Rounds.shows" (defArgs s_Rounds_shows) (defBody s_Rounds_shows) (defScope s_Rounds_shows) [] [] (He.ma K (He.ga K "Rounds") "shows") fd
  F_evened : ∃ fd, FunD K "evened" "evened" (defArgs s_evened) (defBody s_evened) (defScope s_evened) [] [] (He.ga K "evened") fd
  g_evened : mg "evened" = some (.ref (He.ga K "evened"))
  F_fewest_rows : ∃ fd, FunD K "fewest_rows" "fewest_rows" (defArgs s_fewest_rows) (defBody s_fewest_rows) (defScope s_fewest_rows) [] [] (He.ga K "fewest_rows") fd
  g_fewest_rows : mg "fewest_rows" = some (.ref (He.ga K "fewest_rows"))
  F_deepest_first : ∃ fd, FunD K "deepest_first" "deepest_first" (defArgs s_deepest_first) (defBody s_deepest_first) (defScope s_deepest_first) [] [] (He.ga K "deepest_first") fd
  g_deepest_first : mg "deepest_first" = some (.ref (He.ga K "deepest_first"))
  F_last_row : ∃ fd, FunD K "last_row" "last_row" (defArgs s_last_row) (defBody s_last_row) (defScope s_last_row) [] [] (He.ga K "last_row") fd
  g_last_row : mg "last_row" = some (.ref (He.ga K "last_row"))
  F_telling_depth : ∃ fd, FunD K "telling_depth" "telling_depth" (defArgs s_telling_depth) (defBody s_telling_depth) (defScope s_telling_depth) [] [] (He.ga K "telling_depth") fd
  g_telling_depth : mg "telling_depth" = some (.ref (He.ga K "telling_depth"))
  F_Desk_init : ∃ fd, FunD K "__init__" "Desk.__init__" (defArgs s_Desk_init) (defBody s_Desk_init) (defScope s_Desk_init) [] [] (He.ma K (He.ga K "Desk") "__init__") fd
  F_Desk_phrase : ∃ fd, FunD K "phrase" "Desk.phrase" (defArgs s_Desk_phrase) (defBody s_Desk_phrase) (defScope s_Desk_phrase) [] [] (He.ma K (He.ga K "Desk") "phrase") fd
  F_Desk_put : ∃ fd, FunD K "put" "Desk.put" (defArgs s_Desk_put) (defBody s_Desk_put) (defScope s_Desk_put) [] [] (He.ma K (He.ga K "Desk") "put") fd
  F_Desk_back : ∃ fd, FunD K "back" "Desk.back" (defArgs s_Desk_back) (defBody s_Desk_back) (defScope s_Desk_back) [] [] (He.ma K (He.ga K "Desk") "back") fd
  F_Desk_now : ∃ fd, FunD K "now" "Desk.now" (defArgs s_Desk_now) (defBody s_Desk_now) (defScope s_Desk_now) [] [] (He.ma K (He.ga K "Desk") "now") fd
  F_Desk_all_put : ∃ fd, FunD K "all_put" "Desk.all_put" (defArgs s_Desk_all_put) (defBody s_Desk_all_put) (defScope s_Desk_all_put) [] [] (He.ma K (He.ga K "Desk") "all_put") fd
  F_Desk_row : ∃ fd, FunD K "row" "Desk.row" (defArgs s_Desk_row) (defBody s_Desk_row) (defScope s_Desk_row) [] [] (He.ma K (He.ga K "Desk") "row") fd
  F_Desk_old : ∃ fd, FunD K "old" "Desk.old" (defArgs s_Desk_old) (defBody s_Desk_old) (defScope s_Desk_old) [] [] (He.ma K (He.ga K "Desk") "old") fd
  F_Desk_likes : ∃ fd, FunD K "likes" "Desk.likes" (defArgs s_Desk_likes) (defBody s_Desk_likes) (defScope s_Desk_likes) [] [] (He.ma K (He.ga K "Desk") "likes") fd
  F_Desk_fill : ∃ fd, FunD K "fill" "Desk.fill" (defArgs s_Desk_fill) (defBody s_Desk_fill) (defScope s_Desk_fill) [] [] (He.ma K (He.ga K "Desk") "fill") fd
  F_Desk_rounds : ∃ fd, FunD K "rounds" "Desk.rounds" (defArgs s_Desk_rounds) (defBody s_Desk_rounds) (defScope s_Desk_rounds) [] [] (He.ma K (He.ga K "Desk") "rounds") fd
  F_Desk_tale : ∃ fd, FunD K "tale" "Desk.tale" (defArgs s_Desk_tale) (defBody s_Desk_tale) (defScope s_Desk_tale) [] [] (He.ma K (He.ga K "Desk") "tale") fd
  F_Desk_check_phrase : ∃ fd, FunD K "check_phrase" "Desk.check_phrase" (defArgs s_Desk_check_phrase) (defBody s_Desk_check_phrase) (defScope s_Desk_check_phrase) [] [] (He.ma K (He.ga K "Desk") "check_phrase") fd
  F_Desk_check_place : ∃ fd, FunD K "check_place" "Desk.check_place" (defArgs s_Desk_check_place) (defBody s_Desk_check_place) (defScope s_Desk_check_place) [] [] (He.ma K (He.ga K "Desk") "check_place") fd
  F_Desk_check_other_tongue : ∃ fd, FunD K "check_other_tongue" "Desk.check_other_tongue" (defArgs s_Desk_check_other_tongue) (defBody s_Desk_check_other_tongue) (defScope s_Desk_check_other_tongue) [] [] (He.ma K (He.ga K "Desk") "check_other_tongue") fd
  F_Desk_check_text : ∃ fd, FunD K "check_text" "Desk.check_text" (defArgs s_Desk_check_text) (defBody s_Desk_check_text) (defScope s_Desk_check_text) [] [] (He.ma K (He.ga K "Desk") "check_text") fd
  F_Desk_is_fresh : ∃ fd, FunD K "is_fresh" "Desk.is_fresh" (defArgs s_Desk_is_fresh) (defBody s_Desk_is_fresh) (defScope s_Desk_is_fresh) [] [] (He.ma K (He.ga K "Desk") "is_fresh") fd
  F_Desk_texts_to_fill : ∃ fd, FunD K "texts_to_fill" "Desk.texts_to_fill" (defArgs s_Desk_texts_to_fill) (defBody s_Desk_texts_to_fill) (defScope s_Desk_texts_to_fill) [] [] (He.ma K (He.ga K "Desk") "texts_to_fill") fd
  F_Desk_put_like : ∃ fd, FunD K "put_like" "Desk.put_like" (defArgs s_Desk_put_like) (defBody s_Desk_put_like) (defScope s_Desk_put_like) [] [] (He.ma K (He.ga K "Desk") "put_like") fd
  F_law_kinds : ∃ fd, FunD K "_law_kinds" "_law_kinds" (defArgs s_law_kinds) (defBody s_law_kinds) (defScope s_law_kinds) [] [] (He.ga K "_law_kinds") fd
  g_law_kinds : mg "_law_kinds" = some (.ref (He.ga K "_law_kinds"))
  F_law_refused : ∃ fd, FunD K "_law_refused" "_law_refused" (defArgs s_law_refused) (defBody s_law_refused) (defScope s_law_refused) [] [] (He.ga K "_law_refused") fd
  g_law_refused : mg "_law_refused" = some (.ref (He.ga K "_law_refused"))
  F_law_all : ∃ fd, FunD K "_law_all" "_law_all" (defArgs s_law_all) (defBody s_law_all) (defScope s_law_all) [] [] (He.ga K "_law_all") fd
  g_law_all : mg "_law_all" = some (.ref (He.ga K "_law_all"))
  F_law_strange : ∃ fd, FunD K "_law_strange" "_law_strange" (defArgs s_law_strange) (defBody s_law_strange) (defScope s_law_strange) [] [] (He.ga K "_law_strange") fd
  g_law_strange : mg "_law_strange" = some (.ref (He.ga K "_law_strange"))
  F_law_no_froms : ∃ fd, FunD K "_law_no_froms" "_law_no_froms" (defArgs s_law_no_froms) (defBody s_law_no_froms) (defScope s_law_no_froms) [] [] (He.ga K "_law_no_froms") fd
  g_law_no_froms : mg "_law_no_froms" = some (.ref (He.ga K "_law_no_froms"))
  F_law_no_texts : ∃ fd, FunD K "_law_no_texts" "_law_no_texts" (defArgs s_law_no_texts) (defBody s_law_no_texts) (defScope s_law_no_texts) [] [] (He.ga K "_law_no_texts") fd
  g_law_no_texts : mg "_law_no_texts" = some (.ref (He.ga K "_law_no_texts"))
  F_law_told_of : ∃ fd, FunD K "_law_told_of" "_law_told_of" (defArgs s_law_told_of) (defBody s_law_told_of) (defScope s_law_told_of) [] [] (He.ga K "_law_told_of") fd
  g_law_told_of : mg "_law_told_of" = some (.ref (He.ga K "_law_told_of"))
  F_law_puts_right : ∃ fd, FunD K "_law_puts_right" "_law_puts_right" (defArgs s_law_puts_right) (defBody s_law_puts_right) (defScope s_law_puts_right) [] [] (He.ga K "_law_puts_right") fd
  g_law_puts_right : mg "_law_puts_right" = some (.ref (He.ga K "_law_puts_right"))
  F_law : ∃ fd, FunD K "law" "law" (defArgs s_law) (defBody s_law) (defScope s_law) [] [] (He.ga K "law") fd
  g_law : mg "law" = some (.ref (He.ga K "law"))
  g_FEWEST_TONGUES : ∃ t, mg "FEWEST_TONGUES" = some (.int 2 t)
  g_MOST_TONGUES : ∃ t, mg "MOST_TONGUES" = some (.int 8 t)
  g_MOST_PHRASES : ∃ t, mg "MOST_PHRASES" = some (.int 6 t)
  g_MOST_LETTERS : ∃ t, mg "MOST_LETTERS" = some (.int 6 t)
  g_MOST_HANDS : ∃ t, mg "MOST_HANDS" = some (.int 4 t)
  g_LETTERS : ∃ t, mg "LETTERS" = some (.str "abcdefghijklmnopqrstuvwxyz" t)
  f_ValueError : mg "ValueError" = none
  f_abs : mg "abs" = none
  f_all : mg "all" = none
  f_bool : mg "bool" = none
  f_enumerate : mg "enumerate" = none
  f_int : mg "int" = none
  f_isinstance : mg "isinstance" = none
  f_len : mg "len" = none
  f_list : mg "list" = none
  f_max : mg "max" = none
  f_range : mg "range" = none
  f_set : mg "set" = none
  f_sorted : mg "sorted" = none
  f_str : mg "str" = none
  f_tuple : mg "tuple" = none
  f_zip : mg "zip" = none
  g_Past : mg "Past" = some (.ref (He.ga K "Past"))
  k_Past : Cls K (He.ga K "Past")
  m_Past_begin_phrase : Meth K (He.ga K "Past") "begin_phrase" (He.ma K (He.ga K "Past") "begin_phrase")
  m_Past_lay_down : Meth K (He.ga K "Past") "lay_down" (He.ma K (He.ga K "Past") "lay_down")
  m_Past_take_off : Meth K (He.ga K "Past") "take_off" (He.ma K (He.ga K "Past") "take_off")
  m_Past_has_phrase : Meth K (He.ga K "Past") "has_phrase" (He.ma K (He.ga K "Past") "has_phrase")
  m_Past_standing : Meth K (He.ga K "Past") "standing" (He.ma K (He.ga K "Past") "standing")
  m_Past_text_standing : Meth K (He.ga K "Past") "text_standing" (He.ma K (He.ga K "Past") "text_standing")
  m_Past_cells : Meth K (He.ga K "Past") "cells" (He.ma K (He.ga K "Past") "cells")
  m_Past_was_seen : Meth K (He.ga K "Past") "was_seen" (He.ma K (He.ga K "Past") "was_seen")
  m_Past_is_over : Meth K (He.ga K "Past") "is_over" (He.ma K (He.ga K "Past") "is_over")
  m_Past_can_take_off : Meth K (He.ga K "Past") "can_take_off" (He.ma K (He.ga K "Past") "can_take_off")
  m_Past_takes : Meth K (He.ga K "Past") "takes" (He.ma K (He.ga K "Past") "takes")
  m_Past_takes_phrase : Meth K (He.ga K "Past") "takes_phrase" (He.ma K (He.ga K "Past") "takes_phrase")
  m_Past_takes_put : Meth K (He.ga K "Past") "takes_put" (He.ma K (He.ga K "Past") "takes_put")
  m_Past_takes_back : Meth K (He.ga K "Past") "takes_back" (He.ma K (He.ga K "Past") "takes_back")
  i_Past : Mk K (He.ga K "Past") (He.ma K (He.ga K "Past") "__init__")
  t_Past : Ins1 K (He.ga K "Past")
  is_Past_Past : PySem.W.kitOne K (.ref (He.ga K "Past")) (.ref (He.ga K "Past")) = some true
  is_Past_Answer : PySem.W.kitOne K (.ref (He.ga K "Past")) (.ref (He.ga K "Answer")) = some false
  is_Past_Rounds : PySem.W.kitOne K (.ref (He.ga K "Past")) (.ref (He.ga K "Rounds")) = some false
  is_Past_Desk : PySem.W.kitOne K (.ref (He.ga K "Past")) (.ref (He.ga K "Desk")) = some false
  g_Answer : mg "Answer" = some (.ref (He.ga K "Answer"))
  k_Answer : Cls K (He.ga K "Answer")
  b_Answer : Bare K (He.ga K "Answer")
  t_Answer : Ins1 K (He.ga K "Answer")
  is_Answer_Past : PySem.W.kitOne K (.ref (He.ga K "Answer")) (.ref (He.ga K "Past")) = some false
  is_Answer_Answer : PySem.W.kitOne K (.ref (He.ga K "Answer")) (.ref (He.ga K "Answer")) = some true
  is_Answer_Rounds : PySem.W.kitOne K (.ref (He.ga K "Answer")) (.ref (He.ga K "Rounds")) = some false
  is_Answer_Desk : PySem.W.kitOne K (.ref (He.ga K "Answer")) (.ref (He.ga K "Desk")) = some false
  g_Rounds : mg "Rounds" = some (.ref (He.ga K "Rounds"))
  k_Rounds : Cls K (He.ga K "Rounds")
  m_Rounds_shows : Meth K (He.ga K "Rounds") "shows" (He.ma K (He.ga K "Rounds") "shows")
  i_Rounds : Mk K (He.ga K "Rounds") (He.ma K (He.ga K "Rounds") "__init__")
  t_Rounds : Ins1 K (He.ga K "Rounds")
  is_Rounds_Past : PySem.W.kitOne K (.ref (He.ga K "Rounds")) (.ref (He.ga K "Past")) = some false
  is_Rounds_Answer : PySem.W.kitOne K (.ref (He.ga K "Rounds")) (.ref (He.ga K "Answer")) = some true
  is_Rounds_Rounds : PySem.W.kitOne K (.ref (He.ga K "Rounds")) (.ref (He.ga K "Rounds")) = some true
  is_Rounds_Desk : PySem.W.kitOne K (.ref (He.ga K "Rounds")) (.ref (He.ga K "Desk")) = some false
  g_Desk : mg "Desk" = some (.ref (He.ga K "Desk"))
  k_Desk : Cls K (He.ga K "Desk")
  m_Desk_phrase : Meth K (He.ga K "Desk") "phrase" (He.ma K (He.ga K "Desk") "phrase")
  m_Desk_put : Meth K (He.ga K "Desk") "put" (He.ma K (He.ga K "Desk") "put")
  m_Desk_back : Meth K (He.ga K "Desk") "back" (He.ma K (He.ga K "Desk") "back")
  m_Desk_now : Meth K (He.ga K "Desk") "now" (He.ma K (He.ga K "Desk") "now")
  m_Desk_all_put : Meth K (He.ga K "Desk") "all_put" (He.ma K (He.ga K "Desk") "all_put")
  m_Desk_row : Meth K (He.ga K "Desk") "row" (He.ma K (He.ga K "Desk") "row")
  m_Desk_old : Meth K (He.ga K "Desk") "old" (He.ma K (He.ga K "Desk") "old")
  m_Desk_likes : Meth K (He.ga K "Desk") "likes" (He.ma K (He.ga K "Desk") "likes")
  m_Desk_fill : Meth K (He.ga K "Desk") "fill" (He.ma K (He.ga K "Desk") "fill")
  m_Desk_rounds : Meth K (He.ga K "Desk") "rounds" (He.ma K (He.ga K "Desk") "rounds")
  m_Desk_tale : Meth K (He.ga K "Desk") "tale" (He.ma K (He.ga K "Desk") "tale")
  m_Desk_check_phrase : Meth K (He.ga K "Desk") "check_phrase" (He.ma K (He.ga K "Desk") "check_phrase")
  m_Desk_check_place : Meth K (He.ga K "Desk") "check_place" (He.ma K (He.ga K "Desk") "check_place")
  m_Desk_check_other_tongue : Meth K (He.ga K "Desk") "check_other_tongue" (He.ma K (He.ga K "Desk") "check_other_tongue")
  m_Desk_check_text : Meth K (He.ga K "Desk") "check_text" (He.ma K (He.ga K "Desk") "check_text")
  m_Desk_is_fresh : Meth K (He.ga K "Desk") "is_fresh" (He.ma K (He.ga K "Desk") "is_fresh")
  m_Desk_texts_to_fill : Meth K (He.ga K "Desk") "texts_to_fill" (He.ma K (He.ga K "Desk") "texts_to_fill")
  m_Desk_put_like : Meth K (He.ga K "Desk") "put_like" (He.ma K (He.ga K "Desk") "put_like")
  i_Desk : Mk K (He.ga K "Desk") (He.ma K (He.ga K "Desk") "__init__")
  t_Desk : Ins1 K (He.ga K "Desk")
  is_Desk_Past : PySem.W.kitOne K (.ref (He.ga K "Desk")) (.ref (He.ga K "Past")) = some false
  is_Desk_Answer : PySem.W.kitOne K (.ref (He.ga K "Desk")) (.ref (He.ga K "Answer")) = some false
  is_Desk_Rounds : PySem.W.kitOne K (.ref (He.ga K "Desk")) (.ref (He.ga K "Rounds")) = some false
  is_Desk_Desk : PySem.W.kitOne K (.ref (He.ga K "Desk")) (.ref (He.ga K "Desk")) = some true
  n_Past_ever : NoAttr K (He.ga K "Past") "ever"
  n_Past_froms : NoAttr K (He.ga K "Past") "froms"
  n_Past_origins : NoAttr K (He.ga K "Past") "origins"
  n_Past_phrases : NoAttr K (He.ga K "Past") "phrases"
  n_Past_piles : NoAttr K (He.ga K "Past") "piles"
  n_Past_texts : NoAttr K (He.ga K "Past") "texts"
  n_Rounds_depth : NoAttr K (He.ga K "Rounds") "depth"
  n_Rounds_rows : NoAttr K (He.ga K "Rounds") "rows"
  n_Desk_lines : NoAttr K (He.ga K "Desk") "lines"
  n_Desk_past : NoAttr K (He.ga K "Desk") "past"
  g_PhraseError : mg "PhraseError" = some (.ref (He.ga K "PhraseError"))
  g_BadFroms : mg "BadFroms" = some (.ref (He.ga K "BadFroms"))
  g_BadPhrase : mg "BadPhrase" = some (.ref (He.ga K "BadPhrase"))
  g_BadTongue : mg "BadTongue" = some (.ref (He.ga K "BadTongue"))
  g_BadText : mg "BadText" = some (.ref (He.ga K "BadText"))
  g_BadSeen : mg "BadSeen" = some (.ref (He.ga K "BadSeen"))
  g_BadRow : mg "BadRow" = some (.ref (He.ga K "BadRow"))
  g_BadOld : mg "BadOld" = some (.ref (He.ga K "BadOld"))
  g_BadHands : mg "BadHands" = some (.ref (He.ga K "BadHands"))
  g_BadTale : mg "BadTale" = some (.ref (He.ga K "BadTale"))
  g_Overtaken : mg "Overtaken" = some (.ref (He.ga K "Overtaken"))
  g_Nothing : mg "Nothing" = some (.ref (He.ga K "Nothing"))
  g_TooMany : mg "TooMany" = some (.ref (He.ga K "TooMany"))
  x_BadFroms : PySem.W.excIn K (He.ga K "BadFroms") He.veBase "ValueError.__new__" = true ∧ PySem.W.keepIn K (.ref (He.ga K "BadFroms")) = true ∧ PySem.W.subIn K (.ref (He.ga K "BadFroms")) (.type "BaseException") = some true ∧ PySem.W.typeIn K (.ref (He.ga K "BadFroms")) = some (.type "type")
  x_BadOld : PySem.W.excIn K (He.ga K "BadOld") He.veBase "ValueError.__new__" = true ∧ PySem.W.keepIn K (.ref (He.ga K "BadOld")) = true ∧ PySem.W.subIn K (.ref (He.ga K "BadOld")) (.type "BaseException") = some true ∧ PySem.W.typeIn K (.ref (He.ga K "BadOld")) = some (.type "type")
  x_BadHands : PySem.W.excIn K (He.ga K "BadHands") He.veBase "ValueError.__new__" = true ∧ PySem.W.keepIn K (.ref (He.ga K "BadHands")) = true ∧ PySem.W.subIn K (.ref (He.ga K "BadHands")) (.type "BaseException") = some true ∧ PySem.W.typeIn K (.ref (He.ga K "BadHands")) = some (.type "type")
  x_TooMany : PySem.W.excIn K (He.ga K "TooMany") He.veBase "ValueError.__new__" = true ∧ PySem.W.keepIn K (.ref (He.ga K "TooMany")) = true ∧ PySem.W.subIn K (.ref (He.ga K "TooMany")) (.type "BaseException") = some true ∧ PySem.W.typeIn K (.ref (He.ga K "TooMany")) = some (.type "type")
  x_BadSeen : PySem.W.excIn K (He.ga K "BadSeen") He.veBase "ValueError.__new__" = true ∧ PySem.W.keepIn K (.ref (He.ga K "BadSeen")) = true ∧ PySem.W.subIn K (.ref (He.ga K "BadSeen")) (.type "BaseException") = some true ∧ PySem.W.typeIn K (.ref (He.ga K "BadSeen")) = some (.type "type")
  x_Overtaken : PySem.W.excIn K (He.ga K "Overtaken") He.veBase "ValueError.__new__" = true ∧ PySem.W.keepIn K (.ref (He.ga K "Overtaken")) = true ∧ PySem.W.subIn K (.ref (He.ga K "Overtaken")) (.type "BaseException") = some true ∧ PySem.W.typeIn K (.ref (He.ga K "Overtaken")) = some (.type "type")
  x_Nothing : PySem.W.excIn K (He.ga K "Nothing") He.veBase "ValueError.__new__" = true ∧ PySem.W.keepIn K (.ref (He.ga K "Nothing")) = true ∧ PySem.W.subIn K (.ref (He.ga K "Nothing")) (.type "BaseException") = some true ∧ PySem.W.typeIn K (.ref (He.ga K "Nothing")) = some (.type "type")
  x_BadPhrase : PySem.W.excIn K (He.ga K "BadPhrase") He.veBase "ValueError.__new__" = true ∧ PySem.W.keepIn K (.ref (He.ga K "BadPhrase")) = true ∧ PySem.W.subIn K (.ref (He.ga K "BadPhrase")) (.type "BaseException") = some true ∧ PySem.W.typeIn K (.ref (He.ga K "BadPhrase")) = some (.type "type")
  x_BadTongue : PySem.W.excIn K (He.ga K "BadTongue") He.veBase "ValueError.__new__" = true ∧ PySem.W.keepIn K (.ref (He.ga K "BadTongue")) = true ∧ PySem.W.subIn K (.ref (He.ga K "BadTongue")) (.type "BaseException") = some true ∧ PySem.W.typeIn K (.ref (He.ga K "BadTongue")) = some (.type "type")
  x_BadText : PySem.W.excIn K (He.ga K "BadText") He.veBase "ValueError.__new__" = true ∧ PySem.W.keepIn K (.ref (He.ga K "BadText")) = true ∧ PySem.W.subIn K (.ref (He.ga K "BadText")) (.type "BaseException") = some true ∧ PySem.W.typeIn K (.ref (He.ga K "BadText")) = some (.type "type")
  e_BadFroms_PhraseError : PySem.W.exmOne K (.ref (He.ga K "BadFroms")) (.ref (He.ga K "PhraseError")) = some true
  e_BadOld_PhraseError : PySem.W.exmOne K (.ref (He.ga K "BadOld")) (.ref (He.ga K "PhraseError")) = some true
  e_BadHands_PhraseError : PySem.W.exmOne K (.ref (He.ga K "BadHands")) (.ref (He.ga K "PhraseError")) = some true
  e_TooMany_PhraseError : PySem.W.exmOne K (.ref (He.ga K "TooMany")) (.ref (He.ga K "PhraseError")) = some true
  e_BadSeen_PhraseError : PySem.W.exmOne K (.ref (He.ga K "BadSeen")) (.ref (He.ga K "PhraseError")) = some true
  e_Overtaken_PhraseError : PySem.W.exmOne K (.ref (He.ga K "Overtaken")) (.ref (He.ga K "PhraseError")) = some true
  e_Nothing_PhraseError : PySem.W.exmOne K (.ref (He.ga K "Nothing")) (.ref (He.ga K "PhraseError")) = some true
  e_BadPhrase_PhraseError : PySem.W.exmOne K (.ref (He.ga K "BadPhrase")) (.ref (He.ga K "PhraseError")) = some true
  e_BadTongue_PhraseError : PySem.W.exmOne K (.ref (He.ga K "BadTongue")) (.ref (He.ga K "PhraseError")) = some true
  e_BadText_PhraseError : PySem.W.exmOne K (.ref (He.ga K "BadText")) (.ref (He.ga K "PhraseError")) = some true
  xc_BadFroms : L2.ExcC K (He.ga K "BadFroms")
  ki_BadFroms_BadFroms : PySem.W.kitOne K (.ref (He.ga K "BadFroms")) (.ref (He.ga K "BadFroms")) = some true
  ki_BadFroms_BadPhrase : PySem.W.kitOne K (.ref (He.ga K "BadFroms")) (.ref (He.ga K "BadPhrase")) = some false
  ki_BadFroms_BadTongue : PySem.W.kitOne K (.ref (He.ga K "BadFroms")) (.ref (He.ga K "BadTongue")) = some false
  ki_BadFroms_BadText : PySem.W.kitOne K (.ref (He.ga K "BadFroms")) (.ref (He.ga K "BadText")) = some false
  ki_BadFroms_BadSeen : PySem.W.kitOne K (.ref (He.ga K "BadFroms")) (.ref (He.ga K "BadSeen")) = some false
  ki_BadFroms_BadRow : PySem.W.kitOne K (.ref (He.ga K "BadFroms")) (.ref (He.ga K "BadRow")) = some false
  ki_BadFroms_BadOld : PySem.W.kitOne K (.ref (He.ga K "BadFroms")) (.ref (He.ga K "BadOld")) = some false
  ki_BadFroms_BadHands : PySem.W.kitOne K (.ref (He.ga K "BadFroms")) (.ref (He.ga K "BadHands")) = some false
  ki_BadFroms_BadTale : PySem.W.kitOne K (.ref (He.ga K "BadFroms")) (.ref (He.ga K "BadTale")) = some false
  ki_BadFroms_Overtaken : PySem.W.kitOne K (.ref (He.ga K "BadFroms")) (.ref (He.ga K "Overtaken")) = some false
  ki_BadFroms_Nothing : PySem.W.kitOne K (.ref (He.ga K "BadFroms")) (.ref (He.ga K "Nothing")) = some false
  ki_BadFroms_TooMany : PySem.W.kitOne K (.ref (He.ga K "BadFroms")) (.ref (He.ga K "TooMany")) = some false
  kiT_BadFroms_ValueError : PySem.W.kitOne K (.ref (He.ga K "BadFroms")) (.type "ValueError") = some true
  xc_BadOld : L2.ExcC K (He.ga K "BadOld")
  ki_BadOld_BadFroms : PySem.W.kitOne K (.ref (He.ga K "BadOld")) (.ref (He.ga K "BadFroms")) = some false
  ki_BadOld_BadPhrase : PySem.W.kitOne K (.ref (He.ga K "BadOld")) (.ref (He.ga K "BadPhrase")) = some false
  ki_BadOld_BadTongue : PySem.W.kitOne K (.ref (He.ga K "BadOld")) (.ref (He.ga K "BadTongue")) = some false
  ki_BadOld_BadText : PySem.W.kitOne K (.ref (He.ga K "BadOld")) (.ref (He.ga K "BadText")) = some false
  ki_BadOld_BadSeen : PySem.W.kitOne K (.ref (He.ga K "BadOld")) (.ref (He.ga K "BadSeen")) = some false
  ki_BadOld_BadRow : PySem.W.kitOne K (.ref (He.ga K "BadOld")) (.ref (He.ga K "BadRow")) = some false
  ki_BadOld_BadOld : PySem.W.kitOne K (.ref (He.ga K "BadOld")) (.ref (He.ga K "BadOld")) = some true
  ki_BadOld_BadHands : PySem.W.kitOne K (.ref (He.ga K "BadOld")) (.ref (He.ga K "BadHands")) = some false
  ki_BadOld_BadTale : PySem.W.kitOne K (.ref (He.ga K "BadOld")) (.ref (He.ga K "BadTale")) = some false
  ki_BadOld_Overtaken : PySem.W.kitOne K (.ref (He.ga K "BadOld")) (.ref (He.ga K "Overtaken")) = some false
  ki_BadOld_Nothing : PySem.W.kitOne K (.ref (He.ga K "BadOld")) (.ref (He.ga K "Nothing")) = some false
  ki_BadOld_TooMany : PySem.W.kitOne K (.ref (He.ga K "BadOld")) (.ref (He.ga K "TooMany")) = some false
  kiT_BadOld_ValueError : PySem.W.kitOne K (.ref (He.ga K "BadOld")) (.type "ValueError") = some true
  xc_BadHands : L2.ExcC K (He.ga K "BadHands")
  ki_BadHands_BadFroms : PySem.W.kitOne K (.ref (He.ga K "BadHands")) (.ref (He.ga K "BadFroms")) = some false
  ki_BadHands_BadPhrase : PySem.W.kitOne K (.ref (He.ga K "BadHands")) (.ref (He.ga K "BadPhrase")) = some false
  ki_BadHands_BadTongue : PySem.W.kitOne K (.ref (He.ga K "BadHands")) (.ref (He.ga K "BadTongue")) = some false
  ki_BadHands_BadText : PySem.W.kitOne K (.ref (He.ga K "BadHands")) (.ref (He.ga K "BadText")) = some false
  ki_BadHands_BadSeen : PySem.W.kitOne K (.ref (He.ga K "BadHands")) (.ref (He.ga K "BadSeen")) = some false
  ki_BadHands_BadRow : PySem.W.kitOne K (.ref (He.ga K "BadHands")) (.ref (He.ga K "BadRow")) = some false
  ki_BadHands_BadOld : PySem.W.kitOne K (.ref (He.ga K "BadHands")) (.ref (He.ga K "BadOld")) = some false
  ki_BadHands_BadHands : PySem.W.kitOne K (.ref (He.ga K "BadHands")) (.ref (He.ga K "BadHands")) = some true
  ki_BadHands_BadTale : PySem.W.kitOne K (.ref (He.ga K "BadHands")) (.ref (He.ga K "BadTale")) = some false
  ki_BadHands_Overtaken : PySem.W.kitOne K (.ref (He.ga K "BadHands")) (.ref (He.ga K "Overtaken")) = some false
  ki_BadHands_Nothing : PySem.W.kitOne K (.ref (He.ga K "BadHands")) (.ref (He.ga K "Nothing")) = some false
  ki_BadHands_TooMany : PySem.W.kitOne K (.ref (He.ga K "BadHands")) (.ref (He.ga K "TooMany")) = some false
  kiT_BadHands_ValueError : PySem.W.kitOne K (.ref (He.ga K "BadHands")) (.type "ValueError") = some true
  xc_TooMany : L2.ExcC K (He.ga K "TooMany")
  ki_TooMany_BadFroms : PySem.W.kitOne K (.ref (He.ga K "TooMany")) (.ref (He.ga K "BadFroms")) = some false
  ki_TooMany_BadPhrase : PySem.W.kitOne K (.ref (He.ga K "TooMany")) (.ref (He.ga K "BadPhrase")) = some false
  ki_TooMany_BadTongue : PySem.W.kitOne K (.ref (He.ga K "TooMany")) (.ref (He.ga K "BadTongue")) = some false
  ki_TooMany_BadText : PySem.W.kitOne K (.ref (He.ga K "TooMany")) (.ref (He.ga K "BadText")) = some false
  ki_TooMany_BadSeen : PySem.W.kitOne K (.ref (He.ga K "TooMany")) (.ref (He.ga K "BadSeen")) = some false
  ki_TooMany_BadRow : PySem.W.kitOne K (.ref (He.ga K "TooMany")) (.ref (He.ga K "BadRow")) = some false
  ki_TooMany_BadOld : PySem.W.kitOne K (.ref (He.ga K "TooMany")) (.ref (He.ga K "BadOld")) = some false
  ki_TooMany_BadHands : PySem.W.kitOne K (.ref (He.ga K "TooMany")) (.ref (He.ga K "BadHands")) = some false
  ki_TooMany_BadTale : PySem.W.kitOne K (.ref (He.ga K "TooMany")) (.ref (He.ga K "BadTale")) = some false
  ki_TooMany_Overtaken : PySem.W.kitOne K (.ref (He.ga K "TooMany")) (.ref (He.ga K "Overtaken")) = some false
  ki_TooMany_Nothing : PySem.W.kitOne K (.ref (He.ga K "TooMany")) (.ref (He.ga K "Nothing")) = some false
  ki_TooMany_TooMany : PySem.W.kitOne K (.ref (He.ga K "TooMany")) (.ref (He.ga K "TooMany")) = some true
  kiT_TooMany_ValueError : PySem.W.kitOne K (.ref (He.ga K "TooMany")) (.type "ValueError") = some true
  xc_BadSeen : L2.ExcC K (He.ga K "BadSeen")
  ki_BadSeen_BadFroms : PySem.W.kitOne K (.ref (He.ga K "BadSeen")) (.ref (He.ga K "BadFroms")) = some false
  ki_BadSeen_BadPhrase : PySem.W.kitOne K (.ref (He.ga K "BadSeen")) (.ref (He.ga K "BadPhrase")) = some false
  ki_BadSeen_BadTongue : PySem.W.kitOne K (.ref (He.ga K "BadSeen")) (.ref (He.ga K "BadTongue")) = some false
  ki_BadSeen_BadText : PySem.W.kitOne K (.ref (He.ga K "BadSeen")) (.ref (He.ga K "BadText")) = some false
  ki_BadSeen_BadSeen : PySem.W.kitOne K (.ref (He.ga K "BadSeen")) (.ref (He.ga K "BadSeen")) = some true
  ki_BadSeen_BadRow : PySem.W.kitOne K (.ref (He.ga K "BadSeen")) (.ref (He.ga K "BadRow")) = some false
  ki_BadSeen_BadOld : PySem.W.kitOne K (.ref (He.ga K "BadSeen")) (.ref (He.ga K "BadOld")) = some false
  ki_BadSeen_BadHands : PySem.W.kitOne K (.ref (He.ga K "BadSeen")) (.ref (He.ga K "BadHands")) = some false
  ki_BadSeen_BadTale : PySem.W.kitOne K (.ref (He.ga K "BadSeen")) (.ref (He.ga K "BadTale")) = some false
  ki_BadSeen_Overtaken : PySem.W.kitOne K (.ref (He.ga K "BadSeen")) (.ref (He.ga K "Overtaken")) = some false
  ki_BadSeen_Nothing : PySem.W.kitOne K (.ref (He.ga K "BadSeen")) (.ref (He.ga K "Nothing")) = some false
  ki_BadSeen_TooMany : PySem.W.kitOne K (.ref (He.ga K "BadSeen")) (.ref (He.ga K "TooMany")) = some false
  kiT_BadSeen_ValueError : PySem.W.kitOne K (.ref (He.ga K "BadSeen")) (.type "ValueError") = some true
  xc_Overtaken : L2.ExcC K (He.ga K "Overtaken")
  ki_Overtaken_BadFroms : PySem.W.kitOne K (.ref (He.ga K "Overtaken")) (.ref (He.ga K "BadFroms")) = some false
  ki_Overtaken_BadPhrase : PySem.W.kitOne K (.ref (He.ga K "Overtaken")) (.ref (He.ga K "BadPhrase")) = some false
  ki_Overtaken_BadTongue : PySem.W.kitOne K (.ref (He.ga K "Overtaken")) (.ref (He.ga K "BadTongue")) = some false
  ki_Overtaken_BadText : PySem.W.kitOne K (.ref (He.ga K "Overtaken")) (.ref (He.ga K "BadText")) = some false
  ki_Overtaken_BadSeen : PySem.W.kitOne K (.ref (He.ga K "Overtaken")) (.ref (He.ga K "BadSeen")) = some false
  ki_Overtaken_BadRow : PySem.W.kitOne K (.ref (He.ga K "Overtaken")) (.ref (He.ga K "BadRow")) = some false
  ki_Overtaken_BadOld : PySem.W.kitOne K (.ref (He.ga K "Overtaken")) (.ref (He.ga K "BadOld")) = some false
  ki_Overtaken_BadHands : PySem.W.kitOne K (.ref (He.ga K "Overtaken")) (.ref (He.ga K "BadHands")) = some false
  ki_Overtaken_BadTale : PySem.W.kitOne K (.ref (He.ga K "Overtaken")) (.ref (He.ga K "BadTale")) = some false
  ki_Overtaken_Overtaken : PySem.W.kitOne K (.ref (He.ga K "Overtaken")) (.ref (He.ga K "Overtaken")) = some true
  ki_Overtaken_Nothing : PySem.W.kitOne K (.ref (He.ga K "Overtaken")) (.ref (He.ga K "Nothing")) = some false
  ki_Overtaken_TooMany : PySem.W.kitOne K (.ref (He.ga K "Overtaken")) (.ref (He.ga K "TooMany")) = some false
  kiT_Overtaken_ValueError : PySem.W.kitOne K (.ref (He.ga K "Overtaken")) (.type "ValueError") = some true
  xc_Nothing : L2.ExcC K (He.ga K "Nothing")
  ki_Nothing_BadFroms : PySem.W.kitOne K (.ref (He.ga K "Nothing")) (.ref (He.ga K "BadFroms")) = some false
  ki_Nothing_BadPhrase : PySem.W.kitOne K (.ref (He.ga K "Nothing")) (.ref (He.ga K "BadPhrase")) = some false
  ki_Nothing_BadTongue : PySem.W.kitOne K (.ref (He.ga K "Nothing")) (.ref (He.ga K "BadTongue")) = some false
  ki_Nothing_BadText : PySem.W.kitOne K (.ref (He.ga K "Nothing")) (.ref (He.ga K "BadText")) = some false
  ki_Nothing_BadSeen : PySem.W.kitOne K (.ref (He.ga K "Nothing")) (.ref (He.ga K "BadSeen")) = some false
  ki_Nothing_BadRow : PySem.W.kitOne K (.ref (He.ga K "Nothing")) (.ref (He.ga K "BadRow")) = some false
  ki_Nothing_BadOld : PySem.W.kitOne K (.ref (He.ga K "Nothing")) (.ref (He.ga K "BadOld")) = some false
  ki_Nothing_BadHands : PySem.W.kitOne K (.ref (He.ga K "Nothing")) (.ref (He.ga K "BadHands")) = some false
  ki_Nothing_BadTale : PySem.W.kitOne K (.ref (He.ga K "Nothing")) (.ref (He.ga K "BadTale")) = some false
  ki_Nothing_Overtaken : PySem.W.kitOne K (.ref (He.ga K "Nothing")) (.ref (He.ga K "Overtaken")) = some false
  ki_Nothing_Nothing : PySem.W.kitOne K (.ref (He.ga K "Nothing")) (.ref (He.ga K "Nothing")) = some true
  ki_Nothing_TooMany : PySem.W.kitOne K (.ref (He.ga K "Nothing")) (.ref (He.ga K "TooMany")) = some false
  kiT_Nothing_ValueError : PySem.W.kitOne K (.ref (He.ga K "Nothing")) (.type "ValueError") = some true
  xc_BadPhrase : L2.ExcC K (He.ga K "BadPhrase")
  ki_BadPhrase_BadFroms : PySem.W.kitOne K (.ref (He.ga K "BadPhrase")) (.ref (He.ga K "BadFroms")) = some false
  ki_BadPhrase_BadPhrase : PySem.W.kitOne K (.ref (He.ga K "BadPhrase")) (.ref (He.ga K "BadPhrase")) = some true
  ki_BadPhrase_BadTongue : PySem.W.kitOne K (.ref (He.ga K "BadPhrase")) (.ref (He.ga K "BadTongue")) = some false
  ki_BadPhrase_BadText : PySem.W.kitOne K (.ref (He.ga K "BadPhrase")) (.ref (He.ga K "BadText")) = some false
  ki_BadPhrase_BadSeen : PySem.W.kitOne K (.ref (He.ga K "BadPhrase")) (.ref (He.ga K "BadSeen")) = some false
  ki_BadPhrase_BadRow : PySem.W.kitOne K (.ref (He.ga K "BadPhrase")) (.ref (He.ga K "BadRow")) = some false
  ki_BadPhrase_BadOld : PySem.W.kitOne K (.ref (He.ga K "BadPhrase")) (.ref (He.ga K "BadOld")) = some false
  ki_BadPhrase_BadHands : PySem.W.kitOne K (.ref (He.ga K "BadPhrase")) (.ref (He.ga K "BadHands")) = some false
  ki_BadPhrase_BadTale : PySem.W.kitOne K (.ref (He.ga K "BadPhrase")) (.ref (He.ga K "BadTale")) = some false
  ki_BadPhrase_Overtaken : PySem.W.kitOne K (.ref (He.ga K "BadPhrase")) (.ref (He.ga K "Overtaken")) = some false
  ki_BadPhrase_Nothing : PySem.W.kitOne K (.ref (He.ga K "BadPhrase")) (.ref (He.ga K "Nothing")) = some false
  ki_BadPhrase_TooMany : PySem.W.kitOne K (.ref (He.ga K "BadPhrase")) (.ref (He.ga K "TooMany")) = some false
  kiT_BadPhrase_ValueError : PySem.W.kitOne K (.ref (He.ga K "BadPhrase")) (.type "ValueError") = some true
  xc_BadTongue : L2.ExcC K (He.ga K "BadTongue")
  ki_BadTongue_BadFroms : PySem.W.kitOne K (.ref (He.ga K "BadTongue")) (.ref (He.ga K "BadFroms")) = some false
  ki_BadTongue_BadPhrase : PySem.W.kitOne K (.ref (He.ga K "BadTongue")) (.ref (He.ga K "BadPhrase")) = some false
  ki_BadTongue_BadTongue : PySem.W.kitOne K (.ref (He.ga K "BadTongue")) (.ref (He.ga K "BadTongue")) = some true
  ki_BadTongue_BadText : PySem.W.kitOne K (.ref (He.ga K "BadTongue")) (.ref (He.ga K "BadText")) = some false
  ki_BadTongue_BadSeen : PySem.W.kitOne K (.ref (He.ga K "BadTongue")) (.ref (He.ga K "BadSeen")) = some false
  ki_BadTongue_BadRow : PySem.W.kitOne K (.ref (He.ga K "BadTongue")) (.ref (He.ga K "BadRow")) = some false
  ki_BadTongue_BadOld : PySem.W.kitOne K (.ref (He.ga K "BadTongue")) (.ref (He.ga K "BadOld")) = some false
  ki_BadTongue_BadHands : PySem.W.kitOne K (.ref (He.ga K "BadTongue")) (.ref (He.ga K "BadHands")) = some false
  ki_BadTongue_BadTale : PySem.W.kitOne K (.ref (He.ga K "BadTongue")) (.ref (He.ga K "BadTale")) = some false
  ki_BadTongue_Overtaken : PySem.W.kitOne K (.ref (He.ga K "BadTongue")) (.ref (He.ga K "Overtaken")) = some false
  ki_BadTongue_Nothing : PySem.W.kitOne K (.ref (He.ga K "BadTongue")) (.ref (He.ga K "Nothing")) = some false
  ki_BadTongue_TooMany : PySem.W.kitOne K (.ref (He.ga K "BadTongue")) (.ref (He.ga K "TooMany")) = some false
  kiT_BadTongue_ValueError : PySem.W.kitOne K (.ref (He.ga K "BadTongue")) (.type "ValueError") = some true
  xc_BadText : L2.ExcC K (He.ga K "BadText")
  ki_BadText_BadFroms : PySem.W.kitOne K (.ref (He.ga K "BadText")) (.ref (He.ga K "BadFroms")) = some false
  ki_BadText_BadPhrase : PySem.W.kitOne K (.ref (He.ga K "BadText")) (.ref (He.ga K "BadPhrase")) = some false
  ki_BadText_BadTongue : PySem.W.kitOne K (.ref (He.ga K "BadText")) (.ref (He.ga K "BadTongue")) = some false
  ki_BadText_BadText : PySem.W.kitOne K (.ref (He.ga K "BadText")) (.ref (He.ga K "BadText")) = some true
  ki_BadText_BadSeen : PySem.W.kitOne K (.ref (He.ga K "BadText")) (.ref (He.ga K "BadSeen")) = some false
  ki_BadText_BadRow : PySem.W.kitOne K (.ref (He.ga K "BadText")) (.ref (He.ga K "BadRow")) = some false
  ki_BadText_BadOld : PySem.W.kitOne K (.ref (He.ga K "BadText")) (.ref (He.ga K "BadOld")) = some false
  ki_BadText_BadHands : PySem.W.kitOne K (.ref (He.ga K "BadText")) (.ref (He.ga K "BadHands")) = some false
  ki_BadText_BadTale : PySem.W.kitOne K (.ref (He.ga K "BadText")) (.ref (He.ga K "BadTale")) = some false
  ki_BadText_Overtaken : PySem.W.kitOne K (.ref (He.ga K "BadText")) (.ref (He.ga K "Overtaken")) = some false
  ki_BadText_Nothing : PySem.W.kitOne K (.ref (He.ga K "BadText")) (.ref (He.ga K "Nothing")) = some false
  ki_BadText_TooMany : PySem.W.kitOne K (.ref (He.ga K "BadText")) (.ref (He.ga K "TooMany")) = some false
  kiT_BadText_ValueError : PySem.W.kitOne K (.ref (He.ga K "BadText")) (.type "ValueError") = some true
  u_deepest_first : ∀ p ∈ tbs K, p.1 = (He.cT K ("deepest_first", none)).2 → p.2 = lamName "deepest_first"
  u_telling_depth : ∀ p ∈ tbs K, p.1 = (He.cT K ("telling_depth", none)).2 → p.2 = lamName "telling_depth"
  u_law_puts_right : ∀ p ∈ tbs K, p.1 = (He.cT K ("_law_puts_right", none)).2 → p.2 = lamName "_law_puts_right"
  u_law : ∀ p ∈ tbs K, p.1 = (He.cT K ("law", none)).2 → p.2 = lamName "law"
--MK
theorem exs_at {K : PySem.W.Frag} (h : ex K = true) (i : Nat) {b : Bool} (e : (exs K)[i]? = some b) : b = true := List.all_eq_true.mp h b (List.mem_of_getElem? e)
theorem ins_ok {K : PySem.W.Frag} {x : Str} (h : insB K x = true) : Ins1 K (He.ga K x) := by
  obtain ⟨h1, h⟩ := He.ba h
  obtain ⟨h2, h⟩ := He.ba h
  obtain ⟨h3, h4⟩ := He.ba h
  exact ⟨He.eqO_ok h1, He.eqO_ok h3, of_decide_eq_true h4, of_decide_eq_true h2⟩
theorem excB_ok {K : PySem.W.Frag} {x : Str} (h : excB K x = true) : L2.ExcC K (He.ga K x) := by
  obtain ⟨h1, h⟩ := He.ba h
  obtain ⟨h2, h⟩ := He.ba h
  obtain ⟨h3, h⟩ := He.ba h
  obtain ⟨h4, h⟩ := He.ba h
  obtain ⟨h5, h⟩ := He.ba h
  obtain ⟨h6, h⟩ := He.ba h
  obtain ⟨h7, h8⟩ := He.ba h
  exact ⟨He.eqO_ok h1, He.eqO_ok h2, of_decide_eq_true h3, h4, He.eqO_ok h5, He.eqO_ok h7, of_decide_eq_true h8, of_decide_eq_true h6⟩
theorem bare_ok {K : PySem.W.Frag} {x : Str} (h : bareB K x = true) : Bare K (He.ga K x) := by
  obtain ⟨h1, h⟩ := He.ba h
  obtain ⟨h2, h3⟩ := He.ba h
  exact ⟨h1, He.eqO_ok h2, h3⟩
theorem tx_mk {K : PySem.W.Frag} {h : Heap} {w : World} {mg : Str → Option Value} (X : K.In h) (G : h.Ns mainGlobals mg) (c : He.SaysX fa fn [] tfs ex w h K) : Tx K mg where
  F_wall := c.t.d.def_ 0 (d := d_wall) rfl
  g_wall := He.glo_ok X G (c.t.d.fact 0 (f := .glo "_wall") rfl)
  F_is_number := c.t.d.def_ 1 (d := d_is_number) rfl
  g_is_number := He.glo_ok X G (c.t.d.fact 1 (f := .glo "is_number") rfl)
  F_is_count := c.t.d.def_ 2 (d := d_is_count) rfl
  g_is_count := He.glo_ok X G (c.t.d.fact 2 (f := .glo "is_count") rfl)
  F_is_number_or_none := c.t.d.def_ 3 (d := d_is_number_or_none) rfl
  g_is_number_or_none := He.glo_ok X G (c.t.d.fact 3 (f := .glo "is_number_or_none") rfl)
  F_is_pair := c.t.d.def_ 4 (d := d_is_pair) rfl
  g_is_pair := He.glo_ok X G (c.t.d.fact 4 (f := .glo "is_pair") rfl)
  F_is_text := c.t.d.def_ 5 (d := d_is_text) rfl
  g_is_text := He.glo_ok X G (c.t.d.fact 5 (f := .glo "is_text") rfl)
  F_is_froms := c.t.d.def_ 6 (d := d_is_froms) rfl
  g_is_froms := He.glo_ok X G (c.t.d.fact 6 (f := .glo "is_froms") rfl)
  F_is_tongue := c.t.d.def_ 7 (d := d_is_tongue) rfl
  g_is_tongue := He.glo_ok X G (c.t.d.fact 7 (f := .glo "is_tongue") rfl)
  F_is_old_one := c.t.d.def_ 8 (d := d_is_old_one) rfl
  g_is_old_one := He.glo_ok X G (c.t.d.fact 8 (f := .glo "is_old_one") rfl)
  F_is_old := c.t.d.def_ 9 (d := d_is_old) rfl
  g_is_old := He.glo_ok X G (c.t.d.fact 9 (f := .glo "is_old") rfl)
  F_is_hands := c.t.d.def_ 10 (d := d_is_hands) rfl
  g_is_hands := He.glo_ok X G (c.t.d.fact 10 (f := .glo "is_hands") rfl)
  F_copied := c.t.d.def_ 11 (d := d_copied) rfl
  g_copied := He.glo_ok X G (c.t.d.fact 11 (f := .glo "copied") rfl)
  F_put_from := c.t.d.def_ 12 (d := d_put_from) rfl
  g_put_from := He.glo_ok X G (c.t.d.fact 12 (f := .glo "put_from") rfl)
  F_is_broken := c.t.d.def_ 13 (d := d_is_broken) rfl
  g_is_broken := He.glo_ok X G (c.t.d.fact 13 (f := .glo "is_broken") rfl)
  F_chain_up := c.t.d.def_ 14 (d := d_chain_up) rfl
  g_chain_up := He.glo_ok X G (c.t.d.fact 14 (f := .glo "chain_up") rfl)
  F_one_above := c.t.d.def_ 15 (d := d_one_above) rfl
  g_one_above := He.glo_ok X G (c.t.d.fact 15 (f := .glo "one_above") rfl)
  F_depth_of := c.t.d.def_ 16 (d := d_depth_of) rfl
  g_depth_of := He.glo_ok X G (c.t.d.fact 16 (f := .glo "depth_of") rfl)
  F_rounds_needed := c.t.d.def_ 17 (d := d_rounds_needed) rfl
  g_rounds_needed := He.glo_ok X G (c.t.d.fact 17 (f := .glo "rounds_needed") rfl)
  F_round_of_each := c.t.d.def_ 18 (d := d_round_of_each) rfl
  g_round_of_each := He.glo_ok X G (c.t.d.fact 18 (f := .glo "round_of_each") rfl)
  F_is_put_anew := c.t.d.def_ 19 (d := d_is_put_anew) rfl
  g_is_put_anew := He.glo_ok X G (c.t.d.fact 19 (f := .glo "is_put_anew") rfl)
  F_Past_init := c.t.d.def_ 20 (d := d_Past_init) rfl
  F_Past_begin_phrase := c.t.d.def_ 21 (d := d_Past_begin_phrase) rfl
  F_Past_lay_down := c.t.d.def_ 22 (d := d_Past_lay_down) rfl
  F_Past_take_off := c.t.d.def_ 23 (d := d_Past_take_off) rfl
  F_Past_has_phrase := c.t.d.def_ 24 (d := d_Past_has_phrase) rfl
  F_Past_standing := c.t.d.def_ 25 (d := d_Past_standing) rfl
  F_Past_text_standing := c.t.d.def_ 26 (d := d_Past_text_standing) rfl
  F_Past_cells := c.t.d.def_ 27 (d := d_Past_cells) rfl
  F_Past_was_seen := c.t.d.def_ 28 (d := d_Past_was_seen) rfl
  F_Past_is_over := c.t.d.def_ 29 (d := d_Past_is_over) rfl
  F_Past_can_take_off := c.t.d.def_ 30 (d := d_Past_can_take_off) rfl
  F_Past_takes := c.t.d.def_ 31 (d := d_Past_takes) rfl
  F_Past_takes_phrase := c.t.d.def_ 32 (d := d_Past_takes_phrase) rfl
  F_Past_takes_put := c.t.d.def_ 33 (d := d_Past_takes_put) rfl
  F_Past_takes_back := c.t.d.def_ 34 (d := d_Past_takes_back) rfl
  F_Rounds_init := c.t.d.def_ 35 (d := d_Rounds_init) rfl
  F_Rounds_shows := c.t.d.def_ 36 (d := d_Rounds_shows) rfl
  F_evened := c.t.d.def_ 37 (d := d_evened) rfl
  g_evened := He.glo_ok X G (c.t.d.fact 20 (f := .glo "evened") rfl)
  F_fewest_rows := c.t.d.def_ 38 (d := d_fewest_rows) rfl
  g_fewest_rows := He.glo_ok X G (c.t.d.fact 21 (f := .glo "fewest_rows") rfl)
  F_deepest_first := c.t.d.def_ 39 (d := d_deepest_first) rfl
  g_deepest_first := He.glo_ok X G (c.t.d.fact 22 (f := .glo "deepest_first") rfl)
  F_last_row := c.t.d.def_ 40 (d := d_last_row) rfl
  g_last_row := He.glo_ok X G (c.t.d.fact 23 (f := .glo "last_row") rfl)
  F_telling_depth := c.t.d.def_ 41 (d := d_telling_depth) rfl
  g_telling_depth := He.glo_ok X G (c.t.d.fact 24 (f := .glo "telling_depth") rfl)
  F_Desk_init := c.t.d.def_ 42 (d := d_Desk_init) rfl
  F_Desk_phrase := c.t.d.def_ 43 (d := d_Desk_phrase) rfl
  F_Desk_put := c.t.d.def_ 44 (d := d_Desk_put) rfl
  F_Desk_back := c.t.d.def_ 45 (d := d_Desk_back) rfl
  F_Desk_now := c.t.d.def_ 46 (d := d_Desk_now) rfl
  F_Desk_all_put := c.t.d.def_ 47 (d := d_Desk_all_put) rfl
  F_Desk_row := c.t.d.def_ 48 (d := d_Desk_row) rfl
  F_Desk_old := c.t.d.def_ 49 (d := d_Desk_old) rfl
  F_Desk_likes := c.t.d.def_ 50 (d := d_Desk_likes) rfl
  F_Desk_fill := c.t.d.def_ 51 (d := d_Desk_fill) rfl
  F_Desk_rounds := c.t.d.def_ 52 (d := d_Desk_rounds) rfl
  F_Desk_tale := c.t.d.def_ 53 (d := d_Desk_tale) rfl
  F_Desk_check_phrase := c.t.d.def_ 54 (d := d_Desk_check_phrase) rfl
  F_Desk_check_place := c.t.d.def_ 55 (d := d_Desk_check_place) rfl
  F_Desk_check_other_tongue := c.t.d.def_ 56 (d := d_Desk_check_other_tongue) rfl
  F_Desk_check_text := c.t.d.def_ 57 (d := d_Desk_check_text) rfl
  F_Desk_is_fresh := c.t.d.def_ 58 (d := d_Desk_is_fresh) rfl
  F_Desk_texts_to_fill := c.t.d.def_ 59 (d := d_Desk_texts_to_fill) rfl
  F_Desk_put_like := c.t.d.def_ 60 (d := d_Desk_put_like) rfl
  F_law_kinds := c.t.d.def_ 61 (d := d_law_kinds) rfl
  g_law_kinds := He.glo_ok X G (c.t.d.fact 25 (f := .glo "_law_kinds") rfl)
  F_law_refused := c.t.d.def_ 62 (d := d_law_refused) rfl
  g_law_refused := He.glo_ok X G (c.t.d.fact 26 (f := .glo "_law_refused") rfl)
  F_law_all := c.t.d.def_ 63 (d := d_law_all) rfl
  g_law_all := He.glo_ok X G (c.t.d.fact 27 (f := .glo "_law_all") rfl)
  F_law_strange := c.t.d.def_ 64 (d := d_law_strange) rfl
  g_law_strange := He.glo_ok X G (c.t.d.fact 28 (f := .glo "_law_strange") rfl)
  F_law_no_froms := c.t.d.def_ 65 (d := d_law_no_froms) rfl
  g_law_no_froms := He.glo_ok X G (c.t.d.fact 29 (f := .glo "_law_no_froms") rfl)
  F_law_no_texts := c.t.d.def_ 66 (d := d_law_no_texts) rfl
  g_law_no_texts := He.glo_ok X G (c.t.d.fact 30 (f := .glo "_law_no_texts") rfl)
  F_law_told_of := c.t.d.def_ 67 (d := d_law_told_of) rfl
  g_law_told_of := He.glo_ok X G (c.t.d.fact 31 (f := .glo "_law_told_of") rfl)
  F_law_puts_right := c.t.d.def_ 68 (d := d_law_puts_right) rfl
  g_law_puts_right := He.glo_ok X G (c.t.d.fact 32 (f := .glo "_law_puts_right") rfl)
  F_law := c.t.d.def_ 69 (d := d_law) rfl
  g_law := He.glo_ok X G (c.t.d.fact 33 (f := .glo "law") rfl)
  g_FEWEST_TONGUES := He.int_ok X G (c.t.d.fact 34 (f := .int "FEWEST_TONGUES" 2) rfl)
  g_MOST_TONGUES := He.int_ok X G (c.t.d.fact 35 (f := .int "MOST_TONGUES" 8) rfl)
  g_MOST_PHRASES := He.int_ok X G (c.t.d.fact 36 (f := .int "MOST_PHRASES" 6) rfl)
  g_MOST_LETTERS := He.int_ok X G (c.t.d.fact 37 (f := .int "MOST_LETTERS" 6) rfl)
  g_MOST_HANDS := He.int_ok X G (c.t.d.fact 38 (f := .int "MOST_HANDS" 4) rfl)
  g_LETTERS := He.str_ok X G (c.t.d.fact 39 (f := .str "LETTERS" "abcdefghijklmnopqrstuvwxyz") rfl)
  f_ValueError := He.free_ok X G (c.t.d.fact 40 (f := .free "ValueError") rfl)
  f_abs := He.free_ok X G (c.t.d.fact 41 (f := .free "abs") rfl)
  f_all := He.free_ok X G (c.t.d.fact 42 (f := .free "all") rfl)
  f_bool := He.free_ok X G (c.t.d.fact 43 (f := .free "bool") rfl)
  f_enumerate := He.free_ok X G (c.t.d.fact 44 (f := .free "enumerate") rfl)
  f_int := He.free_ok X G (c.t.d.fact 45 (f := .free "int") rfl)
  f_isinstance := He.free_ok X G (c.t.d.fact 46 (f := .free "isinstance") rfl)
  f_len := He.free_ok X G (c.t.d.fact 47 (f := .free "len") rfl)
  f_list := He.free_ok X G (c.t.d.fact 48 (f := .free "list") rfl)
  f_max := He.free_ok X G (c.t.d.fact 49 (f := .free "max") rfl)
  f_range := He.free_ok X G (c.t.d.fact 50 (f := .free "range") rfl)
  f_set := He.free_ok X G (c.t.d.fact 51 (f := .free "set") rfl)
  f_sorted := He.free_ok X G (c.t.d.fact 52 (f := .free "sorted") rfl)
  f_str := He.free_ok X G (c.t.d.fact 53 (f := .free "str") rfl)
  f_tuple := He.free_ok X G (c.t.d.fact 54 (f := .free "tuple") rfl)
  f_zip := He.free_ok X G (c.t.d.fact 55 (f := .free "zip") rfl)
  g_Past := He.glo_ok X G (c.t.d.fact 56 (f := .glo "Past") rfl)
  k_Past := He.cls_ok (c.t.d.fact 57 (f := .cls "Past") rfl)
  m_Past_begin_phrase := He.meth_ok (c.t.d.fact 58 (f := .meth "Past" "begin_phrase") rfl)
  m_Past_lay_down := He.meth_ok (c.t.d.fact 59 (f := .meth "Past" "lay_down") rfl)
  m_Past_take_off := He.meth_ok (c.t.d.fact 60 (f := .meth "Past" "take_off") rfl)
  m_Past_has_phrase := He.meth_ok (c.t.d.fact 61 (f := .meth "Past" "has_phrase") rfl)
  m_Past_standing := He.meth_ok (c.t.d.fact 62 (f := .meth "Past" "standing") rfl)
  m_Past_text_standing := He.meth_ok (c.t.d.fact 63 (f := .meth "Past" "text_standing") rfl)
  m_Past_cells := He.meth_ok (c.t.d.fact 64 (f := .meth "Past" "cells") rfl)
  m_Past_was_seen := He.meth_ok (c.t.d.fact 65 (f := .meth "Past" "was_seen") rfl)
  m_Past_is_over := He.meth_ok (c.t.d.fact 66 (f := .meth "Past" "is_over") rfl)
  m_Past_can_take_off := He.meth_ok (c.t.d.fact 67 (f := .meth "Past" "can_take_off") rfl)
  m_Past_takes := He.meth_ok (c.t.d.fact 68 (f := .meth "Past" "takes") rfl)
  m_Past_takes_phrase := He.meth_ok (c.t.d.fact 69 (f := .meth "Past" "takes_phrase") rfl)
  m_Past_takes_put := He.meth_ok (c.t.d.fact 70 (f := .meth "Past" "takes_put") rfl)
  m_Past_takes_back := He.meth_ok (c.t.d.fact 71 (f := .meth "Past" "takes_back") rfl)
  i_Past := He.mkr_ok (c.t.d.fact 72 (f := .mkr "Past") rfl)
  t_Past := ins_ok (x := "Past") (exs_at c.more 0 rfl)
  is_Past_Past := of_decide_eq_true (exs_at c.more 1 rfl)
  is_Past_Answer := of_decide_eq_true (exs_at c.more 2 rfl)
  is_Past_Rounds := of_decide_eq_true (exs_at c.more 3 rfl)
  is_Past_Desk := of_decide_eq_true (exs_at c.more 4 rfl)
  g_Answer := He.glo_ok X G (c.t.d.fact 73 (f := .glo "Answer") rfl)
  k_Answer := He.cls_ok (c.t.d.fact 74 (f := .cls "Answer") rfl)
  b_Answer := bare_ok (x := "Answer") (exs_at c.more 6 rfl)
  t_Answer := ins_ok (x := "Answer") (exs_at c.more 5 rfl)
  is_Answer_Past := of_decide_eq_true (exs_at c.more 7 rfl)
  is_Answer_Answer := of_decide_eq_true (exs_at c.more 8 rfl)
  is_Answer_Rounds := of_decide_eq_true (exs_at c.more 9 rfl)
  is_Answer_Desk := of_decide_eq_true (exs_at c.more 10 rfl)
  g_Rounds := He.glo_ok X G (c.t.d.fact 75 (f := .glo "Rounds") rfl)
  k_Rounds := He.cls_ok (c.t.d.fact 76 (f := .cls "Rounds") rfl)
  m_Rounds_shows := He.meth_ok (c.t.d.fact 77 (f := .meth "Rounds" "shows") rfl)
  i_Rounds := He.mkr_ok (c.t.d.fact 78 (f := .mkr "Rounds") rfl)
  t_Rounds := ins_ok (x := "Rounds") (exs_at c.more 11 rfl)
  is_Rounds_Past := of_decide_eq_true (exs_at c.more 12 rfl)
  is_Rounds_Answer := of_decide_eq_true (exs_at c.more 13 rfl)
  is_Rounds_Rounds := of_decide_eq_true (exs_at c.more 14 rfl)
  is_Rounds_Desk := of_decide_eq_true (exs_at c.more 15 rfl)
  g_Desk := He.glo_ok X G (c.t.d.fact 79 (f := .glo "Desk") rfl)
  k_Desk := He.cls_ok (c.t.d.fact 80 (f := .cls "Desk") rfl)
  m_Desk_phrase := He.meth_ok (c.t.d.fact 81 (f := .meth "Desk" "phrase") rfl)
  m_Desk_put := He.meth_ok (c.t.d.fact 82 (f := .meth "Desk" "put") rfl)
  m_Desk_back := He.meth_ok (c.t.d.fact 83 (f := .meth "Desk" "back") rfl)
  m_Desk_now := He.meth_ok (c.t.d.fact 84 (f := .meth "Desk" "now") rfl)
  m_Desk_all_put := He.meth_ok (c.t.d.fact 85 (f := .meth "Desk" "all_put") rfl)
  m_Desk_row := He.meth_ok (c.t.d.fact 86 (f := .meth "Desk" "row") rfl)
  m_Desk_old := He.meth_ok (c.t.d.fact 87 (f := .meth "Desk" "old") rfl)
  m_Desk_likes := He.meth_ok (c.t.d.fact 88 (f := .meth "Desk" "likes") rfl)
  m_Desk_fill := He.meth_ok (c.t.d.fact 89 (f := .meth "Desk" "fill") rfl)
  m_Desk_rounds := He.meth_ok (c.t.d.fact 90 (f := .meth "Desk" "rounds") rfl)
  m_Desk_tale := He.meth_ok (c.t.d.fact 91 (f := .meth "Desk" "tale") rfl)
  m_Desk_check_phrase := He.meth_ok (c.t.d.fact 92 (f := .meth "Desk" "check_phrase") rfl)
  m_Desk_check_place := He.meth_ok (c.t.d.fact 93 (f := .meth "Desk" "check_place") rfl)
  m_Desk_check_other_tongue := He.meth_ok (c.t.d.fact 94 (f := .meth "Desk" "check_other_tongue") rfl)
  m_Desk_check_text := He.meth_ok (c.t.d.fact 95 (f := .meth "Desk" "check_text") rfl)
  m_Desk_is_fresh := He.meth_ok (c.t.d.fact 96 (f := .meth "Desk" "is_fresh") rfl)
  m_Desk_texts_to_fill := He.meth_ok (c.t.d.fact 97 (f := .meth "Desk" "texts_to_fill") rfl)
  m_Desk_put_like := He.meth_ok (c.t.d.fact 98 (f := .meth "Desk" "put_like") rfl)
  i_Desk := He.mkr_ok (c.t.d.fact 99 (f := .mkr "Desk") rfl)
  t_Desk := ins_ok (x := "Desk") (exs_at c.more 16 rfl)
  is_Desk_Past := of_decide_eq_true (exs_at c.more 17 rfl)
  is_Desk_Answer := of_decide_eq_true (exs_at c.more 18 rfl)
  is_Desk_Rounds := of_decide_eq_true (exs_at c.more 19 rfl)
  is_Desk_Desk := of_decide_eq_true (exs_at c.more 20 rfl)
  n_Past_ever := He.noat_ok (c.t.d.fact 100 (f := .noat "Past" "ever") rfl)
  n_Past_froms := He.noat_ok (c.t.d.fact 101 (f := .noat "Past" "froms") rfl)
  n_Past_origins := He.noat_ok (c.t.d.fact 102 (f := .noat "Past" "origins") rfl)
  n_Past_phrases := He.noat_ok (c.t.d.fact 103 (f := .noat "Past" "phrases") rfl)
  n_Past_piles := He.noat_ok (c.t.d.fact 104 (f := .noat "Past" "piles") rfl)
  n_Past_texts := He.noat_ok (c.t.d.fact 105 (f := .noat "Past" "texts") rfl)
  n_Rounds_depth := He.noat_ok (c.t.d.fact 106 (f := .noat "Rounds" "depth") rfl)
  n_Rounds_rows := He.noat_ok (c.t.d.fact 107 (f := .noat "Rounds" "rows") rfl)
  n_Desk_lines := He.noat_ok (c.t.d.fact 108 (f := .noat "Desk" "lines") rfl)
  n_Desk_past := He.noat_ok (c.t.d.fact 109 (f := .noat "Desk" "past") rfl)
  g_PhraseError := He.glo_ok X G (c.t.d.fact 110 (f := .glo "PhraseError") rfl)
  g_BadFroms := He.glo_ok X G (c.t.d.fact 112 (f := .glo "BadFroms") rfl)
  g_BadPhrase := He.glo_ok X G (c.t.d.fact 114 (f := .glo "BadPhrase") rfl)
  g_BadTongue := He.glo_ok X G (c.t.d.fact 116 (f := .glo "BadTongue") rfl)
  g_BadText := He.glo_ok X G (c.t.d.fact 118 (f := .glo "BadText") rfl)
  g_BadSeen := He.glo_ok X G (c.t.d.fact 120 (f := .glo "BadSeen") rfl)
  g_BadRow := He.glo_ok X G (c.t.d.fact 122 (f := .glo "BadRow") rfl)
  g_BadOld := He.glo_ok X G (c.t.d.fact 124 (f := .glo "BadOld") rfl)
  g_BadHands := He.glo_ok X G (c.t.d.fact 126 (f := .glo "BadHands") rfl)
  g_BadTale := He.glo_ok X G (c.t.d.fact 128 (f := .glo "BadTale") rfl)
  g_Overtaken := He.glo_ok X G (c.t.d.fact 130 (f := .glo "Overtaken") rfl)
  g_Nothing := He.glo_ok X G (c.t.d.fact 132 (f := .glo "Nothing") rfl)
  g_TooMany := He.glo_ok X G (c.t.d.fact 134 (f := .glo "TooMany") rfl)
  x_BadFroms := He.exc_ok (c.t.d.fact 113 (f := .exc "BadFroms") rfl)
  x_BadOld := He.exc_ok (c.t.d.fact 125 (f := .exc "BadOld") rfl)
  x_BadHands := He.exc_ok (c.t.d.fact 127 (f := .exc "BadHands") rfl)
  x_TooMany := He.exc_ok (c.t.d.fact 135 (f := .exc "TooMany") rfl)
  x_BadSeen := He.exc_ok (c.t.d.fact 121 (f := .exc "BadSeen") rfl)
  x_Overtaken := He.exc_ok (c.t.d.fact 131 (f := .exc "Overtaken") rfl)
  x_Nothing := He.exc_ok (c.t.d.fact 133 (f := .exc "Nothing") rfl)
  x_BadPhrase := He.exc_ok (c.t.d.fact 115 (f := .exc "BadPhrase") rfl)
  x_BadTongue := He.exc_ok (c.t.d.fact 117 (f := .exc "BadTongue") rfl)
  x_BadText := He.exc_ok (c.t.d.fact 119 (f := .exc "BadText") rfl)
  e_BadFroms_PhraseError := of_decide_eq_true (exs_at c.more 21 rfl)
  e_BadOld_PhraseError := of_decide_eq_true (exs_at c.more 22 rfl)
  e_BadHands_PhraseError := of_decide_eq_true (exs_at c.more 23 rfl)
  e_TooMany_PhraseError := of_decide_eq_true (exs_at c.more 24 rfl)
  e_BadSeen_PhraseError := of_decide_eq_true (exs_at c.more 25 rfl)
  e_Overtaken_PhraseError := of_decide_eq_true (exs_at c.more 26 rfl)
  e_Nothing_PhraseError := of_decide_eq_true (exs_at c.more 27 rfl)
  e_BadPhrase_PhraseError := of_decide_eq_true (exs_at c.more 28 rfl)
  e_BadTongue_PhraseError := of_decide_eq_true (exs_at c.more 29 rfl)
  e_BadText_PhraseError := of_decide_eq_true (exs_at c.more 30 rfl)
  xc_BadFroms := excB_ok (x := "BadFroms") (exs_at c.more 31 rfl)
  ki_BadFroms_BadFroms := of_decide_eq_true (exs_at c.more 32 rfl)
  ki_BadFroms_BadPhrase := of_decide_eq_true (exs_at c.more 33 rfl)
  ki_BadFroms_BadTongue := of_decide_eq_true (exs_at c.more 34 rfl)
  ki_BadFroms_BadText := of_decide_eq_true (exs_at c.more 35 rfl)
  ki_BadFroms_BadSeen := of_decide_eq_true (exs_at c.more 36 rfl)
  ki_BadFroms_BadRow := of_decide_eq_true (exs_at c.more 37 rfl)
  ki_BadFroms_BadOld := of_decide_eq_true (exs_at c.more 38 rfl)
  ki_BadFroms_BadHands := of_decide_eq_true (exs_at c.more 39 rfl)
  ki_BadFroms_BadTale := of_decide_eq_true (exs_at c.more 40 rfl)
  ki_BadFroms_Overtaken := of_decide_eq_true (exs_at c.more 41 rfl)
  ki_BadFroms_Nothing := of_decide_eq_true (exs_at c.more 42 rfl)
  ki_BadFroms_TooMany := of_decide_eq_true (exs_at c.more 43 rfl)
  kiT_BadFroms_ValueError := of_decide_eq_true (exs_at c.more 44 rfl)
  xc_BadOld := excB_ok (x := "BadOld") (exs_at c.more 45 rfl)
  ki_BadOld_BadFroms := of_decide_eq_true (exs_at c.more 46 rfl)
  ki_BadOld_BadPhrase := of_decide_eq_true (exs_at c.more 47 rfl)
  ki_BadOld_BadTongue := of_decide_eq_true (exs_at c.more 48 rfl)
  ki_BadOld_BadText := of_decide_eq_true (exs_at c.more 49 rfl)
  ki_BadOld_BadSeen := of_decide_eq_true (exs_at c.more 50 rfl)
  ki_BadOld_BadRow := of_decide_eq_true (exs_at c.more 51 rfl)
  ki_BadOld_BadOld := of_decide_eq_true (exs_at c.more 52 rfl)
  ki_BadOld_BadHands := of_decide_eq_true (exs_at c.more 53 rfl)
  ki_BadOld_BadTale := of_decide_eq_true (exs_at c.more 54 rfl)
  ki_BadOld_Overtaken := of_decide_eq_true (exs_at c.more 55 rfl)
  ki_BadOld_Nothing := of_decide_eq_true (exs_at c.more 56 rfl)
  ki_BadOld_TooMany := of_decide_eq_true (exs_at c.more 57 rfl)
  kiT_BadOld_ValueError := of_decide_eq_true (exs_at c.more 58 rfl)
  xc_BadHands := excB_ok (x := "BadHands") (exs_at c.more 59 rfl)
  ki_BadHands_BadFroms := of_decide_eq_true (exs_at c.more 60 rfl)
  ki_BadHands_BadPhrase := of_decide_eq_true (exs_at c.more 61 rfl)
  ki_BadHands_BadTongue := of_decide_eq_true (exs_at c.more 62 rfl)
  ki_BadHands_BadText := of_decide_eq_true (exs_at c.more 63 rfl)
  ki_BadHands_BadSeen := of_decide_eq_true (exs_at c.more 64 rfl)
  ki_BadHands_BadRow := of_decide_eq_true (exs_at c.more 65 rfl)
  ki_BadHands_BadOld := of_decide_eq_true (exs_at c.more 66 rfl)
  ki_BadHands_BadHands := of_decide_eq_true (exs_at c.more 67 rfl)
  ki_BadHands_BadTale := of_decide_eq_true (exs_at c.more 68 rfl)
  ki_BadHands_Overtaken := of_decide_eq_true (exs_at c.more 69 rfl)
  ki_BadHands_Nothing := of_decide_eq_true (exs_at c.more 70 rfl)
  ki_BadHands_TooMany := of_decide_eq_true (exs_at c.more 71 rfl)
  kiT_BadHands_ValueError := of_decide_eq_true (exs_at c.more 72 rfl)
  xc_TooMany := excB_ok (x := "TooMany") (exs_at c.more 73 rfl)
  ki_TooMany_BadFroms := of_decide_eq_true (exs_at c.more 74 rfl)
  ki_TooMany_BadPhrase := of_decide_eq_true (exs_at c.more 75 rfl)
  ki_TooMany_BadTongue := of_decide_eq_true (exs_at c.more 76 rfl)
  ki_TooMany_BadText := of_decide_eq_true (exs_at c.more 77 rfl)
  ki_TooMany_BadSeen := of_decide_eq_true (exs_at c.more 78 rfl)
  ki_TooMany_BadRow := of_decide_eq_true (exs_at c.more 79 rfl)
  ki_TooMany_BadOld := of_decide_eq_true (exs_at c.more 80 rfl)
  ki_TooMany_BadHands := of_decide_eq_true (exs_at c.more 81 rfl)
  ki_TooMany_BadTale := of_decide_eq_true (exs_at c.more 82 rfl)
  ki_TooMany_Overtaken := of_decide_eq_true (exs_at c.more 83 rfl)
  ki_TooMany_Nothing := of_decide_eq_true (exs_at c.more 84 rfl)
  ki_TooMany_TooMany := of_decide_eq_true (exs_at c.more 85 rfl)
  kiT_TooMany_ValueError := of_decide_eq_true (exs_at c.more 86 rfl)
  xc_BadSeen := excB_ok (x := "BadSeen") (exs_at c.more 87 rfl)
  ki_BadSeen_BadFroms := of_decide_eq_true (exs_at c.more 88 rfl)
  ki_BadSeen_BadPhrase := of_decide_eq_true (exs_at c.more 89 rfl)
  ki_BadSeen_BadTongue := of_decide_eq_true (exs_at c.more 90 rfl)
  ki_BadSeen_BadText := of_decide_eq_true (exs_at c.more 91 rfl)
  ki_BadSeen_BadSeen := of_decide_eq_true (exs_at c.more 92 rfl)
  ki_BadSeen_BadRow := of_decide_eq_true (exs_at c.more 93 rfl)
  ki_BadSeen_BadOld := of_decide_eq_true (exs_at c.more 94 rfl)
  ki_BadSeen_BadHands := of_decide_eq_true (exs_at c.more 95 rfl)
  ki_BadSeen_BadTale := of_decide_eq_true (exs_at c.more 96 rfl)
  ki_BadSeen_Overtaken := of_decide_eq_true (exs_at c.more 97 rfl)
  ki_BadSeen_Nothing := of_decide_eq_true (exs_at c.more 98 rfl)
  ki_BadSeen_TooMany := of_decide_eq_true (exs_at c.more 99 rfl)
  kiT_BadSeen_ValueError := of_decide_eq_true (exs_at c.more 100 rfl)
  xc_Overtaken := excB_ok (x := "Overtaken") (exs_at c.more 101 rfl)
  ki_Overtaken_BadFroms := of_decide_eq_true (exs_at c.more 102 rfl)
  ki_Overtaken_BadPhrase := of_decide_eq_true (exs_at c.more 103 rfl)
  ki_Overtaken_BadTongue := of_decide_eq_true (exs_at c.more 104 rfl)
  ki_Overtaken_BadText := of_decide_eq_true (exs_at c.more 105 rfl)
  ki_Overtaken_BadSeen := of_decide_eq_true (exs_at c.more 106 rfl)
  ki_Overtaken_BadRow := of_decide_eq_true (exs_at c.more 107 rfl)
  ki_Overtaken_BadOld := of_decide_eq_true (exs_at c.more 108 rfl)
  ki_Overtaken_BadHands := of_decide_eq_true (exs_at c.more 109 rfl)
  ki_Overtaken_BadTale := of_decide_eq_true (exs_at c.more 110 rfl)
  ki_Overtaken_Overtaken := of_decide_eq_true (exs_at c.more 111 rfl)
  ki_Overtaken_Nothing := of_decide_eq_true (exs_at c.more 112 rfl)
  ki_Overtaken_TooMany := of_decide_eq_true (exs_at c.more 113 rfl)
  kiT_Overtaken_ValueError := of_decide_eq_true (exs_at c.more 114 rfl)
  xc_Nothing := excB_ok (x := "Nothing") (exs_at c.more 115 rfl)
  ki_Nothing_BadFroms := of_decide_eq_true (exs_at c.more 116 rfl)
  ki_Nothing_BadPhrase := of_decide_eq_true (exs_at c.more 117 rfl)
  ki_Nothing_BadTongue := of_decide_eq_true (exs_at c.more 118 rfl)
  ki_Nothing_BadText := of_decide_eq_true (exs_at c.more 119 rfl)
  ki_Nothing_BadSeen := of_decide_eq_true (exs_at c.more 120 rfl)
  ki_Nothing_BadRow := of_decide_eq_true (exs_at c.more 121 rfl)
  ki_Nothing_BadOld := of_decide_eq_true (exs_at c.more 122 rfl)
  ki_Nothing_BadHands := of_decide_eq_true (exs_at c.more 123 rfl)
  ki_Nothing_BadTale := of_decide_eq_true (exs_at c.more 124 rfl)
  ki_Nothing_Overtaken := of_decide_eq_true (exs_at c.more 125 rfl)
  ki_Nothing_Nothing := of_decide_eq_true (exs_at c.more 126 rfl)
  ki_Nothing_TooMany := of_decide_eq_true (exs_at c.more 127 rfl)
  kiT_Nothing_ValueError := of_decide_eq_true (exs_at c.more 128 rfl)
  xc_BadPhrase := excB_ok (x := "BadPhrase") (exs_at c.more 129 rfl)
  ki_BadPhrase_BadFroms := of_decide_eq_true (exs_at c.more 130 rfl)
  ki_BadPhrase_BadPhrase := of_decide_eq_true (exs_at c.more 131 rfl)
  ki_BadPhrase_BadTongue := of_decide_eq_true (exs_at c.more 132 rfl)
  ki_BadPhrase_BadText := of_decide_eq_true (exs_at c.more 133 rfl)
  ki_BadPhrase_BadSeen := of_decide_eq_true (exs_at c.more 134 rfl)
  ki_BadPhrase_BadRow := of_decide_eq_true (exs_at c.more 135 rfl)
  ki_BadPhrase_BadOld := of_decide_eq_true (exs_at c.more 136 rfl)
  ki_BadPhrase_BadHands := of_decide_eq_true (exs_at c.more 137 rfl)
  ki_BadPhrase_BadTale := of_decide_eq_true (exs_at c.more 138 rfl)
  ki_BadPhrase_Overtaken := of_decide_eq_true (exs_at c.more 139 rfl)
  ki_BadPhrase_Nothing := of_decide_eq_true (exs_at c.more 140 rfl)
  ki_BadPhrase_TooMany := of_decide_eq_true (exs_at c.more 141 rfl)
  kiT_BadPhrase_ValueError := of_decide_eq_true (exs_at c.more 142 rfl)
  xc_BadTongue := excB_ok (x := "BadTongue") (exs_at c.more 143 rfl)
  ki_BadTongue_BadFroms := of_decide_eq_true (exs_at c.more 144 rfl)
  ki_BadTongue_BadPhrase := of_decide_eq_true (exs_at c.more 145 rfl)
  ki_BadTongue_BadTongue := of_decide_eq_true (exs_at c.more 146 rfl)
  ki_BadTongue_BadText := of_decide_eq_true (exs_at c.more 147 rfl)
  ki_BadTongue_BadSeen := of_decide_eq_true (exs_at c.more 148 rfl)
  ki_BadTongue_BadRow := of_decide_eq_true (exs_at c.more 149 rfl)
  ki_BadTongue_BadOld := of_decide_eq_true (exs_at c.more 150 rfl)
  ki_BadTongue_BadHands := of_decide_eq_true (exs_at c.more 151 rfl)
  ki_BadTongue_BadTale := of_decide_eq_true (exs_at c.more 152 rfl)
  ki_BadTongue_Overtaken := of_decide_eq_true (exs_at c.more 153 rfl)
  ki_BadTongue_Nothing := of_decide_eq_true (exs_at c.more 154 rfl)
  ki_BadTongue_TooMany := of_decide_eq_true (exs_at c.more 155 rfl)
  kiT_BadTongue_ValueError := of_decide_eq_true (exs_at c.more 156 rfl)
  xc_BadText := excB_ok (x := "BadText") (exs_at c.more 157 rfl)
  ki_BadText_BadFroms := of_decide_eq_true (exs_at c.more 158 rfl)
  ki_BadText_BadPhrase := of_decide_eq_true (exs_at c.more 159 rfl)
  ki_BadText_BadTongue := of_decide_eq_true (exs_at c.more 160 rfl)
  ki_BadText_BadText := of_decide_eq_true (exs_at c.more 161 rfl)
  ki_BadText_BadSeen := of_decide_eq_true (exs_at c.more 162 rfl)
  ki_BadText_BadRow := of_decide_eq_true (exs_at c.more 163 rfl)
  ki_BadText_BadOld := of_decide_eq_true (exs_at c.more 164 rfl)
  ki_BadText_BadHands := of_decide_eq_true (exs_at c.more 165 rfl)
  ki_BadText_BadTale := of_decide_eq_true (exs_at c.more 166 rfl)
  ki_BadText_Overtaken := of_decide_eq_true (exs_at c.more 167 rfl)
  ki_BadText_Nothing := of_decide_eq_true (exs_at c.more 168 rfl)
  ki_BadText_TooMany := of_decide_eq_true (exs_at c.more 169 rfl)
  kiT_BadText_ValueError := of_decide_eq_true (exs_at c.more 170 rfl)
  u_deepest_first := by
    intro p hp hq
    simp only [List.mem_cons, List.not_mem_nil, or_false] at hp
    rcases hp with rfl | rfl | rfl | rfl
    · rfl
    · exact absurd hq (Ne.symm (of_decide_eq_true (exs_at c.more 171 rfl)))
    · exact absurd hq (Ne.symm (of_decide_eq_true (exs_at c.more 172 rfl)))
    · exact absurd hq (Ne.symm (of_decide_eq_true (exs_at c.more 173 rfl)))
  u_telling_depth := by
    intro p hp hq
    simp only [List.mem_cons, List.not_mem_nil, or_false] at hp
    rcases hp with rfl | rfl | rfl | rfl
    · exact absurd hq (of_decide_eq_true (exs_at c.more 171 rfl))
    · rfl
    · exact absurd hq (Ne.symm (of_decide_eq_true (exs_at c.more 174 rfl)))
    · exact absurd hq (Ne.symm (of_decide_eq_true (exs_at c.more 175 rfl)))
  u_law_puts_right := by
    intro p hp hq
    simp only [List.mem_cons, List.not_mem_nil, or_false] at hp
    rcases hp with rfl | rfl | rfl | rfl
    · exact absurd hq (of_decide_eq_true (exs_at c.more 172 rfl))
    · exact absurd hq (of_decide_eq_true (exs_at c.more 174 rfl))
    · rfl
    · exact absurd hq (Ne.symm (of_decide_eq_true (exs_at c.more 176 rfl)))
  u_law := by
    intro p hp hq
    simp only [List.mem_cons, List.not_mem_nil, or_false] at hp
    rcases hp with rfl | rfl | rfl | rfl
    · exact absurd hq (of_decide_eq_true (exs_at c.more 173 rfl))
    · exact absurd hq (of_decide_eq_true (exs_at c.more 175 rfl))
    · exact absurd hq (of_decide_eq_true (exs_at c.more 176 rfl))
    · rfl
theorem tb_mk {K : PySem.W.Frag} {mg : Str → Option Value} {base : Heap} (h : ∀ p ∈ tfs.map (He.cT K), LamX.TabB base mg p.1 p.2) : Tb K mg base where
  tb_deepest_first := h _ (List.mem_map.mpr ⟨_, (List.mem_cons_self), rfl⟩)
  tb_telling_depth := h _ (List.mem_map.mpr ⟨_, (List.mem_cons_of_mem _ (List.mem_cons_self)), rfl⟩)
  tb_law_puts_right := h _ (List.mem_map.mpr ⟨_, (List.mem_cons_of_mem _ (List.mem_cons_of_mem _ (List.mem_cons_self))), rfl⟩)
  tb_law := h _ (List.mem_map.mpr ⟨_, (List.mem_cons_of_mem _ (List.mem_cons_of_mem _ (List.mem_cons_of_mem _ (List.mem_cons_self)))), rfl⟩)

end PD

namespace PD
open PySem PySem.Spec PyProof.Rows L2
/-! ### the law's call, from a promise that is kept where nothing is being written out -/
section
variable {P : Program} {w : World} {K : PySem.W.Frag} {mg mb : Str → Option Value} {lv : Nat} {fa a : Addr} {fd : FuncData} {x : Str} {sp : Sp} {z : Shared} {us : List Value} {ns : List Int}
/-- from one abstract heap that tracks the script alone, or nothing -/
theorem call_from {G : Hp} (KZ : K.In z.heap) (hns : z.heap.Ns mainGlobals mg) (hbn : z.heap.Ns builtinsNs mb) (hbb : ∀ y : Str, y ≠ "__name__" → mb y = bootBuiltins y) (lim : z.heap.NoLimit) (hgn : z.gens = #[])
    (obj : z.heap.get? a = some { cls := .type "list", data := .seq us.toArray }) (room : Room lv callerA) (F : ∀ base : Heap, K.In base → base.Ns mainGlobals mg → FnG P w K mg base lv fa fd [x] sp)
    (bind : ∀ (t : Shared) (u : Value), BindsTo t fd ⟨[u], []⟩ [(x, u)]) (only : Only G) (goal : sp [.ref a] G (fun v _ => v = .bl true) fun _ _ _ => False) (ok : HOk P w G z.heap)
    (at_ : ∀ b, G b ≠ none → b = a) (out : G a ≠ none → K.lookup a = none) :
    codeAny (model P w) callerA (.call (.ref fa) ⟨[.ref a], []⟩) (fun r t => r = .ok (.ret (.bool true)) ∧ OldK z.heap t.heap ∧ t.os = z.os ∧ AllBare t.gens) z := by
  have stays : ∀ {b : Addr} {o : Obj}, z.heap.get? b = some o → G b = none → (hidT z.heap G).get? b = some o := fun e n => hidT_get e n
  have untracked : ∀ {b : Addr} {o : Obj} {es : Array DictEntry} {ep : Nat}, z.heap.get? b = some o → o.data = .dict es ep → G b = none := by
    intro b o es ep e d
    cases t : G b with
    | none => rfl
    | some v =>
      have eb : b = a := at_ b (by rw [t]; simp)
      rw [eb, obj] at e
      rw [← Option.some.inj e] at d
      have d2 : Data.seq us.toArray _ = Data.dict es ep := d
      cases d2
  have nsH : ∀ {b : Addr} {m : Str → Option Value}, z.heap.Ns b m → (hidT z.heap G).Ns b m := by
    rintro b m ⟨o, es, ep, e, d, r⟩
    exact ⟨o, es, ep, stays e (untracked e d), d, r⟩
  have KH : K.In (hidT z.heap G) := by
    intro b o e
    refine stays (KZ b o e) ?_
    cases t : G b with
    | none => rfl
    | some v =>
      have eb : b = a := at_ b (by rw [t]; simp)
      rw [eb] at e t
      rw [out (by rw [t]; simp)] at e
      cases e
  have md : Mod K mg (hidT z.heap G) := by
    obtain ⟨mc, h1, h2⟩ := lim
    exact ⟨KH, nsH hns, ⟨mb, nsH hbn, hbb⟩, ⟨mc, nsH h1, h2⟩⟩
  have e0 : Env0 P w K mg (hidT z.heap G) callerA [] z G := by
    refine ⟨rfl, md, fun b o e => of_hidT e, Nat.le_of_eq (hidT_size _ _), trivial, ?_, ok, .of_eq hgn⟩
    intro b hb
    exact absurd (show b ∈ ([] : List Addr) from hb) (by simp)
  have run := (F _ KH (nsH hns)).goes callerA [] z G ⟨[.ref a], []⟩ [.ref a] [.ref a] _ _ rfl room e0 (bind z (.ref a)) (.cons rfl .nil) goal
  refine codeAny_mono run ?_
  intro r t h
  cases r with
  | error er => exact (show False from h).elim
  | ok fl =>
    cases fl with
    | next => exact (show False from h).elim
    | brk => exact (show False from h).elim
    | cont => exact (show False from h).elim
    | ret u =>
      obtain ⟨v, G', os, bare, un, ok', rv, qv⟩ := h
      cases (show v = .bl true from qv)
      cases (show u = Value.bool true from rv)
      refine ⟨rfl, OldK.of_keep ?_, os, bare⟩
      intro b o e
      cases t2 : G b with
      | none => exact un.keep b o e t2 (fun m => absurd (show b ∈ ([] : List Addr) from m) (by simp)) (by simp)
      | some v =>
        rcases only b with n | ⟨ob, xs, n⟩
        · rw [t2] at n
          cases n
        · obtain ⟨q1, _⟩ := ok b _ n
          obtain ⟨q2, _⟩ := ok' b _ (un.frzs b ob _ n)
          rw [e] at q1
          rw [Option.some.inj q1]
          exact q2
theorem call_goes (KZ : K.In z.heap) (hns : z.heap.Ns mainGlobals mg) (hbn : z.heap.Ns builtinsNs mb) (hbb : ∀ y : Str, y ≠ "__name__" → mb y = bootBuiltins y) (lim : z.heap.NoLimit) (hgn : z.gens = #[])
    (obj : z.heap.get? a = some { cls := .type "list", data := .seq us.toArray }) (isn : IntsAre us ns) (small : ns.length ≤ sizeLine) (room : Room lv callerA) (F : ∀ base : Heap, K.In base → base.Ns mainGlobals mg → FnG P w K mg base lv fa fd [x] sp)
    (bind : ∀ (t : Shared) (u : Value), BindsTo t fd ⟨[u], []⟩ [(x, u)]) (goal : ∀ G : Hp, Only G → SqL K G a (ns.map V.int) → sp [.ref a] G (fun v _ => v = .bl true) fun _ _ _ => False) :
    codeAny (model P w) callerA (.call (.ref fa) ⟨[.ref a], []⟩) (fun r t => r = .ok (.ret (.bool true)) ∧ OldK z.heap t.heap ∧ t.os = z.os ∧ AllBare t.gens) z := by
  have rv := vals_ints isn
  have len := isn.length
  cases inK : K.lookup a with
  | some o =>
    have e := KZ a o inK
    rw [obj] at e
    have eo := Option.some.inj e
    subst eo
    have none1 : Only (fun _ => none) := fun _ => .inl rfl
    have sq : SqL K (fun _ => none) a (ns.map V.int) := .inr ⟨_, us.toArray, _, inK, rfl, rfl, rfl, by rw [List.size_toArray, len]; exact small, by simpa using rv⟩
    refine call_from (G := fun _ => none) KZ hns hbn hbb lim hgn obj room F bind none1 (goal _ none1 sq) ?_ (fun b n => absurd rfl n) fun n => absurd rfl n
    intro b u n
    have n2 : (none : Option HO) = some u := n
    cases n2
  | none =>
    let G : Hp := fun b => if b = a then some (.frz { cls := .type "list", data := .seq us.toArray } (.lst (ns.map V.int))) else none
    have at1 : G a = some (.frz { cls := .type "list", data := .seq us.toArray } (.lst (ns.map V.int))) := if_pos rfl
    have el : ∀ b, b ≠ a → G b = none := fun b n => if_neg n
    have only : Only G := by
      intro b
      by_cases h : b = a
      · rw [h]
        exact .inr ⟨_, _, at1⟩
      · exact .inl (el b h)
    refine call_from (G := G) KZ hns hbn hbb lim hgn obj room F bind only (goal G only (.inl (.inr ⟨_, at1⟩))) ?_ ?_ fun _ => inK
    · intro b u n
      by_cases h : b = a
      · rw [h, at1] at n
        rw [← Option.some.inj n, h]
        exact ⟨obj, by rw [List.length_map]; exact small, us, _, rv, obj⟩
      · rw [el b h] at n
        cases n
    · intro b n
      by_cases h : b = a
      · exact h
      · exact absurd (el b h) n
end
/-- the head's last goal, from the law's promise -/
theorem walkG {l : PySem.W.OpenLaw} {n lv : Nat} {q : Program} {loose : List Str} {XP : (Str → Option Value) → Heap → Prop} {YP : World → Heap → Prop} {d : DefRec} {x : Str} (most : l.most = some n) (small : n ≤ sizeLine) (nodef : d.params.defaults = []) (room : Room lv callerA)
    (F : ∀ (w : World) (mg : Str → Option Value) (fa : Addr) (h : Heap), YP w h → h.Ns mainGlobals mg → mg d.name = some (.ref fa) → ∃ (K : PySem.W.Frag) (fd : FuncData) (sp : Sp), K.In h ∧ (∀ (t : Shared) (u : Value), BindsTo t fd ⟨[u], []⟩ [(x, u)]) ∧
      (∀ (G : Hp) (a : Addr) (ns : List Int), ns.length ≤ n → Only G → SqL K G a (ns.map V.int) → sp [.ref a] G (fun v _ => v = .bl true) fun _ _ _ => False) ∧ ∀ base : Heap, K.In base → base.Ns mainGlobals mg → FnG l.prog w K mg base lv fa fd [x] sp) :
    PySem.W.WalkO q loose XP YP l.row.toRowW d [] (fun f vs => PySem.call f vs) := by
  refine Att.attach_call most nodef ?_
  intro w z0 z mg mb fa o pm cd doc a us ns G Y ho hd hcd hmg obj isn len gens
  obtain ⟨K, fd, sp, KZ, bind, goal, hF⟩ := F w mg fa _ Y G.T.g hmg
  exact call_goes KZ G.T.g G.T.b G.T.builtins G.T.nolimit gens obj isn (Nat.le_trans len small) room hF bind fun G' h1 h2 => goal G' a ns len h1 h2
end PD

namespace PD
open PySem PySem.Spec PyProof.Rows L2
/-! ### data: lists of ints, rows -/
def dI (ns : List Int) : PyData := .list (ns.map .int)
section
variable {K : PySem.W.Frag} {H : Hp}
theorem dpa_ints : ∀ ns : List Int, DpAll K H (ns.map V.int) (ns.map PyData.int)
  | [] => .nil
  | n :: ns => .cons (.int n) (dpa_ints ns)
theorem dp_ints {a : Addr} {ns : List Int} (h : LsAt H a ns) : Dp K H (.ref a) (dI ns) := .lst (SqL.of h) (dpa_ints ns)
theorem lay_ints : ∀ ns : List Int, PyData.canLayAll0 (ns.map PyData.int) = true
  | [] => rfl
  | n :: ns => by
    rw [List.map_cons]
    simp only [PyData.canLayAll0, PyData.canLay0, Bool.true_and]
    exact lay_ints ns
theorem depth_ints : ∀ ns : List Int, PyData.depthAll (ns.map PyData.int) = 0
  | [] => rfl
  | n :: ns => by
    rw [List.map_cons]
    simp only [PyData.depthAll, PyData.depth, depth_ints ns, Nat.max_self]
theorem shaped_ints (ns : List Int) : SeqAt.shaped (dI ns) = true := by
  unfold SeqAt.shaped dI
  simp only [PyData.canLay0, PyData.depth, lay_ints, depth_ints]
  rfl
theorem eqva_ints : ∀ ns ms : List Int, PyData.eqvAll (ns.map PyData.int) (ms.map PyData.int) = decide (ns = ms)
  | [], [] => rfl
  | [], m :: ms => rfl
  | n :: ns, [] => rfl
  | n :: ns, m :: ms => by
    rw [List.map_cons, List.map_cons]
    simp only [PyData.eqvAll, PyData.eqv, eqva_ints ns ms]
    by_cases h1 : n = m
    · by_cases h2 : ns = ms
      · simp [h1, h2]
      · simp [h1, h2]
    · simp [h1]
theorem eqv_ints (ns ms : List Int) : PyData.eqv (dI ns) (dI ms) = decide (ns = ms) := by
  unfold dI
  simp only [PyData.eqv, eqva_ints]
def dO : Option Int → PyData
  | none => .none
  | some i => .int i
def dC : Cell → PyData
  | none => .none
  | some (a, b) => .tuple [.int a, dO b]
theorem dp_o : ∀ b : Option Int, Dp K H (oV b) (dO b)
  | none => .non
  | some i => .int i
theorem dp_cell {v : V} : ∀ {c : Cell}, CellV H v c → Dp K H v (dC c)
  | none, h => by
    cases (show v = .non from h)
    exact .non
  | some (a, b), ⟨p, e, h⟩ => by
    subst e
    exact .tup (SqT.of h) (.cons (.int a) (.cons (dp_o b) .nil))
theorem dpa_cells : ∀ {vs : List V} {row : List Cell}, Cells H vs row → DpAll K H vs (row.map dC)
  | [], [], _ => .nil
  | [], _ :: _, h => by
    have := h.len
    simp at this
  | _ :: _, [], h => by
    have := h.len
    simp at this
  | v :: vs, c :: row, h => by
    obtain ⟨u, e1, e2⟩ := h.each 0 c rfl
    cases (Option.some.inj e1)
    have h' : Cells H vs row := ⟨by have := h.len; simpa using this, fun i d e => h.each (i + 1) d e⟩
    exact .cons (dp_cell e2) (dpa_cells h')
def dRow (row : List Cell) : PyData := .list (row.map dC)
theorem dp_row {p : Addr} {row : List Cell} (h : RowAt H p row) : Dp K H (.ref p) (dRow row) := by
  obtain ⟨vs, h1, h2⟩ := h
  exact .lst (SqL.of h1) (dpa_cells h2)
theorem lay_cell : ∀ c : Cell, (dC c).canLay0 = true
  | none => rfl
  | some (a, none) => rfl
  | some (a, some b) => rfl
theorem lay_cells : ∀ row : List Cell, PyData.canLayAll0 (row.map dC) = true
  | [] => rfl
  | c :: row => by
    rw [List.map_cons]
    simp only [PyData.canLayAll0, lay_cell c, Bool.true_and]
    exact lay_cells row
theorem depth_cell : ∀ c : Cell, (dC c).depth ≤ 1
  | none => by decide
  | some (a, none) => by simp [dC, dO, PyData.depth, PyData.depthAll]
  | some (a, some b) => by simp [dC, dO, PyData.depth, PyData.depthAll]
theorem depth_cells : ∀ row : List Cell, PyData.depthAll (row.map dC) ≤ 1
  | [] => by simp [PyData.depthAll]
  | c :: row => by
    rw [List.map_cons]
    simp only [PyData.depthAll]
    have := depth_cell c
    have := depth_cells row
    omega
end
/-! ### digits -/
def isDig (c : Nat) : Bool := decide (48 ≤ c) && decide (c ≤ 57)
theorem str_digit : ∀ n : Int, 0 ≤ n → n ≤ 9 → (Str.ofString (toString n)).cps.toList = [48 + n.toNat] := by
  intro n h0 h9
  have h : n = 0 ∨ n = 1 ∨ n = 2 ∨ n = 3 ∨ n = 4 ∨ n = 5 ∨ n = 6 ∨ n = 7 ∨ n = 8 ∨ n = 9 := by omega
  rcases h with rfl | rfl | rfl | rfl | rfl | rfl | rfl | rfl | rfl | rfl <;> decide +kernel
theorem shownAll_map : ∀ ns : List Int, PyData.shownAll (ns.map PyData.int) = ns.map fun n => Str.ofString (toString n)
  | [] => rfl
  | n :: ns => by
    rw [List.map_cons, List.map_cons]
    simp only [PyData.shownAll, PyData.shown, shownAll_map ns]
theorem text_digits : ∀ (ns : List Int) (k : Nat) (acc : Str), (∀ n ∈ ns, 0 ≤ n ∧ n ≤ 9) →
    ((textFrom k acc (ns.map fun n => Str.ofString (toString n))).cps.toList).filter isDig = (acc.cps.toList).filter isDig ++ ns.map fun n => 48 + n.toNat
  | [], k, acc, _ => by simp [textFrom]
  | n :: ns, k, acc, h => by
    rw [List.map_cons, List.map_cons]
    show ((textFrom (k + 1) (acc ++ (if k > 0 then ", " else "" : String) ++ Str.ofString (toString n)) (ns.map fun n => Str.ofString (toString n))).cps.toList).filter isDig = _
    rw [text_digits ns _ _ fun m hm => h m (List.mem_cons_of_mem _ hm)]
    obtain ⟨h0, h9⟩ := h n List.mem_cons_self
    have e1 : (Str.ofString (toString n)).cps.toList = [48 + n.toNat] := str_digit n h0 h9
    have e2 : (((if k > 0 then ", " else "" : String) : Str)).cps.toList.filter isDig = [] := by
      split <;> decide +kernel
    have e3 : isDig (48 + n.toNat) = true := by
      unfold isDig
      rw [decide_eq_true (by omega), decide_eq_true (by omega)]
      rfl
    rw [Str.cps_append, Str.cps_append, Array.toList_append, Array.toList_append, List.filter_append, List.filter_append, e1, e2]
    simp [e3]
theorem shown_digits {ns : List Int} (h : ∀ n ∈ ns, 0 ≤ n ∧ n ≤ 9) : ((dI ns).shown.cps.toList).filter isDig = ns.map fun n => 48 + n.toNat := by
  have e : (dI ns).shown = textFrom 0 "[" (ns.map fun n => Str.ofString (toString n)) ++ "]" := by
    unfold dI
    simp only [PyData.shown, shownAll_map]
    rfl
  have e2 : ((("]" : String) : Str)).cps.toList.filter isDig = [] := by decide +kernel
  have e3 : ((("[" : String) : Str)).cps.toList.filter isDig = [] := by decide +kernel
  rw [e, Str.cps_append, Array.toList_append, List.filter_append, text_digits ns 0 _ h, e2, e3]
  simp
theorem map_inj : ∀ {ns ms : List Int}, (∀ n ∈ ns, 0 ≤ n ∧ n ≤ 9) → (∀ n ∈ ms, 0 ≤ n ∧ n ≤ 9) → (ns.map fun n => 48 + n.toNat) = (ms.map fun n => 48 + n.toNat) → ns = ms
  | [], [], _, _, _ => rfl
  | [], _ :: _, _, _, e => by simp at e
  | _ :: _, [], _, _, e => by simp at e
  | n :: ns, m :: ms, h1, h2, e => by
    rw [List.map_cons, List.map_cons] at e
    injection e with e1 e2
    have a := h1 n List.mem_cons_self
    have b := h2 m List.mem_cons_self
    have r := map_inj (fun x hx => h1 x (List.mem_cons_of_mem _ hx)) (fun x hx => h2 x (List.mem_cons_of_mem _ hx)) e2
    have : n = m := by omega
    rw [this, r]
theorem shown_inj {ns ms : List Int} (h1 : ∀ n ∈ ns, 0 ≤ n ∧ n ≤ 9) (h2 : ∀ n ∈ ms, 0 ≤ n ∧ n ≤ 9) : decide ((dI ns).shown = (dI ms).shown) = decide (ns = ms) := by
  by_cases h : ns = ms
  · rw [h, decide_eq_true rfl, decide_eq_true rfl]
  · have h3 : ¬ (dI ns).shown = (dI ms).shown := fun e => h (map_inj h1 h2 (by rw [← shown_digits h1, ← shown_digits h2, e]))
    rw [decide_eq_false h, decide_eq_false h3]
theorem text_len : ∀ (ns : List Int) (k : Nat) (acc : Str), (∀ n ∈ ns, 0 ≤ n ∧ n ≤ 9) → (textFrom k acc (ns.map fun n => Str.ofString (toString n))).length ≤ acc.length + 3 * ns.length
  | [], k, acc, _ => by simp [textFrom]
  | n :: ns, k, acc, h => by
    rw [List.map_cons]
    show (textFrom (k + 1) (acc ++ (if k > 0 then ", " else "" : String) ++ Str.ofString (toString n)) (ns.map fun n => Str.ofString (toString n))).length ≤ _
    have i := text_len ns (k + 1) (acc ++ (if k > 0 then ", " else "" : String) ++ Str.ofString (toString n)) fun m hm => h m (List.mem_cons_of_mem _ hm)
    obtain ⟨h0, h9⟩ := h n List.mem_cons_self
    have e1 : (Str.ofString (toString n)).length = 1 := by
      show (Str.ofString (toString n)).cps.size = 1
      rw [← Array.length_toList, str_digit n h0 h9]
      rfl
    have e2 : (((if k > 0 then ", " else "" : String) : Str)).length ≤ 2 := by
      split <;> decide +kernel
    rw [strLen_append, strLen_append, e1] at i
    rw [List.length_cons]
    omega
theorem shown_len {ns : List Int} (h : ∀ n ∈ ns, 0 ≤ n ∧ n ≤ 9) (hl : ns.length ≤ 1000) : (dI ns).shown.length ≤ sizeLine := by
  have e : (dI ns).shown = textFrom 0 "[" (ns.map fun n => Str.ofString (toString n)) ++ "]" := by
    unfold dI
    simp only [PyData.shown, shownAll_map]
    rfl
  have e1 := text_len ns 0 "[" h
  have e2 : ((("[" : String) : Str)).length = 1 := rfl
  have e3 : ((("]" : String) : Str)).length = 1 := rfl
  rw [e, strLen_append]
  have : (3002 : Nat) ≤ sizeLine := by decide
  omega
theorem show_ints : ∀ {ns : List Int}, (∀ n ∈ ns, 0 ≤ n ∧ n ≤ 9) → PyData.showableAll (ns.map PyData.int) = true
  | [], _ => rfl
  | n :: ns, h => by
    rw [List.map_cons]
    obtain ⟨h0, h9⟩ := h n List.mem_cons_self
    have e : n.natAbs.log2 < 1920 := by
      have h1 : n.natAbs < 2 ^ 4 := by omega
      have := PySem.Flt.log2_lt_of (by decide : 0 < 4) h1
      omega
    simp only [PyData.showableAll, PyData.showable, decide_eq_true e, Bool.true_and]
    exact show_ints fun m hm => h m (List.mem_cons_of_mem _ hm)
theorem nodict_ints (ns : List Int) : (dI ns).hasDict = false := PyData.hasDict_of_canLay _ (by unfold dI; simp only [PyData.canLay0, lay_ints])
end PD

namespace PD
open PySem PySem.Spec PyProof.Rows L2
/-! ### a dict comprehension whose keys are tuples -/
theorem put_tup {X : Cx} {pins : List (Addr × Obj)} {σ : L2.St} {G : Hp} {z : Shared} {E : Value → Shared → Prop} {d b : Addr} {kvs : List (List Key × V)} {k : List Key} {v : V} {r : Value} {Q : Unit → Shared → Prop} (hu : X.A.units < cLine)
    (I : Inv X pins σ G z) (hd : G d = some (.dT kvs)) (hb : G b = some (.tup (k.map kV))) (hz : kvs.length < sizeLine) (rv : RelV v r) (h : ∀ z', Inv X pins σ (upd G d (.dT (putK kvs k v))) z' → Q () z') :
    wpAny (model X.prog X.w) X.A (dictSet d (.ref b) r) Q E z := by
  obtain ⟨y, ns, xs, rel, dd⟩ := dt_of I.hok hd
  have few : xs.length ≤ sizeLine := by
    rw [← Paired.length rel]
    exact y
  have more : (putK kvs k v).length ≤ sizeLine := by
    have := length_putK kvs k v
    omega
  refine wpAny_dictSet_heap (hsz := few) hu (key_of I.hok hb) dd ?_
  intro h' dd' hs
  obtain ⟨q, es, ep, hq, h2, h3, h4, -, h5⟩ := dd'
  refine h _ (d_write I (by rw [hd]; exact True.intro) hs ⟨q, hq⟩ ⟨more, ns, _, (rel.put k hb rv).keeps ?_, q, es, ep, hq, h2, h3, h4, h5⟩)
  intro c ys ec
  rw [upd_ne (ne_of ec hd (fun t => nomatch t))]
  exact ec
section
variable {X : Cx}
def tDcT (wi : TI) (g : TG) (tt : TT) (tk tv : TE) (vs : List Nat) : TE := fun σ G Q => wi σ G fun J G1 => ∀ D, G1 D = none → ∃ W : Nat → Nat → Hp → Prop, (∃ m, W 0 m (upd G1 D (.dT []))) ∧
  ∀ i m G, W i m G → (J.stop i G ∧ Q (.ref D) G) ∨ (J.go i G ∧ ∃ Nx : Hp → Prop, (∀ G', Nx G' → ∃ m', m' < m ∧ W (i + 1) m' G') ∧
    ∀ x G', J.yld i G x G' → g x (wipe σ vs) G' fun σ2 G2 => wipe σ2 vs = wipe σ vs ∧ tt σ2 G2 fun b G3 =>
      if b = true then tk σ2 G3 fun y G4 => tv σ2 G4 fun u G5 => ∃ kvs k q, y = .ref q ∧ G5 q = some (.tup (k.map kV)) ∧ G5 D = some (.dT kvs) ∧ kvs.length < sizeLine ∧ Nx (upd G5 D (.dT (putK kvs k u))) else Nx G3)
theorem dcT_core {pins : List (Addr × Obj)} {z : Shared} {σ : L2.St} {G : Hp} {Q : VK} {kx vx tg iter : Expr} {ifs : List Expr} {scope : Scope} {own : List (Str × Nat)} {pos pos' : Pos} {wi : TI} {g : TG} {tt : TT} {tk tv : TE} {use : Option (Value → Sem Unit)} {Qf : Value → Shared → Prop}
    (hu : X.A.units < cLine) (hc : X.calm = true) (hN : X.N.Nodup) (I : Inv X pins σ G z) (hi : PI X tg iter wi) (ok : BlkOk X.N X.env.scope scope own)
    (hg : ∀ (z : Shared) (G : Hp) (C : Addr) (cl : List (Str × Addr)) (fp : List Addr), PG (X.blk z G scope (compEnvC scope cl C X.env) fp) tg g)
    (ht : ∀ (z : Shared) (G : Hp) (C : Addr) (cl : List (Str × Addr)) (fp : List Addr), PTs (X.blk z G scope (compEnvC scope cl C X.env) fp) ifs tt)
    (hk : ∀ (z : Shared) (G : Hp) (C : Addr) (cl : List (Str × Addr)) (fp : List Addr), PE (X.blk z G scope (compEnvC scope cl C X.env) fp) kx tk)
    (hv : ∀ (z : Shared) (G : Hp) (C : Addr) (cl : List (Str × Addr)) (fp : List Addr), PE (X.blk z G scope (compEnvC scope cl C X.env) fp) vx tv)
    (hs : ∀ x, foldedSetIterable iter X.env x = pure x) (h : tDcT wi g tt tk tv (own.map (·.2)) σ G Q)
    (last : ∀ D C z' m G', Inv X pins σ G' z' → Q (.ref D) G' → z'.heap.Ns C m → FpOk X pins G' C → compPost (model X.prog X.w) X.A X.xe use Qf (.ref D) C (.ok .next) z') :
    wpAny (model X.prog X.w) X.A (comprehension (.DictComp kx vx [⟨tg, iter, ifs, 0⟩] scope pos) scope X.env pos' newDict false (eval iter X.env) use) Qf X.xe z := by
  have clo : ∀ y ∈ scope.names, y.2 = .free → ∃ c, X.env.cells.lookup y.1 = some c := by
    intro y hy e
    exact I.ok.has _ (ok.free y hy e)
  refine wpAny_comprehension_free (use := use) rfl hs (closure_ok clo) ok.kind (fun y hy e => by rw [ok.uniq y hy, e]) (thn (hi.run pins z σ G _ I h) fun xv z1 hx => thn hx ?_)
  rintro itv z2 ⟨it, fp, tn, J, G2, rfl, I2, T, st2, f2, q⟩
  refine wpAny_newObj_type (newEnv_comp ?_)
  generalize eD : z2.heap.objs.size = D
  obtain ⟨W, ⟨m0, w0⟩, turn⟩ := q D (I2.hok.fresh (Nat.le_of_eq eD))
  generalize ez3 : ({ z2 with heap := z2.heap.push { cls := .type "dict", data := .dict #[] } } : Shared) = z3
  have e3 : z3.heap = z2.heap.push { cls := .type "dict", data := .dict #[] } := by rw [← ez3]
  have I3 : Inv X pins σ (upd G2 D (.dT [])) z3 := by
    rw [← ez3]
    refine I2.laid (t' := z2.toks) (fun b o e => Heap.get?_push_of_some _ e) (Nat.le_of_eq eD) ?_
    rw [← eD]
    exact dt_empty z2.heap I2.big
  have lt2 : ∀ b ∈ fp, b < z2.heap.objs.size := by
    intro b hb
    obtain ⟨o, e, _⟩ := T.obj _ _ st2 b hb
    exact Heap.lt_size e
  have f3 : ∀ b ∈ fp, FpOk X pins (upd G2 D (.dT [])) b ∧ b < z3.heap.objs.size := by
    intro b hb
    have lt := lt2 b hb
    constructor
    · refine ⟨?_, (f2 b hb).2⟩
      rw [upd_ne (by rw [← eD]; exact Nat.ne_of_lt lt)]
      exact (f2 b hb).1
    · rw [e3, Heap.size_push]
      exact Nat.lt_succ_of_lt lt
  have st3 : tn 0 z3.heap := T.keep _ _ _ st2 (by intro b _ o e; rw [e3]; exact Heap.get?_push_of_some _ e)
  have I4 := block_start I3 ok hN f3
  have pg := hg z3 (upd G2 D (.dT [])) z3.heap.objs.size (cellsFrom (z3.heap.objs.size + 1) scope.names (cloFrom X.env.cells scope.names [])) fp
  have pt := ht z3 (upd G2 D (.dT [])) z3.heap.objs.size (cellsFrom (z3.heap.objs.size + 1) scope.names (cloFrom X.env.cells scope.names [])) fp
  have pk := hk z3 (upd G2 D (.dT [])) z3.heap.objs.size (cellsFrom (z3.heap.objs.size + 1) scope.names (cloFrom X.env.cells scope.names [])) fp
  have pw := hv z3 (upd G2 D (.dT [])) z3.heap.objs.size (cellsFrom (z3.heap.objs.size + 1) scope.names (cloFrom X.env.cells scope.names [])) fp
  have nfp : ∀ b ∈ fp, (upd G2 D (.dT [])) b = none := fun b hb => (f3 b hb).1.1
  refine (?_ : codeAny _ _ (.compStart (.DictComp kx vx [⟨tg, iter, ifs, 0⟩] scope pos) 0 (.ref it) (.ref D) (compEnvC scope (cellsFrom (z3.heap.objs.size + 1) scope.names (cloFrom X.env.cells scope.names [])) z3.heap.objs.size X.env)) _ { z3 with heap := pushCells (z3.heap.push { cls := .type "dict", data := .dict #[] }) scope.names })
  generalize ece : compEnvC scope (cellsFrom (z3.heap.objs.size + 1) scope.names (cloFrom X.env.cells scope.names [])) z3.heap.objs.size X.env = ce at I4 pg pt pk pw ⊢
  have cl : ce.locals = z3.heap.objs.size := by
    subst ece
    rfl
  generalize eG3 : upd G2 D (.dT []) = G3 at I3 I4 pg pt pk pw w0 nfp f3
  generalize ez4 : ({ z3 with heap := pushCells (z3.heap.push { cls := .type "dict", data := .dict #[] }) scope.names } : Shared) = z4 at I4 ⊢
  have st4 : tn 0 z4.heap := T.keep _ _ _ st3 (by intro b _ o e; rw [← ez4]; exact pushCells_keeps _ _ _ _ (Heap.get?_push_of_some _ e))
  have stat : ∀ {σ' : L2.St} {G' : Hp} {z' : Shared}, Inv (X.blk z3 G3 scope ce fp) [] σ' G' z' → (∀ b ∈ fp, G' b = none) → ∀ b ∈ fp, FpOk (X.blk z3 G3 scope ce fp) [] G' b := by
    intro σ' G' z' J' hn b hb
    exact ⟨hn b hb, (J'.ok.exf b hb).1, J'.ok.exfs b hb, .inl hb, fun x c e => (J'.ok.exf b hb).2 x c e, fun p hp => absurd (show p ∈ ([] : List (Addr × Obj)) ++ [] from hp) (by simp)⟩
  have loop : codeAny (model X.prog X.w) X.A (.compLoop (.DictComp kx vx [⟨tg, iter, ifs, 0⟩] scope pos) 0 (.ref it) (.ref D) ce) (compPost (model X.prog X.w) X.A X.xe use Qf (.ref D) z3.heap.objs.size) z4 := by
    refine compLoop_anyD (fun n z' => ∃ i G', Inv (X.blk z3 G3 scope ce fp) [] (wipe σ (own.map (·.2))) G' z' ∧ tn i z'.heap ∧ (∀ b ∈ fp, G' b = none) ∧ W i n G') ?_ m0 ⟨0, G3, I4, st4, nfp, w0⟩
    rintro n z5 ⟨i, G5, I5, st5, n5, w5⟩
    rcases turn i n G5 w5 with ⟨stop, qq⟩ | ⟨go, Nx, hNx, step⟩
    · refine thnF (T.done (X.blk z3 G3 scope ce fp) rfl rfl rfl hc i [] z5 _ G5 (fun _ _ => False) I5 (stat I5 n5) st5 stop) ?_
      rintro r z6 ⟨rfl, I6⟩
      have I7 : Inv X pins σ G5 z6 := I3.call' (ch := fp) I6.os I6.base I6.hok I6.bare fun b hb => let y := (f3 b hb).1.2; ⟨y.2.2.1, y.1, y.2.2.2.1, y.2.2.2.2⟩
      have nC : G5 z3.heap.objs.size = none := by
        have t : G5 ce.locals = none := I6.free
        rwa [cl] at t
      obtain ⟨m, hn, _⟩ := I6.loc
      have hn2 : z6.heap.Ns ce.locals m := hn
      rw [cl] at hn2
      exact last D z3.heap.objs.size z6 m G5 I7 qq hn2 (I3.fpOk (Nat.le_refl _) nC)
    · refine thnF (T.item (X.blk z3 G3 scope ce fp) rfl rfl rfl hc i [] z5 _ G5 (fun _ _ => False) I5 (stat I5 n5) st5 go) ?_
      rintro r z6 ⟨u, rfl, h6⟩
      refine thnF h6 ?_
      rintro _ z7 ⟨x, G7, I7, r7, y7, st7, n7⟩
      refine thnF (pg.run _ z7 _ G7 x u _ (I7.pinned (stat I7 n7) (T.obj _ _ st7)) r7 (step x G7 y7)) ?_
      rintro _ z8 ⟨σ8, G8, I8, hw8, q8⟩
      refine thnF (pt.run _ z8 σ8 G8 _ I8 q8) ?_
      rintro b z9 ⟨G9, I9, q9⟩
      have fin : ∀ {z' : Shared} {G' : Hp}, Inv (X.blk z3 G3 scope ce fp) ([] ++ pinsAt fp z7.heap) σ8 G' z' → Nx G' →
          ∃ m, m < n ∧ ∃ i G', Inv (X.blk z3 G3 scope ce fp) [] (wipe σ (own.map (·.2))) G' z' ∧ tn i z'.heap ∧ (∀ b ∈ fp, G' b = none) ∧ W i m G' := by
        intro z' G' J' nx
        obtain ⟨m', hm, w'⟩ := hNx G' nx
        have kept : ∀ b ∈ fp, ∀ o, z7.heap.get? b = some o → z'.heap.get? b = some o ∧ G' b = none := by
          intro b hb o e
          have y := J'.pin (b, o) (List.mem_append_right _ (List.mem_append_right _ (mem_pinsAt hb e)))
          exact ⟨y.1, y.2.1⟩
        have hl : (wipe σ (own.map (·.2))).length = σ8.length := by
          rw [← hw8, wipe_length]
        refine ⟨m', hm, i + 1, G', (J'.unpinned (pins := [])).weak hl ?_, T.keep _ _ _ st7 (fun b hb o e => (kept b hb o e).1), ?_, w'⟩
        · intro j v e
          rw [← hw8] at e
          exact (wipe_some e).1
        · intro b hb
          obtain ⟨o, e, _⟩ := T.obj _ _ st7 b hb
          exact (kept b hb o e).2
      cases b with
      | false => exact fin I9 q9
      | true =>
        refine thnF (pk.run _ z9 σ8 G9 _ I9 q9) ?_
        rintro kv z10 ⟨yk, G10, I10, r10, q10⟩
        refine thnF (pw.run _ z10 σ8 G10 _ I10 q10) ?_
        rintro vv z11 ⟨yv, G11, I11, r11, kvs, k, b, rfl, hb, hD, hz, nx⟩
        cases (show kv = Value.ref b from r10)
        exact put_tup (X := X.blk z3 G3 scope ce fp) hu I11 hD hb hz r11 fun z12 I12 => fin I12 nx
  exact codeAny_compStart_dict loop (T.self X.A 0 _ _ _ st4 loop)
theorem pe_dcT {kx vx tg iter : Expr} {ifs : List Expr} {scope : Scope} {own : List (Str × Nat)} {pos : Pos} {wi : TI} {g : TG} {tt : TT} {tk tv : TE} (hu : X.A.units < cLine) (hc : X.calm = true) (hN : X.N.Nodup) (hi : PI X tg iter wi) (ok : BlkOk X.N X.env.scope scope own)
    (hg : ∀ (z : Shared) (G : Hp) (C : Addr) (cl : List (Str × Addr)) (fp : List Addr), PG (X.blk z G scope (compEnvC scope cl C X.env) fp) tg g)
    (ht : ∀ (z : Shared) (G : Hp) (C : Addr) (cl : List (Str × Addr)) (fp : List Addr), PTs (X.blk z G scope (compEnvC scope cl C X.env) fp) ifs tt)
    (hk : ∀ (z : Shared) (G : Hp) (C : Addr) (cl : List (Str × Addr)) (fp : List Addr), PE (X.blk z G scope (compEnvC scope cl C X.env) fp) kx tk)
    (hv : ∀ (z : Shared) (G : Hp) (C : Addr) (cl : List (Str × Addr)) (fp : List Addr), PE (X.blk z G scope (compEnvC scope cl C X.env) fp) vx tv)
    (hs : ∀ x, foldedSetIterable iter X.env x = pure x := by intro _; rfl) : PE X (.DictComp kx vx [⟨tg, iter, ifs, 0⟩] scope pos) (tDcT wi g tt tk tv (own.map (·.2))) := by
  constructor
  intro pins z σ G Q I h
  rw [arm_eval_DictComp]
  refine dcT_core hu hc hN I hi ok hg ht hk hv hs h ?_
  intro D C z' m G' I' q hn f
  refine ⟨m, hn, ?_⟩
  intro h'' sb
  obtain ⟨g0, g1, g2, g3, g4, g5⟩ := f
  exact ⟨.ref D, G', I'.turned (t' := z'.toks) (fun b o hb e => (sb.2 b hb).trans e) g0 g1 g3 g4 g5, rfl, q⟩
/-- name = {..} on one line, the name a local -/
theorem ps_setDcT {i : Nat} {y : Str} {py : Pos} {kx vx tg iter : Expr} {ifs : List Expr} {scope : Scope} {own : List (Str × Nat)} {pos spos : Pos} {wi : TI} {g : TG} {tt : TT} {tk tv : TE} (hu : X.A.units < cLine) (hc : X.calm = true) (hN : X.N.Nodup)
    (hy : X.N[i]? = some y) (hyl : X.env.scope.names.lookup y = some .local) (hsw : swapsWith (.DictComp kx vx [⟨tg, iter, ifs, 0⟩] scope pos) (some (.Name y py)) spos.line X.env = pure true) (hi : PI X tg iter wi) (ok : BlkOk X.N X.env.scope scope own)
    (hg : ∀ (z : Shared) (G : Hp) (C : Addr) (cl : List (Str × Addr)) (fp : List Addr), PG (X.blk z G scope (compEnvC scope cl C X.env) fp) tg g)
    (ht : ∀ (z : Shared) (G : Hp) (C : Addr) (cl : List (Str × Addr)) (fp : List Addr), PTs (X.blk z G scope (compEnvC scope cl C X.env) fp) ifs tt)
    (hk : ∀ (z : Shared) (G : Hp) (C : Addr) (cl : List (Str × Addr)) (fp : List Addr), PE (X.blk z G scope (compEnvC scope cl C X.env) fp) kx tk)
    (hv : ∀ (z : Shared) (G : Hp) (C : Addr) (cl : List (Str × Addr)) (fp : List Addr), PE (X.blk z G scope (compEnvC scope cl C X.env) fp) vx tv)
    (hs : ∀ x, foldedSetIterable iter X.env x = pure x := by intro _; rfl) :
    PS X (.Assign [.Name y py] (.DictComp kx vx [⟨tg, iter, ifs, 0⟩] scope pos) spos) (tAsg (tDcT wi g tt tk tv (own.map (·.2))) (gName i)) := by
  constructor
  intro pins z σ G D I h
  rw [exec_Assign_Name_used _ _ _ _ hsw]
  refine wpAny_bind (wpAny_standAt (wpAny_bind ?_))
  show wpAny _ X.A (do let _ ← comprehension (.DictComp kx vx [⟨tg, iter, ifs, 0⟩] scope pos) scope X.env (firstIterPos [⟨tg, iter, ifs, 0⟩] pos) newDict false (eval iter X.env) (some (assign (.Name y py) X.env))) _ _ z
  have h2 : tDcT wi g tt tk tv (own.map (·.2)) σ G (fun x G1 => gName i x σ G1 D.nx) := h
  refine wpAny_bind (thn (dcT_core (Qf := fun _ z' => SP X pins D .next z') hu hc hN I hi ok hg ht hk hv hs h2 ?_) fun _ z' hq => wpAny_pure (wpAny_pure hq))
  intro L C z' m G' I' q hn f
  show wpAny _ _ (assign (.Name y py) X.env (.ref L)) _ _ _
  refine wpAny_assign_Name (store_ok2 (v := V.ref L) I' hN hy (.inl hyl) rfl ?_ (.inr hyl))
  rintro z2 I2 ⟨b, sb, hb⟩
  obtain ⟨g0, g1, g2, g3, g4, g5⟩ := f
  have apart : C ≠ b := by
    cases hb with
    | inl e => rw [e]; exact g1
    | inr e => exact fun t => g4 y b e t.symm
  refine ⟨m, hn.sameBut sb apart, ?_⟩
  intro h3 sb3
  exact ⟨_, G', I2.turned (t' := z2.toks) (fun c o hb e => (sb3.2 c hb).trans e) g0 g1 g3 g4 g5, q⟩
theorem swD {kx vx : Expr} {gs : List Comprehension} {scope : Scope} {pos py : Pos} {y : Str} {l : Nat} {env : Env} (hk : env.scope.kind = .function) (hy : env.scope.names.lookup y = some .local) (hl : (py.line == pos.line) = true)
    (ha : (scope.names.any fun (n, k) => n == y && (k == .local || k == .cell)) = false) : swapsWith (.DictComp kx vx gs scope pos) (some (.Name y py)) l env = pure true := by
  have k1 : env.kindOf y = some .local := hy
  have k2 : env.blockKind = .function := by
    unfold Env.blockKind
    rw [hk]
    rfl
  unfold swapsWith
  simp only [k2, k1, ha, Expr.pos, hl]
  rfl
/-- over a walk -/
theorem dcT_it {J : It} {n : Nat} {Gd : Hp → Prop} {Y : Nat → Hp → V → Hp → Prop} (wk : Walk J n Gd Y) {g : TG} {tt : TT} {tk tv : TE} {vs : List Nat} {σ : L2.St} {G1 : Hp} {D : Addr} {Qd : Hp → Prop} (Pv : Nat → Hp → Prop) (h0 : Pv 0 (upd G1 D (.dT []))) (hG : ∀ i G, i ≤ n → Pv i G → Gd G)
    (hs : ∀ i x G G', i < n → Pv i G → Y i G x G' → g x (wipe σ vs) G' fun σ2 G2 => wipe σ2 vs = wipe σ vs ∧ tt σ2 G2 fun b G3 =>
      if b = true then tk σ2 G3 fun y G4 => tv σ2 G4 fun u G5 => ∃ kvs k q, y = .ref q ∧ G5 q = some (.tup (k.map kV)) ∧ G5 D = some (.dT kvs) ∧ kvs.length < sizeLine ∧ Pv (i + 1) (upd G5 D (.dT (putK kvs k u))) else Pv (i + 1) G3) (hd : ∀ G, Pv n G → Qd G) :
    ∃ W : Nat → Nat → Hp → Prop, (∃ m, W 0 m (upd G1 D (.dT []))) ∧ ∀ i m G, W i m G → (J.stop i G ∧ Qd G) ∨ (J.go i G ∧ ∃ Nx : Hp → Prop, (∀ G', Nx G' → ∃ m', m' < m ∧ W (i + 1) m' G') ∧
      ∀ x G', J.yld i G x G' → g x (wipe σ vs) G' fun σ2 G2 => wipe σ2 vs = wipe σ vs ∧ tt σ2 G2 fun b G3 =>
        if b = true then tk σ2 G3 fun y G4 => tv σ2 G4 fun u G5 => ∃ kvs k q, y = .ref q ∧ G5 q = some (.tup (k.map kV)) ∧ G5 D = some (.dT kvs) ∧ kvs.length < sizeLine ∧ Nx (upd G5 D (.dT (putK kvs k u))) else Nx G3) := by
  refine ⟨fun i m G => m = n - i ∧ i ≤ n ∧ Pv i G, ⟨n, by simp, Nat.zero_le _, h0⟩, ?_⟩
  rintro i m G ⟨rfl, hi, p⟩
  by_cases lt : i < n
  · exact .inr ⟨wk.goes i G lt (hG i G hi p), Pv (i + 1), fun G' p' => ⟨n - (i + 1), by omega, rfl, lt, p'⟩, fun x G' y => hs i x G G' lt p (wk.yields i G x G' lt (hG i G hi p) y)⟩
  · obtain rfl : i = n := by omega
    exact .inl ⟨wk.stops G (hG i G hi p), hd G p⟩
end
end PD

namespace PD
open PySem PySem.Spec PyProof.Rows L2
theorem un65 {k : Nat} {A : Around} (hr : Room k A) : A.units + 65 < cLine := by
  have := hr.un
  omega
/-! ### pairs of numbers on the heap -/
abbrev Pr := Int × Int
def PrV (H : Hp) (v : V) (q : Pr) : Prop := ∃ p, v = .ref p ∧ H p = some (.tup [.int q.1, .int q.2])
theorem PrV.same {H H' : Hp} (s : Same H H') {v : V} {q : Pr} (h : PrV H v q) : PrV H' v q := let ⟨p, a, b⟩ := h; ⟨p, a, s _ _ b⟩
theorem PrV.upd {H : Hp} {v : V} {q : Pr} {p : Addr} {u o : HO} (h : PrV H v q) (hp : H p = some u) (n : ∀ xs, u ≠ .tup xs) : PrV (upd H p o) v q := by
  obtain ⟨b, e, hb⟩ := h
  exact ⟨b, e, by rw [upd_ne (ne_of hb hp (fun z => n _ z.symm))]; exact hb⟩
/-- values that stand for things, one by one -/
structure All2 {α : Type} (F : V → α → Prop) (vs : List V) (xs : List α) : Prop where
  len : vs.length = xs.length
  each : ∀ (i : Nat) (x : α), xs[i]? = some x → ∃ v, vs[i]? = some v ∧ F v x
theorem All2.mono {α : Type} {F G : V → α → Prop} {vs : List V} {xs : List α} (h : All2 F vs xs) (f : ∀ v x, F v x → G v x) : All2 G vs xs := ⟨h.len, fun i x e => let ⟨v, a, b⟩ := h.each i x e; ⟨v, a, f v x b⟩⟩
theorem All2.nil {α : Type} {F : V → α → Prop} : All2 F [] [] := ⟨rfl, fun i c e => by simp at e⟩
theorem All2.cons {α : Type} {F : V → α → Prop} {v : V} {x : α} {vs : List V} {xs : List α} (h : F v x) (r : All2 F vs xs) : All2 F (v :: vs) (x :: xs) := by
  refine ⟨by rw [List.length_cons, List.length_cons, r.len], fun i d e => ?_⟩
  cases i with
  | zero =>
    cases (Option.some.inj e)
    exact ⟨v, rfl, h⟩
  | succ i => exact r.each i d e
theorem All2.tail {α : Type} {F : V → α → Prop} {v : V} {x : α} {vs : List V} {xs : List α} (h : All2 F (v :: vs) (x :: xs)) : F v x ∧ All2 F vs xs := by
  obtain ⟨u, e1, e2⟩ := h.each 0 x rfl
  cases (Option.some.inj e1)
  exact ⟨e2, by have := h.len; simpa using this, fun i d e => h.each (i + 1) d e⟩
theorem All2.app {α : Type} {F : V → α → Prop} : ∀ {vs ws : List V} {xs ys : List α}, All2 F vs xs → All2 F ws ys → All2 F (vs ++ ws) (xs ++ ys)
  | [], ws, [], ys, _, h => h
  | [], _, _ :: _, _, h, _ => by have := h.len; simp at this
  | _ :: _, _, [], _, h, _ => by have := h.len; simp at this
  | v :: vs, ws, x :: xs, ys, h, h' => by
    obtain ⟨a, b⟩ := h.tail
    exact .cons a (b.app h')
theorem All2.at {α : Type} {F : V → α → Prop} {vs : List V} {xs : List α} (h : All2 F vs xs) {i : Nat} {v : V} (e : vs[i]? = some v) : ∃ x, xs[i]? = some x ∧ F v x := by
  have hi : i < xs.length := by
    rw [← h.len]
    exact (List.getElem?_eq_some_iff.mp e).1
  obtain ⟨u, e1, e2⟩ := h.each i xs[i] (List.getElem?_eq_getElem hi)
  cases (Option.some.inj (e.symm.trans e1))
  exact ⟨_, List.getElem?_eq_getElem hi, e2⟩
abbrev Prs (H : Hp) (vs : List V) (ps : List Pr) : Prop := All2 (PrV H) vs ps
def PrsAt (H : Hp) (a : Addr) (ps : List Pr) : Prop := ∃ vs, H a = some (.lst vs) ∧ Prs H vs ps
theorem PrsAt.same {H H' : Hp} (s : Same H H') {a : Addr} {ps : List Pr} (h : PrsAt H a ps) : PrsAt H' a ps := let ⟨vs, x, y⟩ := h; ⟨vs, s _ _ x, y.mono fun _ _ z => z.same s⟩
def RwsAt (H : Hp) (a : Addr) (rows : List (List Pr)) : Prop := ∃ vs, H a = some (.lst vs) ∧ All2 (fun v row => ∃ r, v = .ref r ∧ PrsAt H r row) vs rows
theorem RwsAt.same {H H' : Hp} (s : Same H H') {a : Addr} {rows : List (List Pr)} (h : RwsAt H a rows) : RwsAt H' a rows := let ⟨vs, x, y⟩ := h; ⟨vs, s _ _ x, y.mono fun _ _ ⟨r, z, u⟩ => ⟨r, z, u.same s⟩⟩
/-! ### pairs as keys -/
def kk (q : Pr) : List Key := [Sum.inl q.1, Sum.inl q.2]
theorem kk_inj {p q : Pr} (h : kk p = kk q) : p = q := by
  unfold kk at h
  injection h with h1 h2
  injection h2 with h3 _
  exact Prod.ext (Sum.inl.inj h1) (Sum.inl.inj h3)
theorem kk_tup {H : Hp} {b : Addr} {q : Pr} (h : H b = some (.tup [.int q.1, .int q.2])) : H b = some (.tup ((kk q).map kV)) := h
def dk {α : Type} (f : α → V) (l : List (Pr × α)) : List (List Key × V) := l.map fun x => (kk x.1, f x.2)
theorem dk_get {α : Type} (f : α → V) (q : Pr) : ∀ l : List (Pr × α), valV (dk f l) (kk q) = (l.lookup q).map f
  | [] => rfl
  | (p, x) :: l => by
    have ih := dk_get f q l
    by_cases h : p = q
    · subst h
      show valV ((kk p, f x) :: dk f l) (kk p) = _
      rw [valV_pos rfl]
      simp [List.lookup]
    · show valV ((kk p, f x) :: dk f l) (kk q) = _
      rw [valV_neg (fun e => h (kk_inj e)), ih]
      have hb : (q == p) = false := beq_eq_false_iff_ne.mpr fun e => h e.symm
      simp [List.lookup, hb]
theorem dk_put {α : Type} (f : α → V) (q : Pr) (x : α) (l : List (Pr × α)) (h : l.lookup q = none) : putK (dk f l) (kk q) (f x) = dk f (l ++ [(q, x)]) := by
  have h2 : valV (dk f l) (kk q) = none := by
    rw [dk_get, h]
    rfl
  rw [putK_new _ h2]
  unfold dk
  rw [List.map_append]
  rfl
theorem lookup_none {α : Type} {q : Pr} : ∀ {l : List (Pr × α)}, l.lookup q = none ↔ q ∉ l.map (·.1)
  | [] => by simp
  | (p, x) :: l => by
    by_cases h : q = p
    · subst h
      simp [List.lookup]
    · have hb : (q == p) = false := beq_eq_false_iff_ne.mpr h
      simp [List.lookup, hb, lookup_none (l := l), h]
theorem lookup_snoc {α : Type} {q p : Pr} {x : α} : ∀ {l : List (Pr × α)}, (l ++ [(p, x)]).lookup q = match l.lookup q with | some y => some y | none => if q = p then some x else none
  | [] => by
    by_cases h : q = p
    · subst h
      simp [List.lookup]
    · have hb : (q == p) = false := beq_eq_false_iff_ne.mpr h
      simp [List.lookup, hb, h]
  | (r, y) :: l => by
    by_cases h : q = r
    · subst h
      simp [List.lookup]
    · have hb : (q == r) = false := beq_eq_false_iff_ne.mpr h
      have ih := lookup_snoc (q := q) (p := p) (x := x) (l := l)
      simp only [List.cons_append, List.lookup, hb]
      exact ih
/-! ### pairs as data -/
def dP (q : Pr) : PyData := .tuple [.int q.1, .int q.2]
section
variable {K : PySem.W.Frag} {H : Hp}
theorem dp_pr {v : V} {q : Pr} (h : PrV H v q) : Dp K H v (dP q) := by
  obtain ⟨p, rfl, e⟩ := h
  exact .tup (SqT.of e) (.cons (.int _) (.cons (.int _) .nil))
theorem dpa_prs : ∀ {vs : List V} {ps : List Pr}, Prs H vs ps → DpAll K H vs (ps.map dP)
  | [], [], _ => .nil
  | [], _ :: _, h => by have := h.len; simp at this
  | _ :: _, [], h => by have := h.len; simp at this
  | v :: vs, q :: ps, h => by
    obtain ⟨a, b⟩ := h.tail
    exact .cons (dp_pr a) (dpa_prs b)
def dPs (ps : List Pr) : PyData := .list (ps.map dP)
theorem dp_prs {a : Addr} {ps : List Pr} (h : PrsAt H a ps) : Dp K H (.ref a) (dPs ps) := let ⟨vs, x, y⟩ := h; .lst (SqL.of x) (dpa_prs y)
theorem dpa_rws : ∀ {vs : List V} {rows : List (List Pr)}, All2 (fun v row => ∃ r, v = .ref r ∧ PrsAt H r row) vs rows → DpAll K H vs (rows.map dPs)
  | [], [], _ => .nil
  | [], _ :: _, h => by have := h.len; simp at this
  | _ :: _, [], h => by have := h.len; simp at this
  | v :: vs, q :: ps, h => by
    obtain ⟨⟨r, e, a⟩, b⟩ := h.tail
    rw [e]
    exact .cons (dp_prs a) (dpa_rws b)
def dRs (rows : List (List Pr)) : PyData := .list (rows.map dPs)
theorem dp_rws {a : Addr} {rows : List (List Pr)} (h : RwsAt H a rows) : Dp K H (.ref a) (dRs rows) := let ⟨vs, x, y⟩ := h; .lst (SqL.of x) (dpa_rws y)
end
theorem lay_prs : ∀ ps : List Pr, PyData.canLayAll0 (ps.map dP) = true
  | [] => rfl
  | q :: ps => by
    rw [List.map_cons]
    simp only [PyData.canLayAll0, dP, PyData.canLay0, Bool.true_and]
    exact lay_prs ps
theorem depth_prs : ∀ ps : List Pr, PyData.depthAll (ps.map dP) ≤ 1
  | [] => by simp [PyData.depthAll]
  | q :: ps => by
    rw [List.map_cons]
    have := depth_prs ps
    simp only [PyData.depthAll, dP, PyData.depth]
    omega
theorem shaped_pr (q : Pr) : SeqAt.shaped (dP q) = true := by
  unfold SeqAt.shaped dP
  simp only [PyData.canLay0, PyData.canLayAll0, PyData.depth, PyData.depthAll]
  rfl
theorem shaped_prs (ps : List Pr) : SeqAt.shaped (dPs ps) = true := by
  unfold SeqAt.shaped
  rw [Bool.and_eq_true]
  refine ⟨?_, decide_eq_true ?_⟩
  · unfold dPs
    simp only [PyData.canLay0, lay_prs]
  · unfold dPs
    simp only [PyData.depth]
    have := depth_prs ps
    omega
theorem lay_rws : ∀ rows : List (List Pr), PyData.canLayAll0 (rows.map dPs) = true
  | [] => rfl
  | q :: ps => by
    rw [List.map_cons]
    simp only [PyData.canLayAll0, dPs, PyData.canLay0, lay_prs, Bool.true_and]
    exact lay_rws ps
theorem depth_rws : ∀ rows : List (List Pr), PyData.depthAll (rows.map dPs) ≤ 2
  | [] => by simp [PyData.depthAll]
  | q :: ps => by
    rw [List.map_cons]
    have := depth_rws ps
    have := depth_prs q
    simp only [PyData.depthAll, dPs, PyData.depth]
    omega
theorem shaped_rws (rows : List (List Pr)) : SeqAt.shaped (dRs rows) = true := by
  unfold SeqAt.shaped
  rw [Bool.and_eq_true]
  refine ⟨?_, decide_eq_true ?_⟩
  · unfold dRs
    simp only [PyData.canLay0, lay_rws]
  · unfold dRs
    simp only [PyData.depth]
    have := depth_rws rows
    omega
theorem eqv_pr (p q : Pr) : PyData.eqv (dP p) (dP q) = decide (p = q) := by
  unfold dP
  simp only [PyData.eqv, PyData.eqvAll, Bool.and_true]
  by_cases h : p = q
  · subst h
    simp
  · rw [decide_eq_false h]
    by_cases h1 : p.1 = q.1
    · have h2 : ¬ p.2 = q.2 := fun e => h (Prod.ext h1 e)
      simp [h2]
    · simp [h1]
theorem eqva_prs : ∀ ps qs : List Pr, PyData.eqvAll (ps.map dP) (qs.map dP) = decide (ps = qs)
  | [], [] => rfl
  | [], _ :: _ => rfl
  | _ :: _, [] => rfl
  | p :: ps, q :: qs => by
    rw [List.map_cons, List.map_cons]
    simp only [PyData.eqvAll, eqv_pr, eqva_prs ps qs]
    by_cases h1 : p = q
    · by_cases h2 : ps = qs
      · simp [h1, h2]
      · simp [h1, h2]
    · simp [h1]
theorem eqva_rws : ∀ rs qs : List (List Pr), PyData.eqvAll (rs.map dPs) (qs.map dPs) = decide (rs = qs)
  | [], [] => rfl
  | [], _ :: _ => rfl
  | _ :: _, [] => rfl
  | p :: ps, q :: qs => by
    rw [List.map_cons, List.map_cons]
    have e : PyData.eqv (dPs p) (dPs q) = decide (p = q) := by
      unfold dPs
      simp only [PyData.eqv, eqva_prs]
    simp only [PyData.eqvAll, e, eqva_rws ps qs]
    by_cases h1 : p = q
    · by_cases h2 : ps = qs
      · simp [h1, h2]
      · simp [h1, h2]
    · simp [h1]
theorem any_prs (q : Pr) : ∀ ps : List Pr, ((ps.map dP).any fun z => PyData.eqv z (dP q)) = decide (q ∈ ps)
  | [] => by simp
  | p :: ps => by
    rw [List.map_cons, List.any_cons, any_prs q ps, eqv_pr]
    by_cases h : p = q
    · subst h
      simp
    · have h2 : ¬ q = p := fun e => h e.symm
      by_cases h3 : q ∈ ps
      · simp [h3]
      · simp [h, h2, h3]
end PD

namespace PD
open PySem PySem.Spec PyProof.Rows L2
/-! ### rounds, as mathematics -/
structure OldOk (fr : List Int) (ps : List Pr) : Prop where
  nd : ps.Nodup
  each : ∀ q ∈ ps, 0 ≤ q.1 ∧ q.1 ≤ 5 ∧ 1 ≤ q.2 ∧ q.2 ≤ (fr.length : Int)
  few : ps.length ≤ 100
def upQ (fr : List Int) (q : Pr) : Pr := (q.1, (up fr q.2.toNat : Int))
def depN (fr : List Int) (ps : List Pr) : Nat → Pr → Nat
  | 0, _ => 0
  | n + 1, q => if upQ fr q ∈ ps then depN fr ps n (upQ fr q) + 1 else 0
def dep (fr : List Int) (ps : List Pr) (q : Pr) : Nat := depN fr ps q.2.toNat q
section
variable {fr : List Int} {ps : List Pr}
theorem upQ_lt (fo : FrOk fr) {q : Pr} (h1 : 1 ≤ q.2) (h2 : q.2 ≤ (fr.length : Int)) : (upQ fr q).2.toNat < q.2.toNat := by
  have := up_lt fo (t := q.2.toNat) (by omega) (by omega)
  unfold upQ
  simp only [Int.toNat_natCast]
  exact this
theorem depN_more (fo : FrOk fr) (oo : OldOk fr ps) : ∀ (n m : Nat) (q : Pr), 1 ≤ q.2 → q.2 ≤ (fr.length : Int) → q.2.toNat ≤ n → q.2.toNat ≤ m → depN fr ps n q = depN fr ps m q := by
  intro n
  induction n with
  | zero =>
    intro m q h1 _ h3
    omega
  | succ n ih =>
    intro m q h1 h2 h3 h4
    obtain ⟨m, rfl⟩ : ∃ k, m = k + 1 := ⟨m - 1, by omega⟩
    unfold depN
    by_cases hm : upQ fr q ∈ ps
    · rw [if_pos hm, if_pos hm]
      have := upQ_lt fo h1 h2
      obtain ⟨_, _, a, b⟩ := oo.each _ hm
      rw [ih m (upQ fr q) a b (by omega) (by omega)]
    · rw [if_neg hm, if_neg hm]
theorem dep_step (fo : FrOk fr) (oo : OldOk fr ps) {q : Pr} (h1 : 1 ≤ q.2) (h2 : q.2 ≤ (fr.length : Int)) : dep fr ps q = if upQ fr q ∈ ps then dep fr ps (upQ fr q) + 1 else 0 := by
  unfold dep
  obtain ⟨n, hn⟩ : ∃ n, q.2.toNat = n + 1 := ⟨q.2.toNat - 1, by omega⟩
  rw [hn]
  show (if upQ fr q ∈ ps then depN fr ps n (upQ fr q) + 1 else 0) = _
  by_cases hm : upQ fr q ∈ ps
  · rw [if_pos hm, if_pos hm]
    have := upQ_lt fo h1 h2
    obtain ⟨_, _, a, b⟩ := oo.each _ hm
    rw [depN_more fo oo n (upQ fr q).2.toNat (upQ fr q) a b (by omega) (Nat.le_refl _)]
  · rw [if_neg hm, if_neg hm]
end
/-- how many old ones are of that depth or more -/
def deepC (fr : List Int) (ps : List Pr) (d : Int) : Nat := (ps.filter fun q => decide (d ≤ (dep fr ps q : Int))).length
def need (fr : List Int) (ps : List Pr) (hands d : Int) : Int := if deepC fr ps d = 0 then 0 else d + ((deepC fr ps d : Int) + hands - 1).fdiv hands
/-! ### the round of each -/
abbrev Wh := List (Pr × Nat)
def wStep (ps : List Pr) (at_ : Nat) (acc : Wh) (q : Pr) : Option Wh := if q ∈ ps ∧ acc.lookup q = none then some (acc ++ [(q, at_)]) else none
def wRow (ps : List Pr) (at_ : Nat) : List Pr → Wh → Option Wh
  | [], acc => some acc
  | q :: r, acc => (wStep ps at_ acc q).bind (wRow ps at_ r)
def sizeOk (hands : Int) (row : List Pr) : Bool := decide (1 ≤ (row.length : Int)) && decide ((row.length : Int) ≤ hands)
def wAll (ps : List Pr) (hands : Int) : Nat → List (List Pr) → Wh → Option Wh
  | _, [], acc => some acc
  | n, row :: rows, acc => if sizeOk hands row then (wRow ps n row acc).bind (wAll ps hands (n + 1) rows) else none
/-- what holds of what is gathered: keys are old ones, none twice -/
structure WOk (ps : List Pr) (acc : Wh) : Prop where
  nd : (acc.map (·.1)).Nodup
  sub : ∀ q ∈ acc.map (·.1), q ∈ ps
theorem WOk.step {ps : List Pr} {n : Nat} {acc acc' : Wh} {q : Pr} (h : WOk ps acc) (e : wStep ps n acc q = some acc') : WOk ps acc' := by
  unfold wStep at e
  split at e
  · rename_i c
    cases (Option.some.inj e)
    obtain ⟨c1, c2⟩ := c
    have c3 := lookup_none.mp c2
    refine ⟨?_, ?_⟩
    · rw [List.map_append, List.nodup_append]
      refine ⟨h.nd, by simp, ?_⟩
      intro a ha b hb
      have : b = q := by simpa using hb
      rw [this]
      exact fun z => c3 (z ▸ ha)
    · intro p hp
      rw [List.map_append] at hp
      rcases List.mem_append.mp hp with z | z
      · exact h.sub p z
      · have : p = q := by simpa using z
        rw [this]
        exact c1
  · cases e
theorem WOk.row {ps : List Pr} {n : Nat} : ∀ {r : List Pr} {acc acc' : Wh}, WOk ps acc → wRow ps n r acc = some acc' → WOk ps acc'
  | [], acc, acc', h, e => by
    cases (Option.some.inj e)
    exact h
  | q :: r, acc, acc', h, e => by
    obtain ⟨b, e1, e2⟩ := Option.bind_eq_some_iff.mp (show (wStep ps n acc q).bind (wRow ps n r) = some acc' from e)
    exact (h.step e1).row e2
theorem WOk.all {ps : List Pr} {hands : Int} : ∀ {rows : List (List Pr)} {n : Nat} {acc acc' : Wh}, WOk ps acc → wAll ps hands n rows acc = some acc' → WOk ps acc'
  | [], n, acc, acc', h, e => by
    cases (Option.some.inj e)
    exact h
  | row :: rows, n, acc, acc', h, e => by
    unfold wAll at e
    split at e
    · obtain ⟨b, e1, e2⟩ := Option.bind_eq_some_iff.mp e
      exact (h.row e1).all e2
    · cases e
theorem WOk.nil {ps : List Pr} : WOk ps [] := ⟨by simp, fun q h => by simp at h⟩
theorem sub_len : ∀ {a b : List Pr}, a.Nodup → (∀ x ∈ a, x ∈ b) → a.length ≤ b.length
  | [], _, _, _ => Nat.zero_le _
  | x :: a, b, nd, h => by
    obtain ⟨n1, n2⟩ := List.nodup_cons.mp nd
    have hx := h x List.mem_cons_self
    have i := sub_len (a := a) (b := b.erase x) n2 fun y hy => by
      have hne : y ≠ x := fun e => n1 (e ▸ hy)
      exact (List.mem_erase_of_ne hne).mpr (h y (List.mem_cons_of_mem _ hy))
    rw [List.length_erase_of_mem hx] at i
    have : 0 < b.length := List.length_pos_of_mem hx
    rw [List.length_cons]
    omega
theorem sub_all {a b : List Pr} (na : a.Nodup) (nb : b.Nodup) (h : ∀ x ∈ a, x ∈ b) : a.length = b.length ↔ ∀ x ∈ b, x ∈ a := by
  constructor
  · intro e x hx
    by_cases hm : x ∈ a
    · exact hm
    · have i := sub_len (a := x :: a) (b := b) (List.nodup_cons.mpr ⟨hm, na⟩) fun y hy => by
        rcases List.mem_cons.mp hy with z | z
        · rw [z]
          exact hx
        · exact h y z
      rw [List.length_cons] at i
      omega
  · intro g
    have i1 := sub_len na h
    have i2 := sub_len nb g
    omega
/-- whether these rows put all anew, each behind the one right above it -/
def behind (fr : List Int) (acc : Wh) (q : Pr) : Bool := match acc.lookup (upQ fr q), acc.lookup q with
  | some a, some b => decide (a < b)
  | _, _ => true
def areR (fr : List Int) (ps : List Pr) (hands : Int) (rows : List (List Pr)) : Bool := match wAll ps hands 0 rows [] with
  | none => false
  | some acc => (ps.all fun q => (acc.lookup q).isSome) && ps.all (behind fr acc)
/-- whether a Rounds shows what it tells -/
def showsR (fr : List Int) (ps : List Pr) (hands : Int) (rows : List (List Pr)) (d : Int) : Bool := areR fr ps hands rows && (decide (0 ≤ d) && decide ((rows.length : Int) = need fr ps hands d))
theorem isSome_mem {acc : Wh} {q : Pr} : (acc.lookup q).isSome = true ↔ q ∈ acc.map (·.1) := by
  cases e : acc.lookup q with
  | none => simpa using lookup_none.mp e
  | some x =>
    have h : ¬ q ∉ acc.map (·.1) := fun z => by
      rw [lookup_none.mpr z] at e
      cases e
    simpa using h
theorem len_all {ps : List Pr} {acc : Wh} (h : WOk ps acc) (nd : ps.Nodup) : decide (acc.length = ps.length) = ps.all fun q => (acc.lookup q).isSome := by
  have e := sub_all h.nd nd h.sub
  rw [List.length_map] at e
  by_cases g : acc.length = ps.length
  · rw [decide_eq_true g]
    symm
    rw [List.all_eq_true]
    intro q hq
    exact isSome_mem.mpr (e.mp g q hq)
  · rw [decide_eq_false g]
    symm
    by_cases t : (ps.all fun q => (acc.lookup q).isSome) = true
    · exact absurd (e.mpr fun q hq => isSome_mem.mp (List.all_eq_true.mp t q hq)) g
    · simpa using t
end PD

/-! Phrasedesk: sorted(set(xs)) of a list of texts -/
namespace PD
open PySem PySem.Spec PyProof.Rows L2
def txK (e : Int × Value) : Str := match e.2 with | .str k _ => k | _ => Str.empty
def TxE (P : Program) (w : World) (e : Int × Value) : Prop := ∃ y tk, e.2 = Value.str y tk ∧ e.1 = (strKind P w).hash y
/-- a set of texts: its members and how many they are -/
def SetS (P : Program) (w : World) (g : Heap) (a : Addr) (M : Str → Bool) (c : Nat) : Prop :=
  ∃ o es ep t, g.get? a = some o ∧ o.ExactSet ∧ o.data = .set es ep t ∧ (∀ e ∈ es.toList, TxE P w e) ∧ (es.toList.map txK).Nodup ∧ (∀ y, M y = true ↔ y ∈ es.toList.map txK) ∧ es.size < scanBound ∧ t.fits es.size = true ∧ es.size = c ∧ Ris t.place.toList ∧ (w.params.followText "set-order" = true ∨ t.led = true)
section
variable {P : Program} {w : World} {g g' : Heap} {a : Addr} {M : Str → Bool} {c : Nat}
theorem SetS.at (R : SetS P w g a M c) (st : ∀ o, g.get? a = some o → g'.get? a = some o) : SetS P w g' a M c := by
  obtain ⟨o, es, ep, t, ho, more⟩ := R
  exact ⟨o, es, ep, t, st o ho, more⟩
theorem SetS.as {M' : Str → Bool} (R : SetS P w g a M c) (e : ∀ y, M' y = M y) : SetS P w g a M' c := by
  rw [show M' = M from funext e]
  exact R
theorem txE_elems {l : List (Int × Value)} (h : ∀ e ∈ l, TxE P w e) : ElemsOf (strKind P w) l := by
  intro e he
  obtain ⟨y, tk, h1, h2⟩ := h e he
  refine ⟨⟨y, ?_, h2⟩, ?_⟩
  · rw [h1]
    exact strKind_is P w y tk
  · rw [h1]
    rfl
theorem txE_is {e : Int × Value} (h : TxE P w e) (y : Str) : (strKind P w).is y e.2 = true ↔ txK e = y := by
  obtain ⟨y0, tk, h1, _⟩ := h
  unfold txK
  rw [h1]
  show ((y0 == y) = true) ↔ y0 = y
  exact beq_iff_eq
theorem txE_mem {l : List (Int × Value)} (h : ∀ e ∈ l, TxE P w e) (y : Str) : y ∈ l.map txK ↔ ∃ e ∈ l, (strKind P w).is y e.2 = true := by
  rw [List.mem_map]
  refine ⟨?_, ?_⟩
  · intro ⟨e, he, q⟩
    exact ⟨e, he, (txE_is (h e he) y).2 q⟩
  · intro ⟨e, he, q⟩
    exact ⟨e, he, (txE_is (h e he) y).1 q⟩
end
section
variable {P : Program} {w : World} {A : Around} {E : Value → Shared → Prop} {z : Shared} {a : Addr} {M : Str → Bool} {c : Nat}
theorem setS_tail {f : Bool → Sem Unit} (hf : ∀ (b : Bool) (z1 : Shared) (Q' : Unit → Shared → Prop), Q' () z1 → wpAny (model P w) A (f b) Q' E z1)
    {o : Obj} {es : Array (Int × Value)} {ep : Nat} {t : SetTable} (ho : z.heap.get? a = some o) (hx : o.ExactSet) (hd : o.data = .set es ep t)
    {es1 : Array (Int × Value)} {t2 : SetTable} {M' : Str → Bool} (g1 : ∀ e ∈ es1.toList, TxE P w e) (n1 : (es1.toList.map txK).Nodup) (m1 : ∀ y, M' y = true ↔ y ∈ es1.toList.map txK)
    (b1 : es1.size < scanBound) (f2 : t2.fits es1.size = true) (ri : Ris t2.place.toList) (le : w.params.followText "set-order" = true ∨ t2.led = true) {wd : Bool} {R : Option Bool → Shared → Prop}
    (hR : ∀ g', Heap.SameBut a z.heap g' → SetS P w g' a M' es1.size → R (some true) { z with heap := g' }) :
    wpAny (model P w) A (do
        storeSet a es1 t2
        if (!wd && t2.tooFull) = true then do
            f (relayAll t2 es1 (SetTable.grown es1.size)).2.2
            storeSet a (relayAll t2 es1 (SetTable.grown es1.size)).1 (relayAll t2 es1 (SetTable.grown es1.size)).2.1
            pure (some true)
          else pure (some true)) R E z := by
  have o1 := store_at (es' := es1) (t' := t2) ho hd
  have sb := Heap.SameBut.update z.heap a (Obj.putSet es1 t2)
  refine wpAny_bind (wpAny_storeSet_of ho hd ?_ (fits_of_scanBound b1))
  split
  · have pm := relayAll_perm t2 es1 (SetTable.grown es1.size)
    have f3 := relayAll_fits t2 es1 (SetTable.grown es1.size)
    have r3 := relayAll_ris t2 es1 (SetTable.grown es1.size)
    have l3 := relayAll_led t2 es1 (SetTable.grown es1.size)
    generalize relayAll t2 es1 (SetTable.grown es1.size) = Z at pm f3 r3 l3 ⊢
    obtain ⟨es2, t3, gv⟩ := Z
    dsimp only at pm f3 r3 l3 ⊢
    have sz : es2.size = es1.size := by
      rw [← Array.length_toList, pm.length_eq, Array.length_toList]
    have b2 : es2.size < scanBound := by
      rw [sz]
      exact b1
    refine wpAny_bind (hf _ _ _ (wpAny_bind (wpAny_storeSet_of o1 rfl ?_ (fits_of_scanBound b2))))
    have o2 := store_at (es' := es2) (t' := t3) o1 rfl
    refine wpAny_pure (hR _ (sb.trans (Heap.SameBut.update _ a _)) ⟨_, es2, _, t3, o2, hx, rfl, ?_, (pm.map txK).nodup_iff.mpr n1, ?_, b2, f3, sz, r3, ?_⟩)
    · intro e he
      exact g1 e (pm.mem_iff.mp he)
    · intro y
      exact (m1 y).trans (pm.map txK).mem_iff.symm
    · rcases le with q | q
      · exact .inl q
      · exact .inr (by rw [l3]; exact q)
  · exact wpAny_pure (hR _ sb ⟨_, es1, _, t2, o1, hx, rfl, g1, n1, m1, b1, f2, rfl, ri, le⟩)
theorem setS_add {y : Str} {tk : Tok} {Q : Bool → Shared → Prop} (R : SetS P w z.heap a M c) (room : c + 1 < scanBound)
    (hQ : ∀ g', Heap.SameBut a z.heap g' → SetS P w g' a (fun j => M j || decide (j = y)) (if M y = true then c else c + 1) → Q (!M y) { z with heap := g' }) :
    wpAny (model P w) A (setAddHashed a (.str y tk) ((strKind P w).hash y)) Q E z := by
  obtain ⟨o, es, ep, t, ho, hx, hd, gd, nd, hm, hb, hf, hn, ri, le⟩ := R
  have key : (strKind P w).is y (.str y tk) = true := strKind_is P w y tk
  have sc : (Value.str y tk).scannable = true := rfl
  have el : ElemsOf (strKind P w) es.toList := txE_elems gd
  unfold setAddHashed setAddHashedIn
  refine wpAny_holding (wpAny_bind (wpAny_setState_of ho hd hf ?_))
  dsimp only
  rw [byScan_of sc hb el]
  simp only [↓reduceIte]
  unfold setAddByScan
  refine wpAny_bind (wpAny_bind (wpAny_rule (wpAny_bind (wpAny_setScan_of key ho hd hf el ?_))))
  cases fi : List.findIdx? (fun e => (strKind P w).is y e.2) es.toList with
  | some j =>
    dsimp only
    obtain ⟨hj, pj, _⟩ := List.findIdx?_eq_some_iff_getElem.mp fi
    have My : M y = true := (hm y).2 ((txE_mem (P := P) (w := w) gd y).2 ⟨es.toList[j], List.getElem_mem hj, pj⟩)
    have q := hQ z.heap (Heap.SameBut.refl a z.heap) ⟨o, es, ep, t, ho, hx, hd, gd, nd, ?_, hb, hf, by rw [if_pos My]; exact hn, ri, le⟩
    · rw [My] at q
      exact wpAny_pure (wpAny_pure q)
    · intro i
      rw [Bool.or_eq_true, decide_eq_true_eq, ← hm i]
      exact ⟨fun k => k.elim id (fun e => e ▸ My), .inl⟩
  | none =>
    dsimp only
    have ny : y ∉ es.toList.map txK := by
      intro k
      obtain ⟨e, he, q⟩ := (txE_mem (P := P) (w := w) gd y).1 k
      have d := List.findIdx?_eq_none_iff.mp fi e he
      rw [q] at d
      cases d
    have My : M y = false := by
      cases q : M y with
      | false => rfl
      | true => exact absurd ((hm y).1 q) ny
    have gw : ∀ (b : Bool) {z1 : Shared} {Q' : Unit → Shared → Prop}, Q' () z1 → wpAny (model P w) A (match b with | true => rule "set.scan.the-table-gave-way" | false => pure ()) Q' E z1 := by
      intro b z1 Q' q
      cases b <;> first | exact wpAny_pure q | exact wpAny_rule q
    have pm := layNew_perm t es ((strKind P w).hash y) (.str y tk)
    have f1 := layNew_fits t es ((strKind P w).hash y) (.str y tk)
    have r1 := layNew_ris t es ((strKind P w).hash y) (.str y tk) ri
    have l1 := layNew_led t es ((strKind P w).hash y) (.str y tk)
    generalize layNew t es ((strKind P w).hash y) (.str y tk) = Z at pm f1 r1 l1 ⊢
    obtain ⟨es1, t1, wd, gv⟩ := Z
    dsimp only at pm f1 r1 l1 ⊢
    rw [Array.toList_push] at pm
    have pc : es1.toList.Perm (((strKind P w).hash y, Value.str y tk) :: es.toList) := pm.trans (List.perm_append_singleton _ _)
    have pk : (es1.toList.map txK).Perm (y :: es.toList.map txK) := pc.map txK
    have g1 : ∀ e ∈ es1.toList, TxE P w e := by
      intro e he
      rcases List.mem_cons.mp (pc.mem_iff.mp he) with k | k
      · rw [k]
        exact ⟨y, tk, rfl, rfl⟩
      · exact gd e k
    have n1 : (es1.toList.map txK).Nodup := pk.nodup_iff.mpr (List.nodup_cons.mpr ⟨ny, nd⟩)
    have m1 : ∀ i, (M i || decide (i = y)) = true ↔ i ∈ es1.toList.map txK := by
      intro i
      rw [Bool.or_eq_true, decide_eq_true_eq, hm i, pk.mem_iff, List.mem_cons]
      exact Or.comm
    have sz : es1.size = c + 1 := by
      rw [← Array.length_toList, pc.length_eq, List.length_cons, Array.length_toList, hn]
    have b1 : es1.size < scanBound := by
      rw [sz]
      exact room
    have le1 : w.params.followText "set-order" = true ∨ t1.led = true := by
      rcases le with q | q
      · exact .inl q
      · exact .inr (by rw [l1]; exact q)
    have fin : ∀ g', Heap.SameBut a z.heap g' → SetS P w g' a (fun j => M j || decide (j = y)) es1.size → Q true { z with heap := g' } := by
      intro g' sb r
      have q := hQ g' sb
      rw [My] at q
      rw [sz] at r
      exact q r
    refine wpAny_bind (gw _ ?_)
    split
    · refine wpAny_bind ?_
      rw [hashByValue_scannable 8 sc]
      refine wpAny_pure ?_
      refine setS_tail ?_ ho hx hd g1 n1 m1 b1 ?_ ?_ ?_ ?_
      · intro b z1 Q' q
        cases b <;> first | exact wpAny_pure q | exact wpAny_rule q
      · first | (split <;> first | exact f1 | exact SetTable.fits_plain_off f1) | exact f1
      · first | (split <;> exact r1) | exact r1
      · first | (split <;> exact le1) | exact le1
      · intro g' sb r
        dsimp only
        exact wpAny_pure (fin g' sb r)
    · refine wpAny_bind (wpAny_pure ?_)
      simp only [↓reduceIte]
      refine setS_tail ?_ ho hx hd g1 n1 m1 b1 f1 r1 le1 ?_
      · intro b z1 Q' q
        cases b <;> first | exact wpAny_pure q | exact wpAny_rule q
      · intro g' sb r
        dsimp only
        exact wpAny_pure (fin g' sb r)
end

/-- a new set's object -/
abbrev newSet (w : World) : Obj := { cls := .type "set", dict := none, data := .set #[] 0 (.fresh 0 0 (!w.params.followText "set-order")) }
theorem setS_none {P : Program} {w : World} {g : Heap} {a : Addr} (ho : g.get? a = some (newSet w)) : SetS P w g a (fun _ => false) 0 := by
  refine ⟨_, #[], 0, _, ho, ⟨rfl, rfl, rfl⟩, rfl, ?_, by simp, by simp, by decide, rfl, rfl, List.Pairwise.nil, ?_⟩
  · intro e he
    simp at he
  · show _ ∨ (!w.params.followText "set-order") = true
    cases w.params.followText "set-order"
    · exact Or.inr rfl
    · exact Or.inl rfl
section
variable {P : Program} {w : World} {A : Around} {E : Value → Shared → Prop} {z : Shared}
theorem setS_all {I : Addr} {fp wr : List Addr} {G : Array GenState → Array GenState → Prop} {n : Nat} {Pv : Nat → Value → Prop} {Sx : Nat → Shared → Prop} {R : Result → Shared → Prop}
    (W : WalksS P w A.in1 I fp wr G n Pv Sx) (D : Addr) (hD : D ∉ fp) (ys : List Str) (hn : n = ys.length) (hb : ys.length + 1 < scanBound) (hv : ∀ i v, Pv i v → ∃ y t, ys[i]? = some y ∧ v = .str y t) :
    ∀ (k i : Nat) (z : Shared), n - i = k → i ≤ n → Sx i z → (∃ c, c ≤ i ∧ SetS P w z.heap D (fun j => decide (j ∈ ys.take i)) c) →
      (∀ z' c, Moved (D :: wr) G z z' → c ≤ n → SetS P w z'.heap D (fun j => decide (j ∈ ys)) c → R (.ok (.ret .none)) z') →
      codeAny (model P w) A (.builtin "set.update.loop" ⟨[.ref D, .ref I], []⟩) R z := by
  have nw : D ∉ wr := fun h => hD (W.sub _ h)
  have up : ∀ b ∈ wr, b ∈ D :: wr := fun b h => List.mem_cons_of_mem _ h
  intro k
  induction k with
  | zero =>
    rintro i z e hi st ⟨c, hc, hS⟩ hR
    have ei : i = n := by omega
    subst ei
    refine codeAny_builtin F.entry_set_update_loop ?_
    rw [Around.under_plainId F.plain_set_update_loop _]
    show wpAny _ A.in1 (pyNext (.ref I) >>= _) _ _ z
    refine wpAny_bind (W.done z _ _ st fun z' hm => ?_)
    show wpAny _ A.in1 (ret Value.none) _ _ z'
    have et : ys.take i = ys := List.take_of_length_le (by omega)
    rw [et] at hS
    exact wpAny_pure (hR z' c (hm.mono up) hc (hS.at fun o e => hm.heap D o nw e))
  | succ k ih =>
    rintro i z e hi st ⟨c, hc, hS⟩ hR
    have lt : i < n := by omega
    refine codeAny_builtin F.entry_set_update_loop ?_
    rw [Around.under_plainId F.plain_set_update_loop _]
    show wpAny _ A.in1 (pyNext (.ref I) >>= _) _ _ z
    refine wpAny_bind (W.item i z _ _ lt st fun v z' hP st' hm => ?_)
    obtain ⟨y, t, ey, rfl⟩ := hv i v hP
    have hS' : SetS P w z'.heap D (fun j => decide (j ∈ ys.take i)) c := hS.at fun o e => hm.heap D o nw e
    show wpAny _ A.in1 (holding [Value.str y t] (setAdd D (.str y t)) >>= _) _ _ z'
    refine wpAny_bind (wpAny_holding ?_)
    unfold setAdd
    refine wpAny_holding (wpAny_bind ((strKind P w).pyHash (k := y) (strKind_is _ _ _ _) ?_))
    refine setS_add (z := { z' with toks := z'.toks + 1 }) hS' (by omega) fun g' sb hS2 => ?_
    have hS3 : SetS P w g' D (fun j => decide (j ∈ ys.take (i + 1))) (if decide (y ∈ ys.take i) = true then c else c + 1) := by
      refine hS2.as fun j => ?_
      rw [List.take_add_one, ey]
      simp [List.mem_append]
    have c3 : (if decide (y ∈ ys.take i) = true then c else c + 1) ≤ i + 1 := by
      split <;> omega
    refine wpAny_pure ⟨plainId_quiet F.plain_set_update_loop _, ih (i + 1) _ (by omega) lt (W.frame _ z' _ _ st' (Nat.le_succ _) fun b hb o e => ?_) ⟨_, c3, hS3⟩ fun z2 c2 m2 k2 S2 => ?_⟩
    · rw [sb.2 b (fun h : b = D => hD (by rw [← h]; exact hb))]
      exact e
    · refine hR z2 c2 (Moved.trans W.gtrans ((hm.mono up).then_heap (Nat.le_succ _) fun b o hb e => ?_) m2) k2 S2
      rw [sb.2 b (fun h : b = D => hb (by rw [h]; exact List.mem_cons_self))]
      exact e
theorem set_texts {l : Addr} {its : Array Value} (ys : List Str) {Q : Value → Shared → Prop} (hh : A.handled = none) (hl : z.heap.IsList l its) (hit : StrsAre its.toList ys) (hb : ys.length + 1 < scanBound)
    (h : ∀ (g' : Heap) (tk c : Nat), SetS P w g' z.heap.objs.size (fun j => decide (j ∈ ys)) c → c ≤ ys.length → (∀ b o, z.heap.get? b = some o → g'.get? b = some o) → Q (.ref z.heap.objs.size) { z with heap := g', toks := tk }) :
    wpAny (model P w) A (call (.type "set") [.ref l]) Q E z := by
  have isz : its.size = ys.length := by
    rw [← StrsAre.len_eq hit, Array.length_toList]
  obtain ⟨cl, tl, hmro⟩ := F.called_set.mro
  have made := F.called_set.made
  have sub := F.called_set.sub
  refine wpAny_call (codeAny_of_tree (show wpAny _ _ (callAny (.type "set") _) _ _ _ from wpAny_pure ⟨Code.quiet_builtin _ (by decide +kernel), codeAny_builtin F.entry_type_call ?_⟩))
  rw [Around.under_plain (weight_type_call_type "set" [.ref l] []) rfl]
  have k1 := F.called_set.notType
  have k2 := F.called_set.canCreate
  have k3 := F.typeCall_set_1 (.ref l)
  repeat (any_goals (first | assumption | wp_step))
  refine codeAny_mono (code_set_led1 (.ref l) (E := E) (Q₁ := fun x z1 => x = .ref z.heap.objs.size ∧ z1 = { z with heap := z.heap.push (newSet w) }) ⟨rfl, rfl⟩) fun r z1 hr => ?_
  cases r with
  | error e => exact hr
  | ok fl =>
    cases fl with
    | ret ob =>
      obtain ⟨rfl, rfl⟩ := hr
      have hS : (z.heap.push (newSet w)).get? z.heap.objs.size = some (newSet w) := Heap.get?_push_size _ rfl
      have hT : Shared.TypeIs { z with heap := z.heap.push (newSet w) } (.ref z.heap.objs.size) "set" := ⟨_, hS, rfl⟩
      have hli := F.called_set.init.lookup
      have hbi := F.called_set.init.bind (.ref z.heap.objs.size)
      repeat (any_goals (first | assumption | wp_step))
      refine codeAny_mono (codeAny_call_builtin (R := wants (fun r z2 => r = .none ∧ ∃ g' tk c, z2 = { z with heap := g', toks := tk } ∧ SetS P w g' z.heap.objs.size (fun j => decide (j ∈ ys)) c ∧ c ≤ ys.length ∧ (∀ b o, z.heap.get? b = some o → g'.get? b = some o)) E) F.called_set.init.plain F.entry_set_init (check_set_init_1 hT ?_)) fun r2 z2 hr2 => ?_
      · obtain ⟨ol, hol, hcl, nl, hdl⟩ := hl
        obtain ⟨ocls, odict, odata, oslots⟩ := ol
        dsimp only at hcl hdl
        cases hcl
        cases hdl
        have hol' : (z.heap.push (newSet w)).get? l = some { cls := .type "list", dict := odict, data := .seq its nl, slots := oslots } := Heap.get?_push_of_some _ hol
        have hsls := F.sub_list_set
        have hslf := F.sub_list_frozenset
        have hne : (Value.type "list" == Value.type "dict") = false := by decide
        have hl1 : (z.heap.push (newSet w)).IsList l its := ⟨_, hol', rfl, nl, rfl⟩
        unfold Builtin.«set.__init__» noKeywords Builtin.Frozenset.updateFrom
        generalize hPI : pyIter = PI
        wp_walk
        subst hPI
        refine wpAny_pyIter_list hl1 (wpAny_bind (wpAny_runValue ?_))
        have lS : l < z.heap.objs.size := Heap.lt_size hol
        have h3 : A.in1.in1.in1.handled = none := by simp [hh]
        have nI : l ≠ (z.heap.push (newSet w)).objs.size := by
          rw [Heap.size_push]
          exact Nat.ne_of_lt (Nat.lt_succ_of_lt lS)
        have nS : z.heap.objs.size ∉ [(z.heap.push (newSet w)).objs.size, l] := by
          rw [Heap.size_push]
          simp only [List.mem_cons, List.not_mem_nil, or_false, not_or]
          exact ⟨Nat.ne_of_lt (Nat.lt_succ_self z.heap.objs.size), Nat.ne_of_gt lS⟩
        have val : ∀ (i : Nat) (v : Value), its[i]? = some v → ∃ y t, ys[i]? = some y ∧ v = .str y t := by
          intro i v ev
          have li : i < ys.length := by
            rw [← isz]
            exact (Array.getElem?_eq_some_iff.mp ev).1
          obtain ⟨t, e⟩ := SS.strs_at hit i v (by rw [Array.getElem?_toList]; exact ev)
          refine ⟨ys[i], t, List.getElem?_eq_getElem li, ?_⟩
          rw [e, List.getD_eq_getElem?_getD, List.getElem?_eq_getElem li]
          rfl
        refine setS_all ((Walks.list h3 _ l nI its).toS) z.heap.objs.size nS ys isz hb val (its.size - 0) 0 _ (by omega) (Nat.zero_le _) ⟨⟨_, Heap.get?_push_size _ rfl, rfl, rfl⟩, (hl1.push _)⟩ ⟨0, Nat.le_refl 0, ?_⟩ ?_
        · refine (setS_none (g := _) (a := z.heap.objs.size) (Heap.get?_push_of_some _ hS)).as fun j => ?_
          simp
        · intro z' c' hm lc hS'
          obtain ⟨g', g2, d', tk', os'⟩ := z'
          cases (show g2 = z.gens from hm.gens)
          cases (show d' = z.drawn from hm.drawn)
          cases (show os' = z.os from hm.os)
          show wpAny _ _ _ _ _ _
          refine wpAny_pure ?_
          show wpAny _ _ (ret Value.none) _ _ _
          rw [isz] at lc
          refine wpAny_pure ⟨rfl, g', tk', c', rfl, hS', lc, fun b o e => ?_⟩
          have b0 : b < z.heap.objs.size := Heap.lt_size e
          refine hm.heap b o ?_ (Heap.get?_push_of_some _ (Heap.get?_push_of_some _ e))
          rw [Heap.size_push]
          simp only [List.mem_cons, List.not_mem_nil, or_false, not_or]
          exact ⟨Nat.ne_of_lt b0, Nat.ne_of_lt (Nat.lt_succ_of_lt b0)⟩
      · cases r2 with
        | error e => exact hr2
        | ok fl2 =>
          cases fl2 with
          | ret r =>
            obtain ⟨rfl, g', tk, c', rfl, hS', lc, kp⟩ := hr2
            repeat (any_goals (first | assumption | wp_step))
            exact h _ _ _ hS' lc kp
          | _ => exact hr2.elim
    | _ => exact hr.elim
/-- what is in a list of values, as texts -/
theorem texts_of : ∀ (l : List Value), (∀ v ∈ l, ∃ y tk, v = Value.str y tk) → StrsAre l (l.map fun v => txK (0, v))
  | [], _ => .nil
  | v :: l, h => by
    obtain ⟨y, tk, rfl⟩ := h v List.mem_cons_self
    exact .cons y tk (texts_of l fun u hu => h u (List.mem_cons_of_mem _ hu))
theorem sorted_texts {a : Addr} {M : Str → Bool} {c : Nat} {Q : Value → Shared → Prop} (R : SetS P w z.heap a M c) (hh : A.handled = none) (h64 : c < 64)
    (hQ : ∀ z' p (out : Array Value) (n : Nat) (ys : List Str), (∀ b o, z.heap.get? b = some o → z'.heap.get? b = some o) → z'.gens = z.gens → z'.os = z.os → z.heap.objs.size ≤ p →
      z'.heap.get? p = some (seqObj "list" out n) → StrsAre out.toList ys → sortedS ys = true → ys.Nodup → (∀ y, y ∈ ys ↔ M y = true) → ys.length = c → Q (.ref p) z') :
    wpAny (model P w) A (call (.builtin "sorted") [.ref a]) Q E z := by
  obtain ⟨o, es, ep, t, ho, hx, hd, gd, nd, hm, hb, hf, hn, ri, le⟩ := R
  refine Calls.call_function_entry kind_sorted plain_sorted entry_sorted (args_sorted1 _) ?_
  unfold Builtin.«sorted»
  refine wpAny_bind (m := checkCount "sorted" 1 1 _) (wpAny_pure (wpAny_bind (collect_set (A := A.in1) hh ⟨o, ho, hx.1, hd⟩ hf hb ri le fun z1 vs k1 hz g1 o1 pm => ?_)))
  have vl : vs.length = c := by
    rw [pm.length_eq, List.length_map, Array.length_toList]
    exact hn
  have hS : StrsAre vs (vs.map fun v => txK (0, v)) := texts_of vs fun v hv => by
    obtain ⟨e, he, q⟩ := List.mem_map.mp (pm.mem_iff.mp hv)
    obtain ⟨y, tk, h1, _⟩ := gd e he
    exact ⟨y, tk, q ▸ h1⟩
  have pk : (vs.map fun v => txK (0, v)).Perm (es.toList.map txK) := by
    have q := pm.map fun v => txK (0, v)
    rw [List.map_map] at q
    exact q
  refine wpAny_bind (wpAny_newList ?_ (by rw [vl, sizeLine_eq]; omega))
  have oL : (z1.heap.push (seqObj "list" vs.toArray 0)).get? z1.heap.objs.size = some (seqObj "list" vs.toArray 0) := Heap.get?_push_size _ rfl
  refine wpAny_bind (wpAny_holding (wpAny_call_entry slot_list_sort ⟨_, oL, rfl⟩ entry_list_sort (list_sort_treeK strKind_oneLt (s := { z1 with heap := z1.heap.push (seqObj "list" vs.toArray 0) }) oL hS.keysOf (fun v1 v2 rest e => keyKind_strs (by rw [← e]; exact hS)) (by rw [vl]; exact h64) fun st' hp hs => ⟨_, rfl, ?_⟩) (args_list_sort _)))
  obtain ⟨ys, q1, q2, q3⟩ := sorted_out_str hS hp hs
  obtain ⟨n, hc⟩ := sortedHeap_at (vs := vs) (out := (arrOf st').map (·.2)) oL
  have pn : ys.Perm (es.toList.map txK) := q2.trans pk
  refine wpAny_pure ⟨_, rfl, hQ _ z1.heap.objs.size _ n ys (fun b u e => ?_) g1 o1 hz hc q1 q3 (pn.nodup_iff.mpr nd) (fun y => by rw [pn.mem_iff, ← hm y]) ?_⟩
  · have q := k1 b u e
    have lt := Heap.lt_size q
    show (sortedHeap (z1.heap.push (seqObj "list" vs.toArray 0)) z1.heap.objs.size vs _).get? b = some u
    rw [sortedHeap_old (Nat.ne_of_lt lt) (by rw [size_push']; exact Nat.lt_succ_of_lt lt)]
    exact Heap.get?_push_of_some _ q
  · rw [pn.length_eq, List.length_map, Array.length_toList]
    exact hn
end
section
variable {X : Cx}
/-- sorted(set(e)), e a list of fewer than 64 texts -/
def tSrt (K : PySem.W.Frag) (ta : TE) : TE := fun σ G Q => ta σ G fun x G1 => ∃ (l : Addr) (ys : List Str), x = .ref l ∧ SqL K G1 l (ys.map V.str) ∧ ys.length < 63 ∧
  ∀ (ts : List Str) (p : Addr), sortedS ts = true → ts.Nodup → (∀ y, y ∈ ts ↔ y ∈ ys) → G1 p = none → Q (.ref p) (upd G1 p (.lst (ts.map V.str)))
theorem pe_srt {e : Expr} {ta : TE} {p p2 q pos : Pos} (hc : X.calm = true) (hg : Gl X "sorted") (hm : X.mg "sorted" = none) (hg2 : Gl X "set") (hm2 : X.mg "set" = none) (ha : PE X e ta)
    (na : starEach [e] X.env = (false, eval e X.env) :: starEach [] X.env := by rfl) : PE X (.Call (.Name "sorted" p) [.Call (.Name "set" p2) [e] [] q] [] pos) (tSrt X.K ta) := by
  refine ⟨fun pins z σ G Q I h => Call_ (ld_blt I hg hm boot_sorted (PyProof.Rows.callWith_builtin1 (PyProof.Rows.args_cons (Call_ (ld_blt I hg2 hm2 boot_set ?_)) rfl) rfl rfl))⟩
  refine PyProof.Rows.callWith_type1 (PyProof.Rows.args_cons (thn (ha.run pins z σ G _ I h) fun v z1 ⟨x, G1, I1, r1, q1⟩ => PyProof.Rows.args_nil ?_) na) na rfl
  obtain ⟨l, ys, rfl, hs, hl, q1⟩ := q1
  cases r1
  obtain ⟨its, rv, pl, _⟩ := I1.list hs
  have hS : StrsAre its.toArray.toList ys := by simpa using strsAre_of rv
  refine set_texts ys (I1.ok.hd hc) pl.isList hS (by unfold scanBound; omega) fun g' tk c R lc kp => PyProof.Rows.args_nil ?_
  have I2 : Inv X pins σ G1 { z1 with heap := g', toks := tk } := I1.kept kp
  refine sorted_texts (z := { z1 with heap := g', toks := tk }) R (I2.ok.hd hc) (by omega) fun z2 a out n ts k2 e2 o2 za ha' hts srt nd mem ln => ?_
  have len : (ts.map V.str).length ≤ sizeLine := by
    rw [List.length_map, ln, sizeLine_eq]
    omega
  have na : G1 a = none := I2.hok.fresh za
  have J : Inv X pins σ (upd G1 a (.lst (ts.map V.str))) { { z1 with heap := g', toks := tk } with heap := z2.heap, gens := z2.gens, drawn := z2.drawn, toks := z2.toks } :=
    I2.call (ch := []) (Un.laid k2 za na) (I2.hok.laid k2 za ⟨len, out.toList, n, vals_of_strs hts, by rw [Array.toArray_toList]; exact ha'⟩) (by rw [e2]; exact I2.bare) (fun _ y => nomatch y)
  have ez : z2 = { { z1 with heap := g', toks := tk } with heap := z2.heap, gens := z2.gens, drawn := z2.drawn, toks := z2.toks } := by
    cases z2
    cases z1
    cases o2
    rfl
  rw [ez]
  exact ⟨.ref a, _, J, rfl, q1 ts a srt nd (fun y => by rw [mem y, decide_eq_true_iff]) na⟩
end
end PD

/-! Phrasedesk: a desk's state, as it lies in a dict of the law's own -/
namespace PD
open PySem PySem.Spec PyProof.Rows L2
structure Pt where
  p : Nat
  t : Nat
  x : Str
  s : Option Int
structure De where
  n : Nat
  puts : List Pt
  lie : Nat → Nat → List Int
def De.none : De := ⟨0, [], fun _ _ => []⟩
def De.now (S : De) (p t : Nat) : Option Int := (S.lie p t).getLast?
def setL (f : Nat → Nat → List Int) (p t : Nat) (ns : List Int) : Nat → Nat → List Int := fun p' t' => if p' = p ∧ t' = t then ns else f p' t'
def De.lay (S : De) (p t : Nat) (x : Str) (s : Option Int) : De := ⟨S.n, S.puts ++ [⟨p, t, x, s⟩], setL S.lie p t (S.lie p t ++ [(S.puts.length : Int)])⟩
def De.more (S : De) : De := ⟨S.n + 1, S.puts, S.lie⟩
def De.off (S : De) (p t : Nat) : De := ⟨S.n, S.puts, setL S.lie p t (S.lie p t).dropLast⟩
def De.pt (S : De) (k : Int) : Pt := S.puts.getD k.toNat ⟨0, 0, Str.empty, Option.none⟩
def De.cell (S : De) (p t : Nat) : Cell := (S.now p t).map fun k => (k, (S.pt k).s)
def De.row (S : De) (m p : Nat) : List Cell := (List.range m).map fun t => S.cell p t
/-- a put as it lies -/
def PtV (H : Hp) (v : V) (u : Pt) : Prop := ∃ q, v = .ref q ∧ H q = some (.tup [.int u.p, .int u.t, .str u.x, oV u.s])
theorem PtV.same {H H' : Hp} (e : Same H H') {v : V} {u : Pt} (h : PtV H v u) : PtV H' v u := let ⟨q, a, b⟩ := h; ⟨q, a, e _ _ b⟩
def LieV (H : Hp) (l : Addr) : Option V → List Int → Prop
  | .none, ns => ns = []
  | .some v, ns => ∃ a, v = .ref a ∧ a ≠ l ∧ LsAt H a ns
theorem LieV.same {H H' : Hp} {l : Addr} (e : Same H H') : ∀ {r : Option V} {ns : List Int}, LieV H l r ns → LieV H' l r ns
  | .none, _, h => h
  | .some _, _, ⟨a, x, z, y⟩ => ⟨a, x, z, y.same e⟩
abbrev ty (p t : Nat) : List Key := [Sum.inl (p : Int), Sum.inl (t : Int)]
theorem ty_inj {p t p' t' : Nat} (h : ty p t = ty p' t') : p = p' ∧ t = t' := by
  have h1 : (Sum.inl (p : Int) : Key) = Sum.inl (p' : Int) := (List.cons.inj h).1
  have h2 : (Sum.inl (t : Int) : Key) = Sum.inl (t' : Int) := (List.cons.inj (List.cons.inj h).2).1
  have h3 := Sum.inl.inj h1
  have h4 := Sum.inl.inj h2
  omega
abbrev kP : Key := Sum.inr "phrases"
abbrev kU : Key := Sum.inr "puts"
abbrev kL : Key := Sum.inr "lying"
abbrev topK (n : Nat) (l d : Addr) : List (Key × V) := [(kP, .int (n : Int)), (kU, .ref l), (kL, .ref d)]
structure Here (H : Hp) (o l d : Addr) (S : De) : Prop where
  top : H o = some (.dK (topK S.n l d))
  puts : ∃ vs, H l = some (.lst vs) ∧ All2 (PtV H) vs S.puts
  lie : ∃ kvs, H d = some (.dT kvs) ∧ kvs.length ≤ S.puts.length ∧ ∀ p t : Nat, LieV H l (valV kvs (ty p t)) (S.lie p t)
  few : S.puts.length ≤ 5000
  lens : ∀ p t, (S.lie p t).length ≤ S.puts.length
theorem Here.same {H H' : Hp} (e : Same H H') {o l d : Addr} {S : De} (h : Here H o l d S) : Here H' o l d S := by
  obtain ⟨vs, h1, h2⟩ := h.puts
  obtain ⟨kvs, h3, h4, h5⟩ := h.lie
  exact ⟨e _ _ h.top, ⟨vs, e _ _ h1, h2.mono fun _ _ z => z.same e⟩, ⟨kvs, e _ _ h3, h4, fun p t => (h5 p t).same e⟩, h.few, h.lens⟩
theorem topP (n : Nat) (l d : Addr) : valV (topK n l d) kP = some (.int (n : Int)) := rfl
theorem topU (n : Nat) (l d : Addr) : valV (topK n l d) kU = some (.ref l) := rfl
theorem topL (n : Nat) (l d : Addr) : valV (topK n l d) kL = some (.ref d) := rfl
/-- all but the three stays -/
def Off (o l d : Addr) (H H' : Hp) : Prop := ∀ a x, a ≠ o → a ≠ l → a ≠ d → H a = some x → H' a = some x
/-- a text that may be put -/
structure TxOk (x : Str) : Prop where
  lo : 1 ≤ x.length
  hi : x.length ≤ 6
  each : ∀ c ∈ x.cps.toList, 97 ≤ c ∧ c ≤ 122
theorem app_cps (x y : Str) : (x ++ y).cps.toList = x.cps.toList ++ y.cps.toList := Array.toList_append
theorem app_len (x y : Str) : (x ++ y).length = x.length + y.length := Array.size_append
theorem az_at : ∀ j : Nat, j < 26 → (Str.ofString "abcdefghijklmnopqrstuvwxyz").cps.toList[j]? = some (97 + j) := by
  have h : ∀ j : _root_.Fin 26, (Str.ofString "abcdefghijklmnopqrstuvwxyz").cps.toList[j.val]? = some (97 + j.val) := by decide +kernel
  exact fun j hj => h ⟨j, hj⟩
theorem Off.same {o l d : Addr} {H H' H2 : Hp} (h : Off o l d H H') (e : Same H' H2) : Off o l d H H2 := fun a x h1 h2 h3 q => e _ _ (h a x h1 h2 h3 q)
theorem off_same {o l d : Addr} {H H' H2 : Hp} (e : Same H H') (h : Off o l d H' H2) : Off o l d H H2 := fun a x h1 h2 h3 q => h a x h1 h2 h3 (e _ _ q)
theorem Off.refl {o l d : Addr} {H : Hp} : Off o l d H H := fun _ _ _ _ _ q => q
theorem Off.trans {o l d : Addr} {H H' H2 : Hp} (h : Off o l d H H') (e : Off o l d H' H2) : Off o l d H H2 := fun a x h1 h2 h3 q => e a x h1 h2 h3 (h a x h1 h2 h3 q)
theorem Here.ne {H : Hp} {o l d : Addr} {S : De} (h : Here H o l d S) : o ≠ l ∧ o ≠ d ∧ l ≠ d := by
  obtain ⟨vs, h1, _⟩ := h.puts
  obtain ⟨kvs, h2, _⟩ := h.lie
  exact ⟨ne_of h.top h1 (fun z => nomatch z), ne_of h.top h2 (fun z => nomatch z), ne_of h1 h2 (fun z => nomatch z)⟩
/-- one more phrase -/
theorem Here.one {H : Hp} {o l d : Addr} {S : De} (h : Here H o l d S) : Here (upd H o (.dK (topK (S.n + 1) l d))) o l d S.more := by
  obtain ⟨n1, n2, n3⟩ := h.ne
  obtain ⟨vs, h1, h2⟩ := h.puts
  obtain ⟨kvs, h3, h4, h5⟩ := h.lie
  refine ⟨upd_same, ⟨vs, ?_, h2.mono ?_⟩, ⟨kvs, ?_, h4, ?_⟩, h.few, h.lens⟩
  · rw [upd_ne (Ne.symm n1)]
    exact h1
  · rintro v u ⟨q, a, b⟩
    refine ⟨q, a, ?_⟩
    rw [upd_ne (ne_of b h.top (fun z => nomatch z))]
    exact b
  · rw [upd_ne (Ne.symm n2)]
    exact h3
  · intro p t
    have z := h5 p t
    cases e : valV kvs (ty p t) with
    | none =>
      rw [e] at z
      exact z
    | some v =>
      rw [e] at z
      obtain ⟨a, x, nl, y⟩ := z
      refine ⟨a, x, nl, ?_⟩
      unfold LsAt
      rw [upd_ne (ne_of y h.top (fun z => nomatch z))]
      exact y
theorem off_o {o l d : Addr} {H : Hp} {x : HO} : Off o l d H (upd H o x) := fun a y h1 _ _ q => by
  rw [upd_ne h1]
  exact q
theorem off_l {o l d : Addr} {H : Hp} {x : HO} : Off o l d H (upd H l x) := fun a y _ h1 _ q => by
  rw [upd_ne h1]
  exact q
theorem off_d {o l d : Addr} {H : Hp} {x : HO} : Off o l d H (upd H d x) := fun a y _ _ h1 q => by
  rw [upd_ne h1]
  exact q
/-- one is put -/
theorem Here.lay {H H1 H3 : Hp} {o l d q a : Addr} {S : De} {vs : List V} {kvs : List (List Key × V)} {p t : Nat} {x : Str} {s : Option Int} (h : Here H o l d S) (fw : S.puts.length < 5000) (s1 : Same H H1) (hq : H1 q = some (.tup [.int p, .int t, .str x, oV s]))
    (hl : H1 l = some (.lst vs)) (s3 : Same (upd H1 l (.lst (vs ++ [.ref q]))) H3) (hd : H3 d = some (.dT kvs)) (na : a ≠ l) (ha : LsAt H3 a (S.lie p t ++ [(S.puts.length : Int)])) :
    Here (upd H3 d (.dT (putK kvs (ty p t) (.ref a)))) o l d (S.lay p t x s) ∧ Off o l d H (upd H3 d (.dT (putK kvs (ty p t) (.ref a)))) := by
  obtain ⟨n1, n2, n3⟩ := h.ne
  have h1 := h.same s1
  obtain ⟨vs', e1, h2⟩ := h1.puts
  rw [hl] at e1
  cases (HO.lst.inj (Option.some.inj e1))
  obtain ⟨kvs', e3, h4, h5⟩ := h1.lie
  have e3' : H3 d = some (.dT kvs') := s3 _ _ (by rw [upd_ne (Ne.symm n3)]; exact e3)
  rw [hd] at e3'
  cases (HO.dT.inj (Option.some.inj e3'))
  have keepT : ∀ {b : Addr} {xs : List V}, H1 b = some (.tup xs) → (upd H3 d (.dT (putK kvs (ty p t) (.ref a)))) b = some (.tup xs) := by
    intro b xs e
    have z : H3 b = some (.tup xs) := s3 _ _ (by rw [upd_ne (ne_of e hl (fun z => nomatch z))]; exact e)
    rw [upd_ne (ne_of z hd (fun z => nomatch z))]
    exact z
  refine ⟨⟨?_, ⟨vs ++ [.ref q], ?_, ?_⟩, ⟨_, upd_same, ?_, ?_⟩, ?_, ?_⟩, ?_⟩
  · rw [upd_ne n2]
    exact s3 _ _ (by rw [upd_ne n1]; exact h1.top)
  · rw [upd_ne n3]
    exact s3 _ _ upd_same
  · refine All2.app (h2.mono ?_) (All2.cons ⟨q, rfl, keepT hq⟩ All2.nil)
    rintro v u ⟨b, x, y⟩
    exact ⟨b, x, keepT y⟩
  · show _ ≤ (S.puts ++ [_]).length
    have := length_putK kvs (ty p t) (.ref a)
    rw [List.length_append, List.length_singleton]
    omega
  · intro p' t'
    rw [valV_put]
    show LieV _ l _ (setL S.lie p t _ p' t')
    unfold setL
    by_cases e : ty p' t' = ty p t
    · rw [if_pos e, if_pos (ty_inj e)]
      refine ⟨a, rfl, na, ?_⟩
      unfold LsAt
      rw [upd_ne (ne_of ha hd (fun z => nomatch z))]
      exact ha
    · rw [if_neg e, if_neg (fun z => e (by rw [z.1, z.2]))]
      have z := h5 p' t'
      cases ev : valV kvs (ty p' t') with
      | none =>
        rw [ev] at z
        exact z
      | some v =>
        rw [ev] at z
        obtain ⟨b, x1, bl, y1⟩ := z
        refine ⟨b, x1, bl, ?_⟩
        have y3 : H3 b = some (.lst ((S.lie p' t').map V.int)) := s3 _ _ (by rw [upd_ne bl]; exact y1)
        unfold LsAt
        rw [upd_ne (ne_of y3 hd (fun z => nomatch z))]
        exact y3
  · show (S.puts ++ [_]).length ≤ 5000
    rw [List.length_append, List.length_singleton]
    omega
  · intro p' t'
    show (setL S.lie p t _ p' t').length ≤ (S.puts ++ [_]).length
    have z := h.lens p' t'
    rw [List.length_append, List.length_singleton]
    unfold setL
    split
    · next e =>
      rw [e.1, e.2] at z
      rw [List.length_append, List.length_singleton]
      omega
    · omega
  · exact (off_same s1 off_l).trans ((Off.refl.same s3).trans off_d)
/-- what stands is taken back -/
theorem Here.back {H H3 : Hp} {o l d a : Addr} {S : De} {kvs : List (List Key × V)} {p t : Nat} (h : Here H o l d S) (s3 : Same H H3) (hd : H3 d = some (.dT kvs)) (there : (valV kvs (ty p t)).isSome = true) (na : a ≠ l) (ha : LsAt H3 a (S.lie p t).dropLast) :
    Here (upd H3 d (.dT (putK kvs (ty p t) (.ref a)))) o l d (S.off p t) ∧ Off o l d H (upd H3 d (.dT (putK kvs (ty p t) (.ref a)))) := by
  obtain ⟨n1, n2, n3⟩ := h.ne
  have h3 := h.same s3
  obtain ⟨vs, e1, h2⟩ := h3.puts
  obtain ⟨kvs', e3, h4, h5⟩ := h3.lie
  rw [hd] at e3
  cases (HO.dT.inj (Option.some.inj e3))
  refine ⟨⟨?_, ⟨vs, ?_, h2.mono ?_⟩, ⟨_, upd_same, ?_, ?_⟩, h.few, ?_⟩, off_same s3 off_d⟩
  · rw [upd_ne n2]
    exact h3.top
  · rw [upd_ne n3]
    exact e1
  · rintro v u ⟨b, x, y⟩
    refine ⟨b, x, ?_⟩
    rw [upd_ne (ne_of y hd (fun z => nomatch z))]
    exact y
  · unfold putK
    rw [valV_any, there, if_pos rfl, List.length_map]
    exact h4
  · intro p' t'
    rw [valV_put]
    show LieV _ l _ (setL S.lie p t _ p' t')
    unfold setL
    by_cases e : ty p' t' = ty p t
    · rw [if_pos e, if_pos (ty_inj e)]
      refine ⟨a, rfl, na, ?_⟩
      unfold LsAt
      rw [upd_ne (ne_of ha hd (fun z => nomatch z))]
      exact ha
    · rw [if_neg e, if_neg (fun z => e (by rw [z.1, z.2]))]
      have z := h5 p' t'
      cases ev : valV kvs (ty p' t') with
      | none =>
        rw [ev] at z
        exact z
      | some v =>
        rw [ev] at z
        obtain ⟨b, x1, bl, y1⟩ := z
        refine ⟨b, x1, bl, ?_⟩
        unfold LsAt
        rw [upd_ne (ne_of y1 hd (fun z => nomatch z))]
        exact y1
  · intro p' t'
    show (setL S.lie p t _ p' t').length ≤ S.puts.length
    have z := h.lens p' t'
    unfold setL
    split
    · next e =>
      rw [e.1, e.2] at z
      rw [List.length_dropLast]
      omega
    · exact z
theorem one_ix {j n : Nat} {α : Type} {x y : α} (h : n ≤ j) (e : [x][j - n]? = some y) : j = n ∧ y = x := by
  have ej : j - n = 0 := by
    by_cases z : j - n = 0
    · exact z
    · rw [show j - n = (j - n - 1) + 1 by omega] at e
      simp at e
  rw [ej] at e
  exact ⟨by omega, (Option.some.inj e).symm⟩
theorem RowAt.snoc {H : Hp} {D : Addr} {vs : List V} {row : List Cell} {v : V} {c : Cell} (h : RowAt H D row) (hv : H D = some (.lst vs)) (hc : CellV H v c) : RowAt (upd H D (.lst (vs ++ [v]))) D (row ++ [c]) := by
  obtain ⟨ws, hw, hcs⟩ := h
  rw [hv] at hw
  cases (HO.lst.inj (Option.some.inj hw))
  have keep : ∀ {v : V} {c : Cell}, CellV H v c → CellV (upd H D (.lst (vs ++ [v]))) v c := by
    intro v c h
    match c, h with
    | none, h => exact h
    | some (n, b), ⟨q, e1, e2⟩ => exact ⟨q, e1, by rw [upd_ne (ne_of e2 hv (fun z => nomatch z))]; exact e2⟩
  have keep2 : ∀ {u : V} {c : Cell}, CellV H u c → CellV (upd H D (.lst (vs ++ [v]))) u c := by
    intro u c h
    match c, h with
    | none, h => exact h
    | some (n, b), ⟨q, e1, e2⟩ => exact ⟨q, e1, by rw [upd_ne (ne_of e2 hv (fun z => nomatch z))]; exact e2⟩
  refine ⟨_, upd_same, ⟨by rw [List.length_append, List.length_append, hcs.len]; rfl, fun i d e => ?_⟩⟩
  by_cases hi : i < row.length
  · rw [List.getElem?_append_left hi] at e
    obtain ⟨w, h1, h2⟩ := hcs.each i d e
    exact ⟨w, by rw [List.getElem?_append_left (by rw [hcs.len]; exact hi)]; exact h1, keep2 h2⟩
  · rw [List.getElem?_append_right (by omega)] at e
    obtain ⟨e1, rfl⟩ := one_ix (by omega) e
    subst e1
    exact ⟨v, by rw [List.getElem?_append_right (by rw [hcs.len]; omega), hcs.len, Nat.sub_self]; rfl, keep2 hc⟩
/-- all that was ever put: numbers and texts -/
def evG (p t : Nat) : Nat → List Pt → List (Int × Str)
  | _, [] => []
  | k, u :: r => (if u.p = p ∧ u.t = t then [((k : Int), u.x)] else []) ++ evG p t (k + 1) r
theorem evG_snoc {p t : Nat} {u : Pt} : ∀ {l : List Pt} {k : Nat}, evG p t k (l ++ [u]) = evG p t k l ++ (if u.p = p ∧ u.t = t then [(((k + l.length : Nat) : Int), u.x)] else [])
  | [], k => by
    show (_ ++ []) = _
    rw [List.append_nil]
    rfl
  | v :: r, k => by
    show _ ++ evG p t (k + 1) (r ++ [u]) = (_ ++ evG p t (k + 1) r) ++ _
    rw [evG_snoc, List.append_assoc, List.length_cons, show k + 1 + r.length = k + (r.length + 1) by omega]
def De.ever (S : De) (p t : Nat) : List (Int × Str) := evG p t 0 S.puts
theorem evG_mem {p t : Nat} {e : Int × Str} : ∀ {l : List Pt} {k : Nat}, e ∈ evG p t k l ↔ ∃ (j : Nat) (u : Pt), l[j]? = some u ∧ u.p = p ∧ u.t = t ∧ e = (((k + j : Nat) : Int), u.x)
  | [], k => by simp [evG]
  | v :: r, k => by
    show e ∈ _ ++ evG p t (k + 1) r ↔ _
    rw [List.mem_append, evG_mem]
    constructor
    · rintro (h | ⟨j, u, h1, h2, h3, h4⟩)
      · by_cases c : v.p = p ∧ v.t = t
        · rw [if_pos c] at h
          exact ⟨0, v, rfl, c.1, c.2, List.mem_singleton.mp h⟩
        · rw [if_neg c] at h
          cases h
      · exact ⟨j + 1, u, by simpa using h1, h2, h3, by rw [h4, show k + 1 + j = k + (j + 1) by omega]⟩
    · rintro ⟨j, u, h1, h2, h3, h4⟩
      cases j with
      | zero =>
        cases (Option.some.inj h1)
        refine .inl ?_
        rw [if_pos ⟨h2, h3⟩]
        exact List.mem_singleton.mpr h4
      | succ j => exact .inr ⟨j, u, by simpa using h1, h2, h3, by rw [h4, show k + 1 + j = k + (j + 1) by omega]⟩
theorem evG_len {p t : Nat} : ∀ {l : List Pt} {k : Nat}, (evG p t k l).length ≤ l.length
  | [], k => Nat.le_refl _
  | v :: r, k => by
    show (_ ++ evG p t (k + 1) r).length ≤ r.length + 1
    rw [List.length_append]
    have := evG_len (p := p) (t := t) (l := r) (k := k + 1)
    by_cases c : v.p = p ∧ v.t = t
    · rw [if_pos c]
      show 1 + _ ≤ _
      omega
    · rw [if_neg c]
      show 0 + _ ≤ _
      omega
def EvV (H : Hp) (v : V) (e : Int × Str) : Prop := ∃ q, v = .ref q ∧ H q = some (.tup [.int e.1, .str e.2])
theorem EvV.same {H H' : Hp} (s : Same H H') {v : V} {e : Int × Str} (h : EvV H v e) : EvV H' v e := let ⟨q, a, b⟩ := h; ⟨q, a, s _ _ b⟩
def EvAt (H : Hp) (a : Addr) (l : List (Int × Str)) : Prop := ∃ vs, H a = some (.lst vs) ∧ All2 (EvV H) vs l
theorem EvAt.same {H H' : Hp} (s : Same H H') {a : Addr} {l : List (Int × Str)} (h : EvAt H a l) : EvAt H' a l := let ⟨vs, x, y⟩ := h; ⟨vs, s _ _ x, y.mono fun _ _ z => z.same s⟩
theorem EvAt.snoc {H : Hp} {D : Addr} {vs : List V} {l : List (Int × Str)} {v : V} {e : Int × Str} (h : EvAt H D l) (hv : H D = some (.lst vs)) (he : EvV H v e) : EvAt (upd H D (.lst (vs ++ [v]))) D (l ++ [e]) := by
  obtain ⟨ws, hw, ha⟩ := h
  rw [hv] at hw
  cases (HO.lst.inj (Option.some.inj hw))
  have keep : ∀ {u : V} {e : Int × Str}, EvV H u e → EvV (upd H D (.lst (vs ++ [v]))) u e := by
    rintro u e ⟨q, e1, e2⟩
    exact ⟨q, e1, by rw [upd_ne (ne_of e2 hv (fun z => nomatch z))]; exact e2⟩
  exact ⟨_, upd_same, All2.app (ha.mono fun _ _ z => keep z) (All2.cons (keep he) All2.nil)⟩
/-- the numbers that lie are numbers of puts -/
def De.Num (S : De) : Prop := ∀ (p t : Nat) (k : Int), k ∈ S.lie p t → 0 ≤ k ∧ ∃ u, S.puts[k.toNat]? = some u ∧ u.p = p ∧ u.t = t
theorem De.Num.now {S : De} (h : S.Num) {p t : Nat} {k : Int} (e : S.now p t = some k) : 0 ≤ k ∧ ∃ u, S.puts[k.toNat]? = some u ∧ u.p = p ∧ u.t = t := h p t k (List.mem_of_getLast? e)
theorem De.pt_at {S : De} {k : Int} {u : Pt} (e : S.puts[k.toNat]? = some u) : S.pt k = u := by
  unfold De.pt
  rw [List.getD_eq_getElem?_getD, e]
  rfl
theorem Here.put_at {H : Hp} {o l d : Addr} {S : De} (h : Here H o l d S) {k : Int} (k0 : 0 ≤ k) {u : Pt} (e : S.puts[k.toNat]? = some u) : ∃ vs q, H l = some (.lst vs) ∧ atI vs k = some (.ref q) ∧ H q = some (.tup [.int u.p, .int u.t, .str u.x, oV u.s]) := by
  obtain ⟨vs, h1, h2⟩ := h.puts
  obtain ⟨v, e1, q, rfl, e2⟩ := h2.each _ _ e
  exact ⟨vs, q, h1, at_of (j := k.toNat) (by omega) e1, e2⟩
/-! ### a state that can be -/
structure De.Ok (fr : List Int) (S : De) : Prop where
  num : S.Num
  six : S.n ≤ 6
  src : ∀ p, p < S.n → S.lie p 0 ≠ []
  each : ∀ (k : Nat) (u : Pt), S.puts[k]? = some u → u.p < S.n ∧ u.t ≤ fr.length ∧ TxOk u.x ∧ (u.t = 0 → u.s = Option.none) ∧ (0 < u.t → ∃ j : Nat, u.s = some (j : Int) ∧ ∃ v, S.puts[j]? = some v ∧ v.p = u.p ∧ v.t = up fr u.t)
theorem De.row_at {S : De} {m p t : Nat} (h : t < m) : (S.row m p)[t]? = some (S.cell p t) := by
  unfold De.row
  rw [List.getElem?_map, List.getElem?_range h]
  rfl
theorem De.row_len {S : De} {m p : Nat} : (S.row m p).length = m := by
  unfold De.row
  rw [List.length_map, List.length_range]
theorem De.Ok.row {fr : List Int} {S : De} (h : S.Ok fr) {p : Nat} (hp : p < S.n) : RowOk fr (S.row (fr.length + 1) p) := by
  refine ⟨De.row_len, ?_, fun j c e => ?_⟩
  · obtain ⟨k, ek⟩ : ∃ k, S.now p 0 = some k := by
      cases e : S.now p 0 with
      | none => exact absurd (List.getLast?_eq_none_iff.mp e) (h.src p hp)
      | some k => exact ⟨k, rfl⟩
    obtain ⟨k0, u, eu, up_, ut⟩ := h.num.now ek
    obtain ⟨_, _, _, hs, _⟩ := h.each _ u eu
    refine ⟨k, ?_, k0⟩
    rw [De.row_at (by omega)]
    unfold De.cell
    rw [ek, Option.map_some, De.pt_at eu, hs ut]
  · have hj : j + 1 < fr.length + 1 := by
      have := (List.getElem?_eq_some_iff.mp e).1
      rw [De.row_len] at this
      exact this
    rw [De.row_at hj] at e
    cases (Option.some.inj e)
    unfold De.cell
    cases en : S.now p (j + 1) with
    | none => exact .inl rfl
    | some k =>
      obtain ⟨k0, u, eu, up_, ut⟩ := h.num.now en
      obtain ⟨_, _, _, _, hs⟩ := h.each _ u eu
      obtain ⟨b, eb, _⟩ := hs (by omega)
      refine .inr ⟨k, b, ?_, k0, Int.natCast_nonneg b⟩
      rw [Option.map_some, De.pt_at eu, eb]
def De.tx (S : De) (p t : Nat) : Str := match S.now p t with
  | some k => (S.pt k).x
  | .none => Str.empty
def De.like (fr : List Int) (S : De) (p t q : Nat) : Bool := decide (q ≠ p) && ((S.now p (up fr t)).isSome && ((S.now q (up fr t)).isSome && (decide (S.tx p (up fr t) = S.tx q (up fr t)) && (chain fr (S.row (fr.length + 1) q) t).isNone)))
def De.found (fr : List Int) (S : De) (p t i : Nat) : List Str := ((List.range i).filter (S.like fr p t)).map fun q => S.tx q t
theorem De.found_yes {fr : List Int} {S : De} {p t i : Nat} (h : S.like fr p t i = true) : S.found fr p t (i + 1) = S.found fr p t i ++ [S.tx i t] := by
  unfold De.found
  rw [List.range_succ, List.filter_append, List.map_append, List.filter_cons_of_pos h, List.filter_nil]
  rfl
theorem De.found_no {fr : List Int} {S : De} {p t i : Nat} (h : S.like fr p t i = false) : S.found fr p t (i + 1) = S.found fr p t i := by
  unfold De.found
  rw [List.range_succ, List.filter_append, List.map_append, List.filter_cons_of_neg (by rw [h]; decide), List.filter_nil]
  exact List.append_nil _
theorem De.found_len {fr : List Int} {S : De} {p t i : Nat} : (S.found fr p t i).length ≤ i := by
  unfold De.found
  rw [List.length_map]
  have := List.length_filter_le (S.like fr p t) (List.range i)
  rw [List.length_range] at this
  exact this
/-- what is fresh stands -/
theorem De.fresh_now {fr : List Int} {S : De} {q t : Nat} (fo : FrOk fr) (t0 : 0 < t) (t1 : t ≤ fr.length) (h : chain fr (S.row (fr.length + 1) q) t = Option.none) : ∃ k, S.now q t = some k := by
  rw [chain_step fo t0 t1] at h
  cases e : S.now q t with
  | some k => exact ⟨k, rfl⟩
  | none =>
    exfalso
    have b : brk fr (S.row (fr.length + 1) q) t = true := by
      have z : (S.row (fr.length + 1) q).getD t Option.none = Option.none := by
        rw [List.getD_eq_getElem?_getD, De.row_at (by omega)]
        unfold De.cell
        rw [e]
        rfl
      unfold brk
      rw [z]
    rw [b] at h
    cases h
/-! ### deeds -/
inductive Deed where
  | phrase (x : Str)
  | fill (t : Nat)
  | back (p t : Nat)
  | put (p t : Nat) (x : Str) (s o : Option Int)
def Deed.vals : Deed → List V
  | .phrase x => [.str "phrase", .str x]
  | .fill t => [.str "fill", .int t]
  | .back p t => [.str "back", .int p, .int t]
  | .put p t x s o => [.str "put", .int p, .int t, .str x, oV s, oV o]
def De.Seen (fr : List Int) (S : De) (p t : Nat) (s : Option Int) : Prop := (t = 0 → s = Option.none) ∧ (0 < t → ∃ k : Nat, s = some (k : Int) ∧ ∃ v, S.puts[k]? = some v ∧ v.p = p ∧ v.t = up fr t)
def De.May (fr : List Int) (S : De) : Deed → Prop
  | .phrase x => S.n < 6 ∧ TxOk x
  | .fill t => 0 < t ∧ t ≤ fr.length
  | .back p t => p < S.n ∧ t ≤ fr.length ∧ (if t = 0 then 1 else 0) < (S.lie p t).length
  | .put p t x s o => p < S.n ∧ t ≤ fr.length ∧ TxOk x ∧ o = S.now p t ∧ S.Seen fr p t s
theorem De.Ok.seen_now {fr : List Int} {S : De} (h : S.Ok fr) {p q : Nat} {k : Int} (e : S.now p q = some k) : ∃ j : Nat, k = (j : Int) ∧ ∃ v, S.puts[j]? = some v ∧ v.p = p ∧ v.t = q := by
  obtain ⟨k0, u, eu, h1, h2⟩ := h.num.now e
  exact ⟨k.toNat, by omega, u, eu, h1, h2⟩
theorem De.seen_ever {S : De} {p q : Nat} {e : Int × Str} (h : e ∈ S.ever p q) : ∃ j : Nat, e.1 = (j : Int) ∧ ∃ v, S.puts[j]? = some v ∧ v.p = p ∧ v.t = q := by
  obtain ⟨j, u, h1, h2, h3, h4⟩ := evG_mem.mp h
  refine ⟨j, ?_, u, h1, h2, h3⟩
  rw [h4]
  show ((0 + j : Nat) : Int) = _
  rw [Nat.zero_add]
/-! ### what comes -/
inductive Line where
  | phrase (p : Nat) (x : Str) (k : Int)
  | put (p t : Nat) (x : Str) (s o : Option Int) (k : Int)
  | back (p t : Nat) (k : Int)
def Line.vals : Line → List V
  | .phrase p x k => [.str "phrase", .int p, .str x, .int k]
  | .put p t x s o k => [.str "put", .int p, .int t, .str x, oV s, oV o, .int k]
  | .back p t k => [.str "back", .int p, .int t, .int k]
inductive Res where
  | num (k : Int)
  | many (l : List Int)
def onlyOf : List Str → Option Str
  | [] => Option.none
  | x :: r => if r.all (fun y => decide (y = x)) then some x else Option.none
def De.fillOne (fr : List Int) (t : Nat) (A : De × List Int × List Line) (p : Nat) : De × List Int × List Line :=
  if (chain fr (A.1.row (fr.length + 1) p) (up fr t)).isNone && (chain fr (A.1.row (fr.length + 1) p) t).isSome then
    match onlyOf (A.1.found fr p t A.1.n) with
    | some x => (A.1.lay p t x (A.1.now p (up fr t)), A.2.1 ++ [(p : Int)], A.2.2 ++ [.put p t x (A.1.now p (up fr t)) (A.1.now p t) (A.1.puts.length : Int)])
    | Option.none => A
  else A
def De.fillTo (fr : List Int) (t : Nat) (S : De) (i : Nat) : De × List Int × List Line := (List.range i).foldl (De.fillOne fr t) (S, [], [])
theorem De.fillTo_succ {fr : List Int} {t : Nat} {S : De} {i : Nat} : S.fillTo fr t (i + 1) = De.fillOne fr t (S.fillTo fr t i) i := by
  unfold De.fillTo
  rw [List.range_succ, List.foldl_append]
  rfl
def De.come (fr : List Int) (S : De) : Deed → De × Res × List Line
  | .phrase x => (S.more.lay S.n 0 x Option.none, .num (S.n : Int), [.phrase S.n x (S.puts.length : Int)])
  | .put p t x s o => (S.lay p t x s, .num (S.puts.length : Int), [.put p t x s o (S.puts.length : Int)])
  | .back p t => (S.off p t, .num ((S.now p t).getD 0), [.back p t ((S.now p t).getD 0)])
  | .fill t => ((S.fillTo fr t S.n).1, .many (S.fillTo fr t S.n).2.1, (S.fillTo fr t S.n).2.2)
theorem snoc_at {α : Type} {l : List α} {x y : α} {k : Nat} (h : (l ++ [x])[k]? = some y) : l[k]? = some y ∨ (k = l.length ∧ y = x) := by
  by_cases hk : k < l.length
  · rw [List.getElem?_append_left hk] at h
    exact .inl h
  · rw [List.getElem?_append_right (by omega)] at h
    obtain ⟨a, b⟩ := one_ix (by omega) h
    exact .inr ⟨a, b⟩
theorem at_snoc {α : Type} {l : List α} {x y : α} {k : Nat} (h : l[k]? = some y) : (l ++ [x])[k]? = some y := by
  rw [List.getElem?_append_left (List.getElem?_eq_some_iff.mp h).1]
  exact h
/-- one more put keeps what can be -/
theorem De.Ok.lay' {fr : List Int} {S : De} (n' : Nat) (hn : n' ≤ 6) (h : S.Num) (hs : ∀ p, p < n' → S.lie p 0 ≠ [] ∨ p = q ∧ t = 0)
    (he : ∀ (k : Nat) (u : Pt), S.puts[k]? = some u → u.p < n' ∧ u.t ≤ fr.length ∧ TxOk u.x ∧ (u.t = 0 → u.s = Option.none) ∧ (0 < u.t → ∃ j : Nat, u.s = some (j : Int) ∧ ∃ v, S.puts[j]? = some v ∧ v.p = u.p ∧ v.t = up fr u.t))
    {x : Str} {s : Option Int} (hq : q < n') (ht : t ≤ fr.length) (tx : TxOk x) (sn : S.Seen fr q t s) (e : S.n = n') : (S.lay q t x s).Ok fr := by
  refine ⟨?_, ?_, ?_, ?_⟩
  · intro p' t' k hk
    have hk' : k ∈ setL S.lie q t (S.lie q t ++ [(S.puts.length : Int)]) p' t' := hk
    unfold setL at hk'
    show 0 ≤ k ∧ ∃ u, (S.puts ++ [_])[k.toNat]? = some u ∧ _
    split at hk'
    · next c =>
      rcases List.mem_append.mp hk' with z | z
      · obtain ⟨k0, u, h1, h2, h3⟩ := h q t k z
        exact ⟨k0, u, at_snoc h1, by rw [h2, c.1], by rw [h3, c.2]⟩
      · have ek : k = (S.puts.length : Int) := List.mem_singleton.mp z
        refine ⟨by omega, ⟨q, t, x, s⟩, ?_, c.1.symm, c.2.symm⟩
        rw [List.getElem?_append_right (by omega), show k.toNat - S.puts.length = 0 by omega]
        rfl
    · obtain ⟨k0, u, h1, h2, h3⟩ := h p' t' k hk'
      exact ⟨k0, u, at_snoc h1, h2, h3⟩
  · show S.n ≤ 6
    omega
  · intro p hp
    show setL S.lie q t (S.lie q t ++ [(S.puts.length : Int)]) p 0 ≠ []
    unfold setL
    split
    · simp
    · next c =>
      rcases hs p (by rw [← e]; exact hp) with z | z
      · exact z
      · exact absurd ⟨z.1, z.2.symm⟩ c
  · intro k u hk
    have lift : ∀ {p' t' : Nat} {s' : Option Int}, (0 < t' → ∃ j : Nat, s' = some (j : Int) ∧ ∃ v, S.puts[j]? = some v ∧ v.p = p' ∧ v.t = up fr t') → 0 < t' → ∃ j : Nat, s' = some (j : Int) ∧ ∃ v, (S.puts ++ [⟨q, t, x, s⟩])[j]? = some v ∧ v.p = p' ∧ v.t = up fr t' := by
      intro p' t' s' z z0
      obtain ⟨j, e1, v, e2, e3⟩ := z z0
      exact ⟨j, e1, v, at_snoc e2, e3⟩
    show u.p < S.n ∧ _
    rw [e]
    rcases snoc_at hk with z | ⟨_, rfl⟩
    · obtain ⟨h1, h2, h3, h4, h5⟩ := he k u z
      exact ⟨h1, h2, h3, h4, lift h5⟩
    · exact ⟨hq, ht, tx, sn.1, lift sn.2⟩
theorem De.Ok.lay {fr : List Int} {S : De} (h : S.Ok fr) {p t : Nat} {x : Str} {s : Option Int} (hp : p < S.n) (ht : t ≤ fr.length) (tx : TxOk x) (sn : S.Seen fr p t s) : (S.lay p t x s).Ok fr :=
  De.Ok.lay' S.n h.six h.num (fun p' hp' => .inl (h.src p' hp')) h.each hp ht tx sn rfl
theorem De.Ok.phrase {fr : List Int} {S : De} (h : S.Ok fr) {x : Str} (n6 : S.n < 6) (tx : TxOk x) : (S.more.lay S.n 0 x Option.none).Ok fr := by
  refine De.Ok.lay' (S := S.more) (S.n + 1) (by omega) h.num (fun p hp => ?_) (fun k u e => ?_) (by omega) (by omega) tx ⟨fun _ => rfl, fun z => by omega⟩ rfl
  · by_cases c : p = S.n
    · exact .inr ⟨c, rfl⟩
    · exact .inl (h.src p (by omega))
  · obtain ⟨h1, h2⟩ := h.each k u e
    exact ⟨by omega, h2⟩
theorem De.Ok.off {fr : List Int} {S : De} (h : S.Ok fr) {p t : Nat} (hl : (if t = 0 then 1 else 0) < (S.lie p t).length) : (S.off p t).Ok fr := by
  refine ⟨?_, h.six, ?_, h.each⟩
  · intro p' t' k hk
    have hk' : k ∈ setL S.lie p t (S.lie p t).dropLast p' t' := hk
    unfold setL at hk'
    split at hk'
    · next c =>
      rw [c.1, c.2]
      exact h.num p t k (List.dropLast_subset _ hk')
    · exact h.num p' t' k hk'
  · intro q hq
    show setL S.lie p t (S.lie p t).dropLast q 0 ≠ []
    unfold setL
    split
    · next c =>
      rw [if_pos c.2.symm] at hl
      intro z
      have := congrArg List.length z
      rw [List.length_dropLast] at this
      simp at this
      omega
    · exact h.src q hq
theorem onlyOf_cons {a : Str} {r : List Str} : onlyOf (a :: r) = if (r.all fun y => decide (y = a)) = true then some a else Option.none := rfl
theorem onlyOf_some {l : List Str} {x : Str} (h : onlyOf l = some x) : ∀ y, y ∈ l ↔ y = x := by
  cases l with
  | nil => cases h
  | cons a r =>
    rw [onlyOf_cons] at h
    by_cases c : (r.all fun y => decide (y = a)) = true
    · rw [if_pos c] at h
      cases (Option.some.inj h)
      intro y
      rw [List.mem_cons]
      refine ⟨fun z => z.elim id fun z => ?_, .inl⟩
      exact of_decide_eq_true (List.all_eq_true.mp c y z)
    · rw [if_neg c] at h
      cases h
theorem onlyOf_of {l : List Str} {x : Str} (h : ∀ y, y ∈ l ↔ y = x) : onlyOf l = some x := by
  cases l with
  | nil => exact absurd ((h x).mpr rfl) (fun z => by cases z)
  | cons a r =>
    have ea : a = x := (h a).mp List.mem_cons_self
    subst ea
    rw [onlyOf_cons, if_pos (List.all_eq_true.mpr fun y hy => decide_eq_true ((h y).mp (List.mem_cons_of_mem _ hy)))]
/-- sorted and each once: one alone, or not -/
theorem only_list {ts l : List Str} (nd : ts.Nodup) (m : ∀ y, y ∈ ts ↔ y ∈ l) : (∃ x, ts = [x] ∧ onlyOf l = some x) ∨ (ts.length ≠ 1 ∧ onlyOf l = Option.none) := by
  cases e : onlyOf l with
  | some x =>
    refine .inl ⟨x, ?_, rfl⟩
    have z := onlyOf_some e
    match ts, nd, m with
    | [], _, m => exact absurd ((m x).mpr ((z x).mpr rfl)) (fun y => by cases y)
    | [a], _, m => rw [(z a).mp ((m a).mp List.mem_cons_self)]
    | a :: b :: r, nd, m =>
      have h1 := (z a).mp ((m a).mp List.mem_cons_self)
      have h2 := (z b).mp ((m b).mp (List.mem_cons_of_mem _ List.mem_cons_self))
      exact absurd (by rw [h1, h2]; exact List.mem_cons_self) (List.nodup_cons.mp nd).1
  | none =>
    refine .inr ⟨fun h1 => ?_, rfl⟩
    match ts, h1, m with
    | [a], _, m =>
      have : onlyOf l = some a := onlyOf_of fun y => by rw [← m y, List.mem_singleton]
      rw [this] at e
      cases e
theorem Off.tup {o l d : Addr} {H H' : Hp} {S : De} (h : Off o l d H H') (hh : Here H o l d S) {q : Addr} {xs : List V} (e : H q = some (.tup xs)) : H' q = some (.tup xs) := by
  obtain ⟨vs, h1, _⟩ := hh.puts
  obtain ⟨kvs, h2, _⟩ := hh.lie
  exact h q _ (ne_of e hh.top (fun z => nomatch z)) (ne_of e h1 (fun z => nomatch z)) (ne_of e h2 (fun z => nomatch z)) e
theorem Off.chg {o l d : Addr} {H H' : Hp} {p : Addr} {x : HO} (h : Off o l d H H') (n : H p = Option.none) : Off o l d H (upd H' p x) := by
  intro a y h1 h2 h3 e
  rw [upd_ne (ne_of_none e n)]
  exact h a y h1 h2 h3 e
theorem Off.ls {o l d : Addr} {H H' : Hp} {S : De} (h : Off o l d H H') (hh : Here H o l d S) {q : Addr} {xs : List V} (nl : q ≠ l) (e : H q = some (.lst xs)) : H' q = some (.lst xs) := by
  obtain ⟨kvs, h2, _⟩ := hh.lie
  exact h q _ (ne_of e hh.top (fun z => nomatch z)) nl (ne_of e h2 (fun z => nomatch z)) e
def LnV (H : Hp) (v : V) (n : Line) : Prop := ∃ q, v = .ref q ∧ H q = some (.tup n.vals)
theorem LnV.same {H H' : Hp} (s : Same H H') {v : V} {n : Line} (h : LnV H v n) : LnV H' v n := let ⟨q, a, b⟩ := h; ⟨q, a, s _ _ b⟩
def LnAt (H : Hp) (a : Addr) (l : List Line) : Prop := ∃ vs, H a = some (.lst vs) ∧ All2 (LnV H) vs l
theorem LnAt.same {H H' : Hp} (s : Same H H') {a : Addr} {l : List Line} (h : LnAt H a l) : LnAt H' a l := let ⟨vs, x, y⟩ := h; ⟨vs, s _ _ x, y.mono fun _ _ z => z.same s⟩
theorem LnAt.off {o l d : Addr} {H H' : Hp} {S : De} (h : Off o l d H H') (hh : Here H o l d S) {a : Addr} {ls : List Line} (nl : a ≠ l) (e : LnAt H a ls) : LnAt H' a ls :=
  let ⟨vs, x, y⟩ := e
  ⟨vs, h.ls hh nl x, y.mono fun _ _ ⟨q, z, u⟩ => ⟨q, z, h.tup hh u⟩⟩
theorem LnAt.snoc {H : Hp} {D : Addr} {vs : List V} {l : List Line} {v : V} {e : Line} (h : LnAt H D l) (hv : H D = some (.lst vs)) (he : LnV H v e) : LnAt (upd H D (.lst (vs ++ [v]))) D (l ++ [e]) := by
  obtain ⟨ws, hw, ha⟩ := h
  rw [hv] at hw
  cases (HO.lst.inj (Option.some.inj hw))
  have keep : ∀ {u : V} {e : Line}, LnV H u e → LnV (upd H D (.lst (vs ++ [v]))) u e := by
    rintro u e ⟨q, e1, e2⟩
    exact ⟨q, e1, by rw [upd_ne (ne_of e2 hv (fun z => nomatch z))]; exact e2⟩
  exact ⟨_, upd_same, All2.app (ha.mono fun _ _ z => keep z) (All2.cons (keep he) All2.nil)⟩
theorem LnAt.upd {H : Hp} {D a : Addr} {vs : List V} {x : HO} {l : List Line} (h : LnAt H D l) (ne : D ≠ a) (hv : H a = some (.lst vs)) : LnAt (L2.upd H a x) D l := by
  obtain ⟨ws, hw, ha⟩ := h
  refine ⟨ws, by rw [upd_ne ne]; exact hw, ha.mono ?_⟩
  rintro u e ⟨q, e1, e2⟩
  exact ⟨q, e1, by rw [upd_ne (ne_of e2 hv (fun z => nomatch z))]; exact e2⟩
/-- none of the lists that lie is one of these -/
def Avoid (H : Hp) (d : Addr) (R : Addr → Prop) : Prop := ∀ kvs, H d = some (.dT kvs) → ∀ (p t : Nat) (a : Addr), valV kvs (ty p t) = some (.ref a) → ¬ R a
/-- those that are there are still avoided -/
def Still (H H' : Hp) (d : Addr) : Prop := ∀ R : Addr → Prop, (∀ a, R a → ∃ x, H a = some x) → Avoid H d R → Avoid H' d R
theorem Avoid.eq {H H' : Hp} {d : Addr} {R : Addr → Prop} (h : Avoid H d R) (e : H' d = H d) : Avoid H' d R := fun kvs z => h kvs (by rw [← e]; exact z)
theorem Still.same {H H' : Hp} {o l d : Addr} {S : De} (hh : Here H o l d S) (e : Same H H') : Still H H' d := fun R _ h => by
  obtain ⟨kvs, h1, _⟩ := hh.lie
  exact h.eq (by rw [e _ _ h1, h1])
theorem Still.trans {H H' H2 : Hp} {d : Addr} (h : Still H H' d) (k : Still H' H2 d) (g : ∀ a x, H a = some x → ∃ y, H' a = some y) : Still H H2 d := fun R r v => k R (fun a z => let ⟨x, e⟩ := r a z; g a x e) (h R r v)
theorem Here.new {H : Hp} {o l d : Addr} {S : De} (h : Here H o l d S) {F : Addr} (n : H F = Option.none) : Avoid H d (· = F) := by
  obtain ⟨kvs, h1, _, h2⟩ := h.lie
  intro kvs' e p t a ev z
  rw [h1] at e
  cases (HO.dT.inj (Option.some.inj e))
  have y := h2 p t
  rw [ev] at y
  obtain ⟨b, e1, _, e2⟩ := y
  cases e1
  rw [z, LsAt, n] at e2
  cases e2
/-- what is done at others leaves it -/
theorem Here.frame {H H' : Hp} {o l d : Addr} {S : De} {R : Addr → Prop} (h : Here H o l d S) (f : ∀ a x, ¬ R a → H a = some x → H' a = some x) (n1 : ¬ R o) (n2 : ¬ R l) (n3 : ¬ R d) (nt : ∀ a xs, R a → H a ≠ some (.tup xs)) (av : Avoid H d R) : Here H' o l d S := by
  obtain ⟨vs, h1, h2⟩ := h.puts
  obtain ⟨kvs, h3, h4, h5⟩ := h.lie
  refine ⟨f _ _ n1 h.top, ⟨vs, f _ _ n2 h1, h2.mono ?_⟩, ⟨kvs, f _ _ n3 h3, h4, fun p t => ?_⟩, h.few, h.lens⟩
  · rintro v w ⟨q, e1, e2⟩
    exact ⟨q, e1, f _ _ (fun z => nt _ _ z e2) e2⟩
  · have z := h5 p t
    have k := av kvs h3 p t
    cases ev : valV kvs (ty p t) with
    | none =>
      rw [ev] at z
      exact z
    | some v =>
      rw [ev] at z k
      obtain ⟨b, e1, e2, e3⟩ := z
      exact ⟨b, e1, e2, f _ _ (k b (by rw [e1])) e3⟩
/-- a list of one's own is changed -/
theorem Here.chg {H : Hp} {o l d F : Addr} {S : De} {vs : List V} {x : HO} (h : Here H o l d S) (n : F ≠ l) (e : H F = some (.lst vs)) (av : Avoid H d (· = F)) : Here (upd H F x) o l d S ∧ (∀ R, Avoid H d R → Avoid (upd H F x) d R) := by
  obtain ⟨kvs, h3, _⟩ := h.lie
  have nd : d ≠ F := ne_of h3 e (fun z => nomatch z)
  refine ⟨h.frame (R := (· = F)) ?_ (ne_of h.top e (fun z => nomatch z)) (Ne.symm n) nd ?_ av, fun R z => z.eq (upd_ne nd)⟩
  · intro a y na ea
    rw [upd_ne na]
    exact ea
  · intro a xs ea z
    rw [show a = F from ea, e] at z
    cases z
theorem still_put {H H3 : Hp} {o l d a : Addr} {S : De} {kvs : List (List Key × V)} {p t : Nat} (h : Here H o l d S) (e : H d = some (.dT kvs)) (new : ∀ b x, H b = some x → b ≠ a) : Still H (upd H3 d (.dT (putK kvs (ty p t) (.ref a)))) d := by
  intro R r av kvs' e' p' t' b eb rb
  rw [upd_same] at e'
  cases (HO.dT.inj (Option.some.inj e'))
  rw [valV_put] at eb
  split at eb
  · have eb' : a = b := V.ref.inj (Option.some.inj eb)
    obtain ⟨x, ex⟩ := r b rb
    exact new b x ex eb'.symm
  · exact av kvs e p' t' b eb rb
theorem Off.there {o l d : Addr} {H H2 : Hp} {S : De} (h : Off o l d H H2) (hh : Here H2 o l d S) : ∀ c x, H c = some x → ∃ y, H2 c = some y := by
  intro c x e
  by_cases c1 : c = o
  · rw [c1]
    exact ⟨_, hh.top⟩
  by_cases c2 : c = l
  · obtain ⟨vs, hv, _⟩ := hh.puts
    rw [c2]
    exact ⟨_, hv⟩
  by_cases c3 : c = d
  · obtain ⟨kvs, hv, _⟩ := hh.lie
    rw [c3]
    exact ⟨_, hv⟩
  exact ⟨x, h c x c1 c2 c3 e⟩
theorem Off.gone {o l d : Addr} {H H2 : Hp} {S : De} (h : Off o l d H H2) (hh : Here H2 o l d S) {c : Addr} (e : H2 c = Option.none) : H c = Option.none := by
  cases q : H c with
  | none => rfl
  | some x =>
    obtain ⟨y, ey⟩ := h.there hh c x q
    rw [ey] at e
    cases e
theorem De.Ok.above {fr : List Int} {S : De} (h : S.Ok fr) (fo : FrOk fr) {p u : Nat} (hp : p < S.n) (hu : u ≤ fr.length) (hc : chain fr (S.row (fr.length + 1) p) u = Option.none) : ∃ k, S.now p u = some k := by
  by_cases u0 : u = 0
  · subst u0
    cases e : S.now p 0 with
    | none => exact absurd (List.getLast?_eq_none_iff.mp e) (h.src p hp)
    | some k => exact ⟨k, rfl⟩
  · exact De.fresh_now fo (by omega) hu hc
theorem De.Ok.tx {fr : List Int} {S : De} (h : S.Ok fr) {p t : Nat} {k : Int} (e : S.now p t = some k) : TxOk (S.tx p t) := by
  obtain ⟨k0, u, eu, _, _⟩ := h.num.now e
  unfold De.tx
  rw [e]
  show TxOk (S.pt k).x
  rw [De.pt_at eu]
  exact (h.each _ u eu).2.2.1
theorem De.Ok.found {fr : List Int} {S : De} (h : S.Ok fr) (fo : FrOk fr) {p t i : Nat} (t0 : 0 < t) (t1 : t ≤ fr.length) {x : Str} (hx : x ∈ S.found fr p t i) : TxOk x := by
  unfold De.found at hx
  obtain ⟨q, hq, rfl⟩ := List.mem_map.mp hx
  have hl := (List.mem_filter.mp hq).2
  unfold De.like at hl
  simp only [Bool.and_eq_true] at hl
  have hc : chain fr (S.row (fr.length + 1) q) t = Option.none := Option.isNone_iff_eq_none.mp hl.2.2.2.2
  obtain ⟨k, ek⟩ := De.fresh_now fo t0 t1 hc
  exact h.tx ek
/-- filled, or not -/
theorem De.fill_yes {fr : List Int} {t p : Nat} {A : De × List Int × List Line} {x : Str} (h1 : chain fr (A.1.row (fr.length + 1) p) (up fr t) = Option.none) (h2 : chain fr (A.1.row (fr.length + 1) p) t ≠ Option.none) (h3 : onlyOf (A.1.found fr p t A.1.n) = some x) :
    De.fillOne fr t A p = (A.1.lay p t x (A.1.now p (up fr t)), A.2.1 ++ [(p : Int)], A.2.2 ++ [.put p t x (A.1.now p (up fr t)) (A.1.now p t) (A.1.puts.length : Int)]) := by
  unfold De.fillOne
  rw [if_pos (by rw [h1, Option.isSome_iff_ne_none.mpr h2]; rfl), h3]
theorem De.fill_no {fr : List Int} {t p : Nat} {A : De × List Int × List Line} (h : chain fr (A.1.row (fr.length + 1) p) (up fr t) ≠ Option.none ∨ chain fr (A.1.row (fr.length + 1) p) t = Option.none ∨ onlyOf (A.1.found fr p t A.1.n) = Option.none) : De.fillOne fr t A p = A := by
  unfold De.fillOne
  by_cases c : ((chain fr (A.1.row (fr.length + 1) p) (up fr t)).isNone && (chain fr (A.1.row (fr.length + 1) p) t).isSome) = true
  · rw [if_pos c]
    rw [Bool.and_eq_true] at c
    rcases h with z | z | z
    · exact absurd (Option.isNone_iff_eq_none.mp c.1) z
    · exact absurd z (Option.isSome_iff_ne_none.mp c.2)
    · rw [z]
  · rw [if_neg c]
structure FillOk (fr : List Int) (S : De) (i : Nat) (A : De × List Int × List Line) : Prop where
  ok : A.1.Ok fr
  n : A.1.n = S.n
  len : A.1.puts.length ≤ S.puts.length + i
  f : A.2.1.length ≤ i
  l : A.2.2.length ≤ i
theorem fillTo_ok {fr : List Int} {S : De} (h : S.Ok fr) (fo : FrOk fr) {t : Nat} (t0 : 0 < t) (t1 : t ≤ fr.length) : ∀ i, i ≤ S.n → FillOk fr S i (S.fillTo fr t i)
  | 0, _ => ⟨h, rfl, Nat.le_refl _, Nat.le_refl _, Nat.le_refl _⟩
  | i + 1, hi => by
    have ih := fillTo_ok h fo t0 t1 i (by omega)
    rw [De.fillTo_succ]
    generalize S.fillTo fr t i = A at ih ⊢
    have up1 := up_lt fo t0 t1
    have no : De.fillOne fr t A i = A → FillOk fr S (i + 1) (De.fillOne fr t A i) := by
      intro e
      rw [e]
      have h1 := ih.len
      have h2 := ih.f
      have h3 := ih.l
      exact ⟨ih.ok, ih.n, by omega, by omega, by omega⟩
    by_cases c1 : chain fr (A.1.row (fr.length + 1) i) (up fr t) = Option.none
    · by_cases c2 : chain fr (A.1.row (fr.length + 1) i) t = Option.none
      · exact no (De.fill_no (.inr (.inl c2)))
      · cases c3 : onlyOf (A.1.found fr i t A.1.n) with
        | none => exact no (De.fill_no (.inr (.inr c3)))
        | some x =>
          have hn := ih.n
          obtain ⟨k, ek⟩ := ih.ok.above fo (p := i) (by omega) (by omega) c1
          rw [De.fill_yes c1 c2 c3]
          refine ⟨ih.ok.lay (by omega) t1 (ih.ok.found fo t0 t1 ((onlyOf_some c3 x).mpr rfl)) ⟨fun z => by omega, fun _ => ?_⟩, ih.n, ?_, ?_, ?_⟩
          · obtain ⟨j, ej, v, e1, e2, e3⟩ := ih.ok.seen_now ek
            exact ⟨j, by rw [ek, ej], v, e1, e2, e3⟩
          · have h1 := ih.len
            show (A.1.puts ++ [_]).length ≤ _
            rw [List.length_append, List.length_singleton]
            omega
          · have h1 := ih.f
            show (A.2.1 ++ [_]).length ≤ _
            rw [List.length_append, List.length_singleton]
            omega
          · have h1 := ih.l
            show (A.2.2 ++ [_]).length ≤ _
            rw [List.length_append, List.length_singleton]
            omega
    · exact no (De.fill_no (.inl c1))
/-- what comes can be -/
theorem De.Ok.come {fr : List Int} {S : De} (h : S.Ok fr) (fo : FrOk fr) {dd : Deed} (m : S.May fr dd) : (S.come fr dd).1.Ok fr ∧ (S.come fr dd).1.puts.length ≤ S.puts.length + 6 := by
  cases dd with
  | phrase x =>
    refine ⟨h.phrase m.1 m.2, ?_⟩
    show (S.puts ++ [_]).length ≤ _
    rw [List.length_append, List.length_singleton]
    omega
  | put p t x s o =>
    obtain ⟨h1, h2, h3, _, h5⟩ := m
    refine ⟨h.lay h1 h2 h3 h5, ?_⟩
    show (S.puts ++ [_]).length ≤ _
    rw [List.length_append, List.length_singleton]
    omega
  | back p t => exact ⟨h.off m.2.2, Nat.le_add_right _ _⟩
  | fill t =>
    have z := fillTo_ok h fo m.1 m.2 S.n (Nat.le_refl _)
    have z1 := z.len
    have z2 := h.six
    exact ⟨z.ok, show (S.fillTo fr t S.n).1.puts.length ≤ _ by omega⟩
end PD

/-! Phrasedesk: tales -/
namespace PD
open PySem PySem.Spec PyProof.Rows L2
inductive Tl where
  | phrase (p : Int) (x : Str) (k : Int)
  | put (p t : Int) (x : Str) (s o : Option Int) (k : Int)
  | back (p t k : Int)
def Tl.vals : Tl → List V
  | .phrase p x k => [.str "phrase", .int p, .str x, .int k]
  | .put p t x s o k => [.str "put", .int p, .int t, .str x, oV s, oV o, .int k]
  | .back p t k => [.str "back", .int p, .int t, .int k]
def lowS (x : Str) : Prop := ∀ c ∈ x.cps.toList, 97 ≤ c ∧ c ≤ 122
def Tl.Low : Tl → Prop
  | .phrase _ x _ => lowS x ∧ x.length ≤ 5000
  | .put _ _ x _ _ _ => lowS x ∧ x.length ≤ 5000
  | .back _ _ _ => True
def lenOk (x : Str) : Bool := decide (1 ≤ x.length) && decide (x.length ≤ 6)
theorem tx_len {x : Str} (l : lowS x) (h : lenOk x = true) : TxOk x := by
  unfold lenOk at h
  rw [Bool.and_eq_true] at h
  exact ⟨of_decide_eq_true h.1, of_decide_eq_true h.2, l⟩
def inPT (fr : List Int) (S : De) (p t : Int) : Bool := (decide (0 ≤ p) && decide (p < (S.n : Int))) && (decide (0 ≤ t) && decide (t ≤ (fr.length : Int)))
def De.seens (fr : List Int) (S : De) (p t : Nat) : List (Option Int) := if t = 0 then [Option.none] else (S.ever p (up fr t)).map fun e => some e.1
def De.fits (fr : List Int) (S : De) : Tl → Bool
  | .phrase p x k => (decide (p = (S.n : Int)) && decide ((S.n : Int) < 6)) && (lenOk x && decide (k = (S.puts.length : Int)))
  | .back p t k => inPT fr S p t && (decide ((if t.toNat = 0 then 1 else 0) < (S.lie p.toNat t.toNat).length) && decide (some k = S.now p.toNat t.toNat))
  | .put p t x s o k => inPT fr S p t && (lenOk x && (decide (s ∈ S.seens fr p.toNat t.toNat) && (decide (o = S.now p.toNat t.toNat) && decide (k = (S.puts.length : Int)))))
def Tl.deed : Tl → Deed
  | .phrase _ x _ => .phrase x
  | .put p t x s o _ => .put p.toNat t.toNat x s o
  | .back p t _ => .back p.toNat t.toNat
def wrongFrom (fr : List Int) : De → Nat → List Tl → Option Nat
  | _, _, [] => Option.none
  | S, i, n :: r => if S.fits fr n then wrongFrom fr (S.come fr n.deed).1 (i + 1) r else some i
theorem inPT_iff {fr : List Int} {S : De} {p t : Int} (h : inPT fr S p t = true) : 0 ≤ p ∧ p < (S.n : Int) ∧ 0 ≤ t ∧ t ≤ (fr.length : Int) := by
  unfold inPT at h
  simp only [Bool.and_eq_true, decide_eq_true_eq] at h
  exact ⟨h.1.1, h.1.2, h.2.1, h.2.2⟩
theorem De.fits_may {fr : List Int} {S : De} {n : Tl} (low : n.Low) (h : S.fits fr n = true) : S.May fr n.deed := by
  cases n with
  | phrase p x k =>
    unfold De.fits at h
    simp only [Bool.and_eq_true, decide_eq_true_eq] at h
    exact ⟨by have := h.1.2; omega, tx_len low.1 h.2.1⟩
  | back p t k =>
    have h' : (inPT fr S p t && (decide ((if t.toNat = 0 then 1 else 0) < (S.lie p.toNat t.toNat).length) && decide (some k = S.now p.toNat t.toNat))) = true := h
    rw [Bool.and_eq_true, Bool.and_eq_true] at h'
    obtain ⟨h1, h2, h3⟩ := h'
    obtain ⟨a, b, c, d⟩ := inPT_iff h1
    exact ⟨by omega, by omega, of_decide_eq_true h2⟩
  | put p t x s o k =>
    have h' : (inPT fr S p t && (lenOk x && (decide (s ∈ S.seens fr p.toNat t.toNat) && (decide (o = S.now p.toNat t.toNat) && decide (k = (S.puts.length : Int)))))) = true := h
    simp only [Bool.and_eq_true, decide_eq_true_eq] at h'
    obtain ⟨h1, h2, h3, h4, h5⟩ := h'
    obtain ⟨a, b, c, d⟩ := inPT_iff h1
    refine ⟨by omega, by omega, tx_len low.1 h2, h4, ?_, ?_⟩
    · intro z
      unfold De.seens at h3
      rw [if_pos z] at h3
      exact List.mem_singleton.mp h3
    · intro z
      unfold De.seens at h3
      rw [if_neg (by omega)] at h3
      obtain ⟨e, he, rfl⟩ := List.mem_map.mp h3
      obtain ⟨j, ej, v, h6⟩ := De.seen_ever he
      exact ⟨j, congrArg some ej, v, h6⟩
end PD

/-! Phrasedesk: a desk's state, as it lies in the program's own objects -/
namespace PD
open PySem PySem.Spec PyProof.Rows L2
theorem pe_fldK {X : Cx} {K : PySem.W.Frag} {e : Expr} {f : Str} {pos : Pos} {ta : TE} (hK : X.K = K) (he : PE X e ta) (hb : attributeBase e f X.env (eval e X.env) = eval e X.env) : PE X (.Attribute e f pos) (tFld K ta f) := by
  subst hK
  exact pe_fld he hb
/-- where a Past's things lie -/
structure PA where
  dx : Addr
  f : Addr
  tx : Addr
  og : Addr
  ev : Addr
  pi : Addr
  ekv : List (List Key × V)
  pkv : List (List Key × V)
  eA : Nat → Nat → Addr
  pA : Nat → Nat → Addr
abbrev pastF (n : Nat) (A : PA) : List (Str × V) := [("froms", .ref A.f), ("phrases", .int (n : Int)), ("texts", .ref A.tx), ("origins", .ref A.og), ("ever", .ref A.ev), ("piles", .ref A.pi)]
def setAt {α : Type} (g : Nat → Nat → α) (p t : Nat) (v : α) : Nat → Nat → α := fun p' t' => if p' = p ∧ t' = t then v else g p' t'
theorem setAt_same {α : Type} {g : Nat → Nat → α} {p t : Nat} {v : α} : setAt g p t v p t = v := by
  unfold setAt
  rw [if_pos ⟨rfl, rfl⟩]
theorem setAt_ne {α : Type} {g : Nat → Nat → α} {p t p' t' : Nat} {v : α} (h : ¬ (p' = p ∧ t' = t)) : setAt g p t v p' t' = g p' t' := by
  unfold setAt
  rw [if_neg h]
structure Raw (H : Hp) (C a : Addr) (fr : List Int) (n : Nat) (xs os : List V) (E : Nat → Nat → List (Key × V)) (L : Nat → Nat → List Int) (DE DP : Nat → Nat → Prop) (A : PA) : Prop where
  obj : H a = some (.ins C A.dx (pastF n A))
  frm : LsAt H A.f fr
  tx : H A.tx = some (.lst xs)
  og : H A.og = some (.lst os)
  ev : H A.ev = some (.dT A.ekv)
  pi : H A.pi = some (.dT A.pkv)
  evs : ∀ p t, DE p t → valV A.ekv (ty p t) = some (.ref (A.eA p t)) ∧ H (A.eA p t) = some (.dK (E p t))
  pis : ∀ p t, DP p t → valV A.pkv (ty p t) = some (.ref (A.pA p t)) ∧ LsAt H (A.pA p t) (L p t)
  n1 : A.tx ≠ A.og
  n2 : A.f ≠ A.tx
  n3 : A.f ≠ A.og
  n4 : A.ev ≠ A.pi
  n5 : ∀ p t, DP p t → A.pA p t ≠ A.f ∧ A.pA p t ≠ A.tx ∧ A.pA p t ≠ A.og
  i1 : ∀ p t p' t', DP p t → DP p' t' → A.pA p t = A.pA p' t' → p = p' ∧ t = t'
  i2 : ∀ p t p' t', DE p t → DE p' t' → A.eA p t = A.eA p' t' → p = p' ∧ t = t'
/-- its own addresses -/
def Foot (a : Addr) (DE DP : Nat → Nat → Prop) (A : PA) (x : Addr) : Prop := x = a ∨ x = A.f ∨ x = A.tx ∨ x = A.og ∨ x = A.ev ∨ x = A.pi ∨ (∃ p t, DE p t ∧ x = A.eA p t) ∨ ∃ p t, DP p t ∧ x = A.pA p t
section
variable {H H' : Hp} {C a : Addr} {fr : List Int} {n : Nat} {xs os : List V} {E : Nat → Nat → List (Key × V)} {L : Nat → Nat → List Int} {DE DP : Nat → Nat → Prop} {A : PA}
theorem Raw.keep (h : Raw H C a fr n xs os E L DE DP A) (k : ∀ x o, Foot a DE DP A x → H x = some o → H' x = some o) : Raw H' C a fr n xs os E L DE DP A :=
  ⟨k _ _ (.inl rfl) h.obj, k _ _ (.inr (.inl rfl)) h.frm, k _ _ (.inr (.inr (.inl rfl))) h.tx, k _ _ (.inr (.inr (.inr (.inl rfl)))) h.og, k _ _ (.inr (.inr (.inr (.inr (.inl rfl))))) h.ev, k _ _ (.inr (.inr (.inr (.inr (.inr (.inl rfl)))))) h.pi,
   fun p t d => ⟨(h.evs p t d).1, k _ _ (.inr (.inr (.inr (.inr (.inr (.inr (.inl ⟨p, t, d, rfl⟩))))))) (h.evs p t d).2⟩, fun p t d => ⟨(h.pis p t d).1, k _ _ (.inr (.inr (.inr (.inr (.inr (.inr (.inr ⟨p, t, d, rfl⟩))))))) (h.pis p t d).2⟩, h.n1, h.n2, h.n3, h.n4, h.n5, h.i1, h.i2⟩
theorem Raw.same (s : Same H H') (h : Raw H C a fr n xs os E L DE DP A) : Raw H' C a fr n xs os E L DE DP A := h.keep fun _ _ _ e => s _ _ e
/-- none of its own is a tuple, all are there -/
theorem Raw.foot (h : Raw H C a fr n xs os E L DE DP A) {x : Addr} (hx : Foot a DE DP A x) : ∃ o, H x = some o ∧ ∀ ys, o ≠ .tup ys := by
  rcases hx with rfl | rfl | rfl | rfl | rfl | rfl | ⟨p, t, d, rfl⟩ | ⟨p, t, d, rfl⟩
  · exact ⟨_, h.obj, fun _ z => nomatch z⟩
  · exact ⟨_, h.frm, fun _ z => nomatch z⟩
  · exact ⟨_, h.tx, fun _ z => nomatch z⟩
  · exact ⟨_, h.og, fun _ z => nomatch z⟩
  · exact ⟨_, h.ev, fun _ z => nomatch z⟩
  · exact ⟨_, h.pi, fun _ z => nomatch z⟩
  · exact ⟨_, (h.evs p t d).2, fun _ z => nomatch z⟩
  · exact ⟨_, (h.pis p t d).2, fun _ z => nomatch z⟩
theorem Raw.setTx (h : Raw H C a fr n xs os E L DE DP A) (ys : List V) : Raw (upd H A.tx (.lst ys)) C a fr n ys os E L DE DP A := by
  refine ⟨?_, ?_, upd_same, ?_, ?_, ?_, fun p t d => ⟨(h.evs p t d).1, ?_⟩, fun p t d => ⟨(h.pis p t d).1, ?_⟩, h.n1, h.n2, h.n3, h.n4, h.n5, h.i1, h.i2⟩
  · rw [upd_ne (ne_of h.obj h.tx (fun z => nomatch z))]; exact h.obj
  · unfold LsAt; rw [upd_ne h.n2]; exact h.frm
  · rw [upd_ne (Ne.symm h.n1)]; exact h.og
  · rw [upd_ne (ne_of h.ev h.tx (fun z => nomatch z))]; exact h.ev
  · rw [upd_ne (ne_of h.pi h.tx (fun z => nomatch z))]; exact h.pi
  · rw [upd_ne (ne_of (h.evs p t d).2 h.tx (fun z => nomatch z))]; exact (h.evs p t d).2
  · unfold LsAt; rw [upd_ne (h.n5 p t d).2.1]; exact (h.pis p t d).2
theorem Raw.setOg (h : Raw H C a fr n xs os E L DE DP A) (ys : List V) : Raw (upd H A.og (.lst ys)) C a fr n xs ys E L DE DP A := by
  refine ⟨?_, ?_, ?_, upd_same, ?_, ?_, fun p t d => ⟨(h.evs p t d).1, ?_⟩, fun p t d => ⟨(h.pis p t d).1, ?_⟩, h.n1, h.n2, h.n3, h.n4, h.n5, h.i1, h.i2⟩
  · rw [upd_ne (ne_of h.obj h.og (fun z => nomatch z))]; exact h.obj
  · unfold LsAt; rw [upd_ne h.n3]; exact h.frm
  · rw [upd_ne h.n1]; exact h.tx
  · rw [upd_ne (ne_of h.ev h.og (fun z => nomatch z))]; exact h.ev
  · rw [upd_ne (ne_of h.pi h.og (fun z => nomatch z))]; exact h.pi
  · rw [upd_ne (ne_of (h.evs p t d).2 h.og (fun z => nomatch z))]; exact (h.evs p t d).2
  · unfold LsAt; rw [upd_ne (h.n5 p t d).2.2]; exact (h.pis p t d).2
theorem Raw.setEv (h : Raw H C a fr n xs os E L DE DP A) {p t : Nat} (d : DE p t) (kv : List (Key × V)) : Raw (upd H (A.eA p t) (.dK kv)) C a fr n xs os (setAt E p t kv) L DE DP A := by
  have he := (h.evs p t d).2
  refine ⟨?_, ?_, ?_, ?_, ?_, ?_, fun p' t' d' => ⟨(h.evs p' t' d').1, ?_⟩, fun p' t' d' => ⟨(h.pis p' t' d').1, ?_⟩, h.n1, h.n2, h.n3, h.n4, h.n5, h.i1, h.i2⟩
  · rw [upd_ne (ne_of h.obj he (fun z => nomatch z))]; exact h.obj
  · unfold LsAt; rw [upd_ne (ne_of h.frm he (fun z => nomatch z))]; exact h.frm
  · rw [upd_ne (ne_of h.tx he (fun z => nomatch z))]; exact h.tx
  · rw [upd_ne (ne_of h.og he (fun z => nomatch z))]; exact h.og
  · rw [upd_ne (ne_of h.ev he (fun z => nomatch z))]; exact h.ev
  · rw [upd_ne (ne_of h.pi he (fun z => nomatch z))]; exact h.pi
  · by_cases c : p' = p ∧ t' = t
    · rw [c.1, c.2, upd_same, setAt_same]
    · rw [upd_ne (fun z => c (h.i2 _ _ _ _ d' d z)), setAt_ne c]
      exact (h.evs p' t' d').2
  · unfold LsAt; rw [upd_ne (ne_of (h.pis p' t' d').2 he (fun z => nomatch z))]; exact (h.pis p' t' d').2
theorem Raw.setPi (h : Raw H C a fr n xs os E L DE DP A) {p t : Nat} (d : DP p t) (ns : List Int) : Raw (upd H (A.pA p t) (.lst (ns.map V.int))) C a fr n xs os E (setAt L p t ns) DE DP A := by
  have he := (h.pis p t d).2
  obtain ⟨m1, m2, m3⟩ := h.n5 p t d
  refine ⟨?_, ?_, ?_, ?_, ?_, ?_, fun p' t' d' => ⟨(h.evs p' t' d').1, ?_⟩, fun p' t' d' => ⟨(h.pis p' t' d').1, ?_⟩, h.n1, h.n2, h.n3, h.n4, h.n5, h.i1, h.i2⟩
  · rw [upd_ne (ne_of h.obj he (fun z => nomatch z))]; exact h.obj
  · unfold LsAt; rw [upd_ne (Ne.symm m1)]; exact h.frm
  · rw [upd_ne (Ne.symm m2)]; exact h.tx
  · rw [upd_ne (Ne.symm m3)]; exact h.og
  · rw [upd_ne (ne_of h.ev he (fun z => nomatch z))]; exact h.ev
  · rw [upd_ne (ne_of h.pi he (fun z => nomatch z))]; exact h.pi
  · rw [upd_ne (ne_of (h.evs p' t' d').2 he (fun z => nomatch z))]; exact (h.evs p' t' d').2
  · by_cases c : p' = p ∧ t' = t
    · rw [c.1, c.2, setAt_same]; exact upd_same
    · unfold LsAt
      rw [upd_ne (fun z => c (h.i1 _ _ _ _ d' d z)), setAt_ne c]
      exact (h.pis p' t' d').2
theorem Raw.setN (h : Raw H C a fr n xs os E L DE DP A) (m : Nat) : Raw (upd H a (.ins C A.dx (pastF m A))) C a fr m xs os E L DE DP A := by
  refine ⟨upd_same, ?_, ?_, ?_, ?_, ?_, fun p t d => ⟨(h.evs p t d).1, ?_⟩, fun p t d => ⟨(h.pis p t d).1, ?_⟩, h.n1, h.n2, h.n3, h.n4, h.n5, h.i1, h.i2⟩
  · unfold LsAt; rw [upd_ne (ne_of h.frm h.obj (fun z => nomatch z))]; exact h.frm
  · rw [upd_ne (ne_of h.tx h.obj (fun z => nomatch z))]; exact h.tx
  · rw [upd_ne (ne_of h.og h.obj (fun z => nomatch z))]; exact h.og
  · rw [upd_ne (ne_of h.ev h.obj (fun z => nomatch z))]; exact h.ev
  · rw [upd_ne (ne_of h.pi h.obj (fun z => nomatch z))]; exact h.pi
  · rw [upd_ne (ne_of (h.evs p t d).2 h.obj (fun z => nomatch z))]; exact (h.evs p t d).2
  · unfold LsAt; rw [upd_ne (ne_of (h.pis p t d).2 h.obj (fun z => nomatch z))]; exact (h.pis p t d).2
def addD (D : Nat → Nat → Prop) (p t : Nat) : Nat → Nat → Prop := fun p' t' => D p' t' ∨ (p' = p ∧ t' = t)
theorem ty_ne {p t p' t' : Nat} (h : ¬ (p' = p ∧ t' = t)) : ty p' t' ≠ ty p t := fun z => h (ty_inj z)
theorem Raw.addE {e : Addr} (h : Raw H C a fr n xs os E L DE DP A) {p t : Nat} (d : ¬ DE p t) (s : Same H H') (ne : H e = none) (he : H' e = some (.dK [])) :
    Raw (upd H' A.ev (.dT (putK A.ekv (ty p t) (.ref e)))) C a fr n xs os (setAt E p t []) L (addD DE p t) DP { A with ekv := putK A.ekv (ty p t) (.ref e), eA := setAt A.eA p t e } := by
  have g := h.same s
  have nev : e ≠ A.ev := fun z => by rw [z, h.ev] at ne; cases ne
  have old : ∀ p' t', addD DE p t p' t' → ¬ (p' = p ∧ t' = t) → DE p' t' := fun p' t' z c => z.resolve_right c
  refine ⟨?_, ?_, ?_, ?_, upd_same, ?_, fun p' t' d' => ?_, fun p' t' d' => ⟨(g.pis p' t' d').1, ?_⟩, h.n1, h.n2, h.n3, h.n4, h.n5, h.i1, ?_⟩
  · rw [upd_ne (ne_of g.obj g.ev (fun z => nomatch z))]; exact g.obj
  · unfold LsAt; rw [upd_ne (ne_of g.frm g.ev (fun z => nomatch z))]; exact g.frm
  · rw [upd_ne (ne_of g.tx g.ev (fun z => nomatch z))]; exact g.tx
  · rw [upd_ne (ne_of g.og g.ev (fun z => nomatch z))]; exact g.og
  · rw [upd_ne (Ne.symm g.n4)]; exact g.pi
  · show valV (putK A.ekv (ty p t) (.ref e)) (ty p' t') = some (.ref (setAt A.eA p t e p' t')) ∧ (upd H' A.ev (.dT (putK A.ekv (ty p t) (.ref e)))) (setAt A.eA p t e p' t') = some (.dK (setAt E p t [] p' t'))
    rw [valV_put]
    by_cases c : p' = p ∧ t' = t
    · rw [c.1, c.2, if_pos rfl, setAt_same, setAt_same, upd_ne nev]
      exact ⟨rfl, he⟩
    · have dd := old p' t' d' c
      rw [if_neg (ty_ne c), setAt_ne c, setAt_ne c, upd_ne (ne_of (g.evs p' t' dd).2 g.ev (fun z => nomatch z))]
      exact g.evs p' t' dd
  · unfold LsAt; rw [upd_ne (ne_of (g.pis p' t' d').2 g.ev (fun z => nomatch z))]; exact (g.pis p' t' d').2
  · intro p1 t1 p2 t2 d1 d2 z
    have z' : setAt A.eA p t e p1 t1 = setAt A.eA p t e p2 t2 := z
    by_cases c1 : p1 = p ∧ t1 = t
    · by_cases c2 : p2 = p ∧ t2 = t
      · exact ⟨c1.1.trans c2.1.symm, c1.2.trans c2.2.symm⟩
      · rw [c1.1, c1.2, setAt_same, setAt_ne c2] at z'
        have := (h.evs p2 t2 (old _ _ d2 c2)).2
        rw [← z', ne] at this
        cases this
    · by_cases c2 : p2 = p ∧ t2 = t
      · rw [c2.1, c2.2, setAt_same, setAt_ne c1] at z'
        have := (h.evs p1 t1 (old _ _ d1 c1)).2
        rw [z', ne] at this
        cases this
      · rw [setAt_ne c1, setAt_ne c2] at z'
        exact h.i2 _ _ _ _ (old _ _ d1 c1) (old _ _ d2 c2) z'
theorem Raw.addP {e : Addr} (h : Raw H C a fr n xs os E L DE DP A) {p t : Nat} (d : ¬ DP p t) (s : Same H H') (ne : H e = none) (he : H' e = some (.lst [])) :
    Raw (upd H' A.pi (.dT (putK A.pkv (ty p t) (.ref e)))) C a fr n xs os E (setAt L p t []) DE (addD DP p t) { A with pkv := putK A.pkv (ty p t) (.ref e), pA := setAt A.pA p t e } := by
  have g := h.same s
  have nev : e ≠ A.pi := fun z => by rw [z, h.pi] at ne; cases ne
  have old : ∀ p' t', addD DP p t p' t' → ¬ (p' = p ∧ t' = t) → DP p' t' := fun p' t' z c => z.resolve_right c
  refine ⟨?_, ?_, ?_, ?_, ?_, upd_same, fun p' t' d' => ⟨(g.evs p' t' d').1, ?_⟩, fun p' t' d' => ?_, h.n1, h.n2, h.n3, h.n4, ?_, ?_, h.i2⟩
  · rw [upd_ne (ne_of g.obj g.pi (fun z => nomatch z))]; exact g.obj
  · unfold LsAt; rw [upd_ne (ne_of g.frm g.pi (fun z => nomatch z))]; exact g.frm
  · rw [upd_ne (ne_of g.tx g.pi (fun z => nomatch z))]; exact g.tx
  · rw [upd_ne (ne_of g.og g.pi (fun z => nomatch z))]; exact g.og
  · rw [upd_ne g.n4]; exact g.ev
  · rw [upd_ne (ne_of (g.evs p' t' d').2 g.pi (fun z => nomatch z))]; exact (g.evs p' t' d').2
  · show valV (putK A.pkv (ty p t) (.ref e)) (ty p' t') = some (.ref (setAt A.pA p t e p' t')) ∧ LsAt (upd H' A.pi (.dT (putK A.pkv (ty p t) (.ref e)))) (setAt A.pA p t e p' t') (setAt L p t [] p' t')
    rw [valV_put]
    by_cases c : p' = p ∧ t' = t
    · rw [c.1, c.2, if_pos rfl, setAt_same, setAt_same]
      unfold LsAt
      rw [upd_ne nev]
      exact ⟨rfl, he⟩
    · have dd := old p' t' d' c
      rw [if_neg (ty_ne c), setAt_ne c, setAt_ne c]
      unfold LsAt
      rw [upd_ne (ne_of (g.pis p' t' dd).2 g.pi (fun z => nomatch z))]
      exact g.pis p' t' dd
  · intro p' t' d'
    show setAt A.pA p t e p' t' ≠ A.f ∧ setAt A.pA p t e p' t' ≠ A.tx ∧ setAt A.pA p t e p' t' ≠ A.og
    by_cases c : p' = p ∧ t' = t
    · rw [c.1, c.2, setAt_same]
      exact ⟨Ne.symm (ne_of_none h.frm ne), Ne.symm (ne_of_none h.tx ne), Ne.symm (ne_of_none h.og ne)⟩
    · rw [setAt_ne c]
      exact h.n5 _ _ (old _ _ d' c)
  · intro p1 t1 p2 t2 d1 d2 z
    have z' : setAt A.pA p t e p1 t1 = setAt A.pA p t e p2 t2 := z
    by_cases c1 : p1 = p ∧ t1 = t
    · by_cases c2 : p2 = p ∧ t2 = t
      · exact ⟨c1.1.trans c2.1.symm, c1.2.trans c2.2.symm⟩
      · rw [c1.1, c1.2, setAt_same, setAt_ne c2] at z'
        have := (h.pis p2 t2 (old _ _ d2 c2)).2
        rw [← z', LsAt, ne] at this
        cases this
    · by_cases c2 : p2 = p ∧ t2 = t
      · rw [c2.1, c2.2, setAt_same, setAt_ne c1] at z'
        have := (h.pis p1 t1 (old _ _ d1 c1)).2
        rw [z', LsAt, ne] at this
        cases this
      · rw [setAt_ne c1, setAt_ne c2] at z'
        exact h.i1 _ _ _ _ (old _ _ d1 c1) (old _ _ d2 c2) z'
theorem Raw.congr {n' : Nat} {xs' os' : List V} {E' : Nat → Nat → List (Key × V)} {L' : Nat → Nat → List Int} {DE' DP' : Nat → Nat → Prop} (h : Raw H C a fr n xs os E L DE DP A) (e1 : n' = n) (e2 : xs' = xs) (e3 : os' = os)
    (e4 : ∀ p t, DE' p t → DE p t ∧ E' p t = E p t) (e5 : ∀ p t, DP' p t → DP p t ∧ L' p t = L p t) : Raw H C a fr n' xs' os' E' L' DE' DP' A := by
  subst e1 e2 e3
  exact ⟨h.obj, h.frm, h.tx, h.og, h.ev, h.pi, fun p t d => by rw [(e4 p t d).2]; exact h.evs p t (e4 p t d).1, fun p t d => by rw [(e5 p t d).2]; exact h.pis p t (e5 p t d).1, h.n1, h.n2, h.n3, h.n4, fun p t d => h.n5 p t (e5 p t d).1,
    fun p t p' t' d d' => h.i1 p t p' t' (e5 p t d).1 (e5 p' t' d').1, fun p t p' t' d d' => h.i2 p t p' t' (e4 p t d).1 (e4 p' t' d').1⟩
end
/-! ### the state in a Past -/
def eK (S : De) (p t : Nat) : List (Key × V) := (S.ever p t).map fun e => ((Sum.inl e.1 : Key), V.bl true)
def Dom (fr : List Int) (n : Nat) : Nat → Nat → Prop := fun p t => p < n ∧ t ≤ fr.length
structure PastAt (H : Hp) (C a : Addr) (fr : List Int) (S : De) (A : PA) : Prop where
  raw : Raw H C a fr S.n (S.puts.map fun u => V.str u.x) (S.puts.map fun u => oV u.s) (eK S) S.lie (Dom fr S.n) (Dom fr S.n) A
  few : S.puts.length ≤ 5000
  lens : ∀ p t, (S.lie p t).length ≤ S.puts.length
  el : A.ekv.length ≤ 100 * S.n
  pl : A.pkv.length ≤ 100 * S.n
abbrev footP (a : Addr) (fr : List Int) (n : Nat) (A : PA) : Addr → Prop := Foot a (Dom fr n) (Dom fr n) A
section
variable {H H' : Hp} {C a : Addr} {fr : List Int} {S : De} {A : PA}
theorem PastAt.same (s : Same H H') (h : PastAt H C a fr S A) : PastAt H' C a fr S A := ⟨h.raw.same s, h.few, h.lens, h.el, h.pl⟩
theorem PastAt.keep (h : PastAt H C a fr S A) (k : ∀ x o, footP a fr S.n A x → H x = some o → H' x = some o) : PastAt H' C a fr S A := ⟨h.raw.keep k, h.few, h.lens, h.el, h.pl⟩
/-- nothing but its own is changed; what is there stays there -/
structure Only (F : Addr → Prop) (H H' : Hp) : Prop where
  out : ∀ x o, ¬ F x → H x = some o → H' x = some o
  grow : ∀ x o, H x = some o → ∃ u, H' x = some u
theorem only_same {F : Addr → Prop} (s : Same H H') : Only F H H' := ⟨fun x o _ e => s x o e, fun x o e => ⟨o, s x o e⟩⟩
theorem Only.trans {F : Addr → Prop} {H2 : Hp} (h : Only F H H') (k : Only F H' H2) : Only F H H2 := ⟨fun x o n e => k.out x o n (h.out x o n e), fun x o e => let ⟨u, z⟩ := h.grow x o e; k.grow x u z⟩
theorem grow_upd {H H' : Hp} {y : Addr} {o : HO} (h : ∀ x o, H x = some o → ∃ u, H' x = some u) : ∀ x v, H x = some v → ∃ u, (upd H' y o) x = some u := by
  intro x v e
  by_cases c : x = y
  · rw [c]
    exact ⟨_, upd_same⟩
  · rw [upd_ne c]
    exact h x v e
theorem Only.set {F : Addr → Prop} {y : Addr} {o : HO} (h : Only F H H') (fy : F y) : Only F H (upd H' y o) := ⟨fun x u n e => by
  have ne : x ≠ y := fun z => n (by rw [z]; exact fy)
  rw [upd_ne ne]
  exact h.out x u n e, grow_upd h.grow⟩
theorem Only.same {F : Addr → Prop} {H2 : Hp} (h : Only F H H') (k : Same H' H2) : Only F H H2 := h.trans (only_same k)
theorem Only.mono {F G : Addr → Prop} (h : Only F H H') (k : ∀ x, F x → G x) : Only G H H' := ⟨fun x o n e => h.out x o (fun z => n (k x z)) e, h.grow⟩
theorem Only.chg {F : Addr → Prop} {y : Addr} {o : HO} (h : Only F H H') (ny : H y = none) : Only F H (upd H' y o) := ⟨fun x u n e => by
  rw [upd_ne (ne_of_none e ny)]
  exact h.out x u n e, grow_upd h.grow⟩
theorem Only.free {F : Addr → Prop} {y : Addr} (h : Only F H H') (ny : H' y = none) : H y = none := by
  cases e : H y with
  | none => rfl
  | some o =>
    obtain ⟨u, eu⟩ := h.grow y o e
    rw [ny] at eu
    cases eu
theorem lookup_at {α : Type} {l : List α} {f : α → V} {k : Nat} {u : α} (h : l[k]? = some u) : (l.map f)[k]? = some (f u) := by
  rw [List.getElem?_map, h]
  rfl
theorem pf_froms (n : Nat) (A : PA) : (pastF n A).lookup ("froms" : Str) = some (.ref A.f) := rfl
theorem pf_phrases (n : Nat) (A : PA) : (pastF n A).lookup ("phrases" : Str) = some (.int (n : Int)) := rfl
theorem pf_texts (n : Nat) (A : PA) : (pastF n A).lookup ("texts" : Str) = some (.ref A.tx) := rfl
theorem pf_origins (n : Nat) (A : PA) : (pastF n A).lookup ("origins" : Str) = some (.ref A.og) := rfl
theorem pf_ever (n : Nat) (A : PA) : (pastF n A).lookup ("ever" : Str) = some (.ref A.ev) := rfl
theorem pf_piles (n : Nat) (A : PA) : (pastF n A).lookup ("piles" : Str) = some (.ref A.pi) := rfl
theorem pf_more (n : Nat) (A : PA) : putF ("phrases" : Str) (.int ((n : Int) + 1)) (pastF n A) = pastF (n + 1) A := rfl
theorem eK_none {k : Int} : ∀ {l : List (Int × Str)}, (∀ e ∈ l, e.1 ≠ k) → valV (l.map fun e => ((Sum.inl e.1 : Key), V.bl true)) (Sum.inl k) = none
  | [], _ => rfl
  | e :: r, h => by
    rw [List.map_cons, valV_neg (fun z => h e List.mem_cons_self (Sum.inl.inj z))]
    exact eK_none fun x hx => h x (List.mem_cons_of_mem _ hx)
theorem eK_has {k : Int} : ∀ {l : List (Int × Str)}, (valV (l.map fun e => ((Sum.inl e.1 : Key), V.bl true)) (Sum.inl k)).isSome = decide (k ∈ l.map (·.1))
  | [] => by simp [valV_nil]
  | e :: r => by
    rw [List.map_cons]
    by_cases c : e.1 = k
    · rw [valV_pos (by rw [c])]
      simp [c]
    · rw [valV_neg (fun z => c (Sum.inl.inj z)), eK_has]
      simp [Ne.symm c]
theorem ever_lt {p t : Nat} {e : Int × Str} (h : e ∈ S.ever p t) : e.1 < (S.puts.length : Int) := by
  obtain ⟨j, ej, v, e1, _⟩ := De.seen_ever h
  have := (List.getElem?_eq_some_iff.mp e1).1
  omega
theorem eK_lay {p t : Nat} {x : Str} {s : Option Int} (p' t' : Nat) : eK (S.lay p t x s) p' t' = setAt (eK S) p t (putK (eK S p t) (Sum.inl (S.puts.length : Int)) (V.bl true)) p' t' := by
  have ev : (S.lay p t x s).ever p' t' = S.ever p' t' ++ (if p = p' ∧ t = t' then [((S.puts.length : Int), x)] else []) := by
    show evG p' t' 0 (S.puts ++ [⟨p, t, x, s⟩]) = _
    rw [evG_snoc, Nat.zero_add]
    rfl
  have new : valV (eK S p t) (Sum.inl (S.puts.length : Int)) = none := eK_none fun e he => by
    have := ever_lt he
    omega
  unfold setAt
  by_cases c : p' = p ∧ t' = t
  · rw [if_pos c, c.1, c.2, putK_new _ new]
    unfold eK
    rw [c.1, c.2, if_pos ⟨rfl, rfl⟩] at ev
    rw [ev, List.map_append]
    rfl
  · rw [if_neg c]
    unfold eK
    rw [ev, if_neg (fun z => c ⟨z.1.symm, z.2.symm⟩), List.append_nil]
/-- one is put -/
theorem PastAt.lay {H1 H2 H3 H4 H5 : Hp} {p t : Nat} {x : Str} {s : Option Int} (h : PastAt H C a fr S A) (fw : S.puts.length < 5000) (hp : p < S.n) (ht : t ≤ fr.length)
    (s3 : Same (upd (upd H A.tx (.lst ((S.puts.map fun u => V.str u.x) ++ [V.str x]))) A.og (.lst ((S.puts.map fun u => oV u.s) ++ [oV s]))) H3)
    (s5 : Same (upd H3 (A.eA p t) (.dK (putK (eK S p t) (Sum.inl (S.puts.length : Int)) (V.bl true)))) H5) :
    PastAt (upd H5 (A.pA p t) (.lst ((S.lie p t).map V.int ++ [V.int (S.puts.length : Int)]))) C a fr (S.lay p t x s) A := by
  have d : Dom fr S.n p t := ⟨hp, ht⟩
  have r1 := ((((h.raw.setTx ((S.puts.map fun u => V.str u.x) ++ [V.str x])).setOg ((S.puts.map fun u => oV u.s) ++ [oV s])).same s3).setEv d (putK (eK S p t) (Sum.inl (S.puts.length : Int)) (V.bl true))).same s5
  have r2 := r1.setPi d (S.lie p t ++ [(S.puts.length : Int)])
  rw [List.map_append] at r2
  refine ⟨r2.congr rfl ?_ ?_ (fun p' t' d' => ⟨d', eK_lay p' t'⟩) (fun p' t' d' => ⟨d', rfl⟩), ?_, ?_, h.el, h.pl⟩
  · show (S.puts ++ [_]).map _ = _
    rw [List.map_append]
    rfl
  · show (S.puts ++ [_]).map _ = _
    rw [List.map_append]
    rfl
  · show (S.puts ++ [_]).length ≤ 5000
    rw [List.length_append, List.length_singleton]
    omega
  · intro p' t'
    show (setL S.lie p t _ p' t').length ≤ (S.puts ++ [_]).length
    have z := h.lens p' t'
    rw [List.length_append, List.length_singleton]
    unfold setL
    split
    · next e =>
      rw [e.1, e.2] at z
      rw [List.length_append, List.length_singleton]
      omega
    · omega
/-- what stands is taken back -/
theorem PastAt.off {p t : Nat} (h : PastAt H C a fr S A) (hp : p < S.n) (ht : t ≤ fr.length) : PastAt (upd H (A.pA p t) (.lst ((S.lie p t).map V.int).dropLast)) C a fr (S.off p t) A := by
  have r := h.raw.setPi (p := p) (t := t) ⟨hp, ht⟩ (S.lie p t).dropLast
  rw [List.map_dropLast] at r
  refine ⟨r.congr rfl rfl rfl (fun p' t' d' => ⟨d', rfl⟩) (fun p' t' d' => ⟨d', rfl⟩), h.few, ?_, h.el, h.pl⟩
  intro p' t'
  show (setL S.lie p t _ p' t').length ≤ S.puts.length
  have z := h.lens p' t'
  unfold setL
  split
  · next e =>
    rw [e.1, e.2] at z
    rw [List.length_dropLast]
    omega
  · exact z
theorem De.Ok.bare (ok : S.Ok fr) (t : Nat) : S.lie S.n t = [] ∧ S.ever S.n t = [] := by
  constructor
  · cases e : S.lie S.n t with
    | nil => rfl
    | cons k r =>
      obtain ⟨_, u, eu, hu, _⟩ := ok.num S.n t k (by rw [e]; exact List.mem_cons_self)
      have := (ok.each _ u eu).1
      omega
  · cases e : S.ever S.n t with
    | nil => rfl
    | cons k r =>
      obtain ⟨j, _, v, e1, e2, _⟩ := De.seen_ever (S := S) (p := S.n) (q := t) (e := k) (by rw [e]; exact List.mem_cons_self)
      have := (ok.each _ v e1).1
      omega
end
/-! ### a Desk -/
abbrev deskF (p L : Addr) : List (Str × V) := [("past", .ref p), ("lines", .ref L)]
structure DA where
  dx : Addr
  p : Addr
  L : Addr
  A : PA
structure DeskAt (H : Hp) (CD CP d : Addr) (fr : List Int) (S : De) (ls : List Line) (B : DA) : Prop where
  obj : H d = some (.ins CD B.dx (deskF B.p B.L))
  past : PastAt H CP B.p fr S B.A
  lines : LnAt H B.L ls
  nd : ¬ footP B.p fr S.n B.A d
  nL : ¬ footP B.p fr S.n B.A B.L
def footD (d : Addr) (fr : List Int) (n : Nat) (B : DA) : Addr → Prop := fun x => x = d ∨ x = B.L ∨ footP B.p fr n B.A x
/-- a desk, its things among F -/
def Desk (H : Hp) (CD CP d : Addr) (fr : List Int) (S : De) (ls : List Line) (F : Addr → Prop) : Prop :=
  ∃ B, DeskAt H CD CP d fr S ls B ∧ (∀ x, footD d fr S.n B x → F x) ∧ ∀ x, F x → ∃ o, H x = some o ∧ ∀ xs, o ≠ .tup xs
section
variable {H H' : Hp} {CD CP d : Addr} {fr : List Int} {S : De} {ls : List Line} {B : DA} {F : Addr → Prop}
theorem DeskAt.keep (h : DeskAt H CD CP d fr S ls B) (k : ∀ x o, footD d fr S.n B x → H x = some o → H' x = some o) (kt : ∀ q xs, H q = some (.tup xs) → H' q = some (.tup xs)) : DeskAt H' CD CP d fr S ls B := by
  obtain ⟨vs, hv, ha⟩ := h.lines
  exact ⟨k _ _ (.inl rfl) h.obj, h.past.keep fun x o z e => k x o (.inr (.inr z)) e, ⟨vs, k _ _ (.inr (.inl rfl)) hv, ha.mono fun _ _ ⟨q, z, u⟩ => ⟨q, z, kt _ _ u⟩⟩, h.nd, h.nL⟩
theorem Desk.keep (h : Desk H CD CP d fr S ls F) (k : ∀ x o, F x → H x = some o → H' x = some o) (kt : ∀ q xs, H q = some (.tup xs) → H' q = some (.tup xs)) : Desk H' CD CP d fr S ls F := by
  obtain ⟨B, h1, h2, h3⟩ := h
  refine ⟨B, h1.keep (fun x o z e => k x o (h2 x z) e) kt, h2, fun x fx => ?_⟩
  obtain ⟨o, e, n⟩ := h3 x fx
  exact ⟨o, k x o fx e, n⟩
theorem Desk.same (s : Same H H') (h : Desk H CD CP d fr S ls F) : Desk H' CD CP d fr S ls F := h.keep (fun x o _ e => s x o e) fun q xs e => s _ _ e
theorem DeskAt.foot (h : DeskAt H CD CP d fr S ls B) {x : Addr} (hx : footD d fr S.n B x) : ∃ o, H x = some o ∧ ∀ xs, o ≠ .tup xs := by
  rcases hx with rfl | rfl | hx
  · exact ⟨_, h.obj, fun _ z => nomatch z⟩
  · obtain ⟨vs, hv, _⟩ := h.lines
    exact ⟨_, hv, fun _ z => nomatch z⟩
  · exact h.past.raw.foot hx
theorem desk_of (h : DeskAt H CD CP d fr S ls B) : Desk H CD CP d fr S ls (footD d fr S.n B) := ⟨B, h, fun _ z => z, fun _ z => h.foot z⟩
/-- what is true behind a deed at the desk -/
def Goes (CD CP d : Addr) (fr : List Int) (H : Hp) (F : Addr → Prop) (S : De) (ls : List Line) (k : Hp → Prop) : Prop := ∀ (H' : Hp) (F' : Addr → Prop), Desk H' CD CP d fr S ls F' → Only F H H' → (∀ x, F' x → F x ∨ H x = none) → k H'
structure Went (CD CP d : Addr) (fr : List Int) (H : Hp) (F : Addr → Prop) (S : De) (ls : List Line) (H' : Hp) (F' : Addr → Prop) : Prop where
  desk : Desk H' CD CP d fr S ls F'
  only : Only F H H'
  foot : ∀ x, F' x → F x ∨ H x = none
theorem Went.refl (h : Desk H CD CP d fr S ls F) : Went CD CP d fr H F S ls H F := ⟨h, only_same (Same.refl _), fun _ z => .inl z⟩
theorem Went.same {H2 : Hp} {F' : Addr → Prop} (w : Went CD CP d fr H F S ls H' F') (s : Same H' H2) : Went CD CP d fr H F S ls H2 F' := ⟨w.desk.same s, w.only.same s, w.foot⟩
theorem Went.trans {H2 : Hp} {F1 F2 : Addr → Prop} {S' : De} {ls' : List Line} (w : Went CD CP d fr H F S ls H' F1) (v : Went CD CP d fr H' F1 S' ls' H2 F2) : Went CD CP d fr H F S' ls' H2 F2 := by
  refine ⟨v.desk, ⟨fun x o n e => v.only.out x o (fun z => (w.foot x z).elim n fun y => by rw [e] at y; cases y) (w.only.out x o n e), fun x o e => let ⟨u, z⟩ := w.only.grow x o e; v.only.grow x u z⟩, fun x z => ?_⟩
  rcases v.foot x z with y | y
  · exact w.foot x y
  · exact .inr (w.only.free y)
/-- a thing of one's own, not the desk's -/
theorem Went.chg {F' : Addr → Prop} {y : Addr} {o u : HO} (w : Went CD CP d fr H F S ls H' F') (ny : H y = none) (nF : ¬ F' y) (hy : H' y = some u) (nt : ∀ xs, u ≠ .tup xs) : Went CD CP d fr H F S ls (upd H' y o) F' := by
  refine ⟨w.desk.keep (fun x v fx e => ?_) (fun q xs e => ?_), w.only.chg ny, w.foot⟩
  · rw [upd_ne (fun z => nF (by rw [← z]; exact fx))]
    exact e
  · rw [upd_ne (ne_of e hy (fun z => nt _ z.symm))]
    exact e
theorem Desk.tup (h : Desk H CD CP d fr S ls F) (o : Only F H H') {q : Addr} {xs : List V} (e : H q = some (.tup xs)) : H' q = some (.tup xs) := by
  obtain ⟨B, h1, h2, h3⟩ := h
  refine o.out q _ (fun z => ?_) e
  obtain ⟨u, eu, nu⟩ := h3 q z
  rw [e] at eu
  exact nu _ (Option.some.inj eu).symm
theorem Desk.there (h : Desk H CD CP d fr S ls F) {x : Addr} (fx : F x) : ∃ o, H x = some o := by
  obtain ⟨B, h1, h2, h3⟩ := h
  obtain ⟨o, e, _⟩ := h3 x fx
  exact ⟨o, e⟩
theorem Went.new {F' : Addr → Prop} (w : Went CD CP d fr H F S ls H' F') (h : Desk H CD CP d fr S' ls' F) {y : Addr} (ny : H' y = none) : ¬ F' y := fun z => by
  obtain ⟨o, e⟩ := w.desk.there z
  rw [ny] at e
  cases e
end
end PD

/-! Phrasedesk: list(range(a, b, c)); texts of lines -/
namespace PD
open PySem PySem.Spec PyProof.Rows L2
def stepsV (i c : Int) (n : Nat) : List V := (List.range n).map fun k => V.int (i + (k : Nat) * c)
def tStp (ta : TA) : TE := fun σ G Q => ta σ G fun xs G1 => ∃ (i j c : Int) (n : Nat), xs = [.int i, .int j, .int c] ∧ RgC i j c n ∧ n ≤ 1000 ∧ ∀ q, G1 q = none → Q (.ref q) (upd G1 q (.lst (stepsV i c n)))
theorem steps_len {i c : Int} {n : Nat} : (stepsV i c n).length = n := by
  unfold stepsV
  rw [List.length_map, List.length_range]
theorem steps_vals {i c : Int} {n : Nat} {acc : Array Value} (h : ItemsOf (fun k v => ∃ t, v = .int (i + k * c) t) acc n) : Vals (stepsV i c n) acc.toList := by
  have el : acc.toList.length = n := (Array.length_toList).trans h.1
  unfold stepsV
  rw [← el]
  apply vals_of_get
  intro j u hj
  rw [Array.getElem?_toList] at hj
  exact h.2 j u hj
section
variable {X : Cx}
theorem pe_lstSteps {a b c : Expr} {ta : TA} {p1 p2 q1 q2 : Pos} (calm : X.calm = true) (g1 : Gl X "list") (m1 : X.mg "list" = none) (g2 : Gl X "range") (m2 : X.mg "range" = none) (ha : L2.PA X [a, b, c] ta)
    (st : starEach [a, b, c] X.env = (false, eval a X.env) :: starEach [b, c] X.env := by rfl) (pl : (backTo q2 (starEach [b, c] X.env)).any (·.1) = false := by rfl)
    (so : starEach [Expr.Call (.Name "range" p2) [a, b, c] [] q2] X.env = (false, eval (.Call (.Name "range" p2) [a, b, c] [] q2) X.env) :: starEach [] X.env := by rfl) :
    PE X (.Call (.Name "list" p1) [.Call (.Name "range" p2) [a, b, c] [] q2] [] q1) (tStp ta) := by
  constructor
  intro pins z σ G Q I h
  have made : wpAny (model X.prog X.w) X.A (eval (.Call (.Name "range" p2) [a, b, c] [] q2) X.env) (fun x z' => ∃ (r : Addr) (i j k : Int) (n : Nat) (t u v : Tok) (G' : Hp), x = .ref r ∧ IsRange z'.heap r i j k t u v ∧ Inv X pins σ G' z' ∧ RgC i j k n ∧ n ≤ 1000 ∧
      ∀ q, G' q = none → Q (.ref q) (upd G' q (.lst (stepsV i k n)))) X.xe z := by
    refine Call_ (ld_blt I g2 m2 boot_range (PyProof.Rows.callWith_type1 (thn (ha.run q2 pins z σ G _ I h) fun us z1 w1 => ?_) st pl))
    obtain ⟨xs, G1, I1, r1, i, j, k, n, rfl, rg, n1, q⟩ := w1
    obtain ⟨u1, us1, rfl, ⟨t, rfl⟩, r2⟩ : ∃ u us', us = u :: us' ∧ RelV (.int i) u ∧ Vals [V.int j, V.int k] us' := by
      cases r1 with
      | cons a b => exact ⟨_, _, rfl, a, b⟩
    obtain ⟨u2, us2, rfl, ⟨t', rfl⟩, r3⟩ : ∃ u us', us1 = u :: us' ∧ RelV (.int j) u ∧ Vals [V.int k] us' := by
      cases r2 with
      | cons a b => exact ⟨_, _, rfl, a, b⟩
    obtain ⟨u3, us3, rfl, ⟨t'', rfl⟩, r4⟩ : ∃ u us', us2 = u :: us' ∧ RelV (.int k) u ∧ Vals [] us' := by
      cases r3 with
      | cons a b => exact ⟨_, _, rfl, a, b⟩
    cases r4
    · refine call_range_3 rg.1 ?_ (.inl (PyProof.noPylong_small rg.2.1))
      exact ⟨_, i, j, k, n, _, _, _, G1, rfl, IsRange.new .., I1.kept (t' := z1.toks) fun b o e => Heap.get?_push_of_some _ e, rg, n1, q⟩
  refine Call_ (ld_blt I g1 m1 boot_list (PyProof.Rows.callWith_type1 (args_cons (thn made fun x z1 w1 => args_nil ?_) so) so))
  obtain ⟨r, i, j, k, n, t, u, v, G1, rfl, hr, I1, rg, n1, q⟩ := w1
  refine call_list_range (n := n) (I1.ok.hd calm) hr rg.2.2.1 rg.2.2.2 (Nat.le_trans n1 (by decide)) fun h' tk acc c' hk e' hi => ?_
  refine ⟨.ref z1.heap.objs.size, _, I1.laid hk (Nat.le_refl _) (o := .lst (stepsV i k n)) ?_, rfl, q _ (I1.hok.fresh (Nat.le_refl _))⟩
  refine ⟨?_, acc.toList, c', steps_vals hi, ?_⟩
  · rw [steps_len]
    exact Nat.le_trans n1 (by decide)
  · rw [Array.toArray_toList]
    exact e'
end
/-! ### lines as a tale's, their texts -/
def Line.Tx : Line → Prop
  | .phrase _ x _ => TxOk x
  | .put _ _ x _ _ _ => TxOk x
  | .back _ _ _ => True
theorem fill_tx {fr : List Int} {S : De} (h : S.Ok fr) (fo : FrOk fr) {t : Nat} (t0 : 0 < t) (t1 : t ≤ fr.length) : ∀ i, i ≤ S.n → ∀ n ∈ (S.fillTo fr t i).2.2, n.Tx
  | 0, _ => fun n hn => (nomatch hn)
  | i + 1, hi => by
    have ih := fill_tx h fo t0 t1 i (by omega)
    have fk := fillTo_ok h fo t0 t1 i (by omega)
    rw [De.fillTo_succ]
    generalize S.fillTo fr t i = A at ih fk ⊢
    by_cases c1 : chain fr (A.1.row (fr.length + 1) i) (up fr t) = Option.none
    · by_cases c2 : chain fr (A.1.row (fr.length + 1) i) t = Option.none
      · rw [De.fill_no (.inr (.inl c2))]
        exact ih
      · cases c3 : onlyOf (A.1.found fr i t A.1.n) with
        | none =>
          rw [De.fill_no (.inr (.inr c3))]
          exact ih
        | some x =>
          rw [De.fill_yes c1 c2 c3]
          intro n hn
          rcases List.mem_append.mp hn with z | z
          · exact ih n z
          · rw [List.mem_singleton.mp z]
            exact fk.ok.found fo t0 t1 ((onlyOf_some c3 x).mpr rfl)
    · rw [De.fill_no (.inl c1)]
      exact ih
theorem come_tx {fr : List Int} {S : De} {dd : Deed} (h : S.Ok fr) (fo : FrOk fr) (m : S.May fr dd) : ∀ n ∈ (S.come fr dd).2.2, n.Tx := by
  cases dd with
  | phrase x =>
    intro n hn
    rw [List.mem_singleton.mp hn]
    exact m.2
  | put p t x s o =>
    intro n hn
    rw [List.mem_singleton.mp hn]
    exact m.2.2.1
  | back p t =>
    intro n hn
    rw [List.mem_singleton.mp hn]
    trivial
  | fill t => exact fill_tx h fo m.1 m.2 S.n (Nat.le_refl _)
def Line.tl : Line → Tl
  | .phrase p x k => .phrase p x k
  | .put p t x s o k => .put p t x s o k
  | .back p t k => .back p t k
theorem Line.tl_vals : ∀ n : Line, n.tl.vals = n.vals
  | .phrase _ _ _ => rfl
  | .put _ _ _ _ _ _ => rfl
  | .back _ _ _ => rfl
theorem Line.Tx.low : ∀ {n : Line}, n.Tx → n.tl.Low
  | .phrase _ x _, h => ⟨h.each, by have := TxOk.hi h; omega⟩
  | .put _ _ x _ _ _, h => ⟨h.each, by have := TxOk.hi h; omega⟩
  | .back _ _ _, _ => trivial
def Tl.short : Tl → Prop
  | .phrase _ x _ => x.length ≤ 5000
  | .put _ _ x _ _ _ => x.length ≤ 5000
  | .back _ _ _ => True
theorem Tl.Low.short : ∀ {n : Tl}, n.Low → n.short
  | .phrase _ _ _, h => h.2
  | .put _ _ _ _ _ _, h => h.2
  | .back _ _ _, _ => trivial
end PD

/-! Phrasedesk: a comprehension over two lists, one within the other -/
namespace PD
open PySem PySem.Spec PyProof.Rows L2
section
variable {K : PySem.W.Frag} {a b : Addr} {xs ys : List V} {wi wi1 : TI} {tt1 : TT} {te : TE} {vs : List Nat} {i0 j0 : Nat} {σ : L2.St} {G0 : Hp} {Q : VK}
/-- the slots behind both names -/
abbrev sl1 (σ : L2.St) (vs : List Nat) (i0 : Nat) (x : V) : L2.St := (wipe σ vs).set i0 (some x)
abbrev sl2 (σ : L2.St) (vs : List Nat) (i0 j0 : Nat) (x y : V) : L2.St := (wipe (sl1 σ vs i0 x) [j0]).set j0 (some y)
theorem lc2_two (Pv : Addr → Nat → Nat → Hp → Prop) (hwi : ∀ R : It → Hp → Prop, R (Itl K a) G0 → wi σ G0 R) (hwi1 : ∀ x G (R : It → Hp → Prop), SqL K G b ys → R (Itl K b) G → wi1 (sl1 σ vs i0 x) G R)
    (hw1 : ∀ x, wipe (sl1 σ vs i0 x) vs = wipe σ vs) (hw2 : ∀ x y, wipe (sl2 σ vs i0 j0 x y) [j0] = wipe (sl1 σ vs i0 x) [j0])
    (h0 : ∀ D, G0 D = none → Pv D 0 0 (upd G0 D (.lst []))) (hl : ∀ D i j G, Pv D i j G → SqL K G a xs ∧ SqL K G b ys) (hn : ∀ D i G, Pv D i ys.length G → Pv D (i + 1) 0 G)
    (hs : ∀ D, G0 D = none → ∀ i j x y G, xs[i]? = some x → ys[j]? = some y → Pv D i j G → tt1 (sl2 σ vs i0 j0 x y) G fun c G1 =>
      if c = true then te (sl2 σ vs i0 j0 x y) G1 fun v G2 => ∃ acc, G2 D = some (.lst acc) ∧ acc.length < sizeLine ∧ Pv D i (j + 1) (upd G2 D (.lst (acc ++ [v]))) else Pv D i (j + 1) G1)
    (hd : ∀ D, G0 D = none → ∀ G, Pv D xs.length 0 G → Q (.ref D) G) : tLc2 wi (gName i0) tYes wi1 (gName j0) tt1 te vs [j0] σ G0 Q := by
  have w1 := walk_list (K := K) (a := a) (xs := xs)
  have w2 := walk_list (K := K) (a := b) (xs := ys)
  refine hwi _ fun D nD => ⟨fun i m G => m = xs.length - i ∧ i ≤ xs.length ∧ Pv D i 0 G, ⟨xs.length, by simp, Nat.zero_le _, h0 D nD⟩, ?_⟩
  rintro i m G ⟨rfl, hi, pv⟩
  by_cases c : i < xs.length
  · refine .inr ⟨w1.goes i G c (hl D i 0 G pv).1, Pv D (i + 1) 0, fun G' p' => ⟨xs.length - (i + 1), by omega, rfl, c, p'⟩, ?_⟩
    intro x G' yl
    obtain ⟨eH, ex⟩ := w1.yields i G x G' c (hl D i 0 G pv).1 yl
    subst eH
    refine ⟨hw1 x, ?_⟩
    show wi1 _ _ _
    refine hwi1 x _ _ (hl D i 0 _ pv).2 ⟨fun j k G => k = ys.length - j ∧ j ≤ ys.length ∧ Pv D i j G, ⟨ys.length, by simp, Nat.zero_le _, pv⟩, ?_⟩
    rintro j k G ⟨rfl, hj, pv⟩
    by_cases cj : j < ys.length
    · refine .inr ⟨w2.goes j G cj (hl D i j G pv).2, Pv D i (j + 1), fun G' p' => ⟨ys.length - (j + 1), by omega, rfl, cj, p'⟩, ?_⟩
      intro y G' yl
      obtain ⟨eH, ey⟩ := w2.yields j G y G' cj (hl D i j G pv).2 yl
      subst eH
      exact ⟨hw2 x y, hs D nD i j x y _ ex ey pv⟩
    · have e : j = ys.length := by omega
      subst e
      exact .inl ⟨w2.stops G (hl D i _ G pv).2, hn D i G pv⟩
  · have e : i = xs.length := by omega
    subst e
    exact .inl ⟨w1.stops G (hl D _ 0 G pv).1, hd D nD G pv⟩
end
/-- all that is old at a desk -/
def De.oldOf (fr : List Int) (S : De) (p : Nat) : List Pr := ((List.range fr.length).filter fun j => (chain fr (S.row (fr.length + 1) p) (j + 1)).isSome).map fun (j : Nat) => ((p : Int), ((j + 1 : Nat) : Int))
def De.oldTo (fr : List Int) (S : De) (i : Nat) : List Pr := (List.range i).flatMap (S.oldOf fr)
def De.oldUp (fr : List Int) (S : De) (i j : Nat) : List Pr := S.oldTo fr i ++ (((List.range j).filter fun j => (chain fr (S.row (fr.length + 1) i) (j + 1)).isSome).map fun (j : Nat) => ((i : Int), ((j + 1 : Nat) : Int)))
theorem De.oldTo_succ {fr : List Int} {S : De} {i : Nat} : S.oldTo fr (i + 1) = S.oldUp fr i fr.length := by
  unfold De.oldTo De.oldUp
  rw [List.range_succ, List.flatMap_append]
  unfold De.oldTo De.oldOf
  simp
theorem De.oldUp_succ {fr : List Int} {S : De} {i j : Nat} : S.oldUp fr i (j + 1) = S.oldUp fr i j ++ (if (chain fr (S.row (fr.length + 1) i) (j + 1)).isSome then [((i : Int), ((j + 1 : Nat) : Int))] else []) := by
  unfold De.oldUp
  rw [List.range_succ, List.filter_append, List.map_append, List.append_assoc]
  congr 2
  by_cases c : (chain fr (S.row (fr.length + 1) i) (j + 1)).isSome = true
  · rw [if_pos c, List.filter_cons_of_pos (p := fun j => (chain fr (S.row (fr.length + 1) i) (j + 1)).isSome) c]
    rfl
  · rw [if_neg c, List.filter_cons_of_neg (p := fun j => (chain fr (S.row (fr.length + 1) i) (j + 1)).isSome) c]
    rfl
theorem De.oldUp_len {fr : List Int} {S : De} : ∀ {i j : Nat}, (S.oldUp fr i j).length ≤ fr.length * i + j := by
  intro i
  induction i with
  | zero =>
    intro j
    unfold De.oldUp De.oldTo
    rw [List.range_zero, List.flatMap_nil, List.nil_append, List.length_map]
    have := List.length_filter_le (fun j => (chain fr (S.row (fr.length + 1) 0) (j + 1)).isSome) (List.range j)
    rw [List.length_range] at this
    omega
  | succ i ih =>
    intro j
    unfold De.oldUp
    rw [De.oldTo_succ, List.length_append, List.length_map]
    have h1 := ih (j := fr.length)
    have h2 := List.length_filter_le (fun j => (chain fr (S.row (fr.length + 1) (i + 1)) (j + 1)).isSome) (List.range j)
    rw [List.length_range] at h2
    rw [Nat.mul_succ]
    omega
abbrev De.olds (fr : List Int) (S : De) : List Pr := S.oldTo fr S.n
end PD

/-! Phrasedesk: what is written out as texts, and how long it is at the most -/
namespace PD
open PySem PySem.Spec PyProof.Rows L2
/-- str(x): data by its text, None -/
def rStrV (K : PySem.W.Frag) : List V → Hp → VK → Prop := fun xs G Q => rStrD K xs G Q ∨ (xs = [.non] ∧ Q (.str "None") G)
theorem call_strV {X : Cx} (hg : X.A.guards = some []) (hu : X.A.units + 64 < cLine) : CallR X (.type "str") (rStrV X.K) := by
  intro pins z σ G xs us Q I r h
  rcases h with h | ⟨rfl, q⟩
  · exact call_strD hg hu pins z σ G xs us Q I r h
  · obtain ⟨u, rfl, r1⟩ := vals1 r
    cases r1
    exact PySem.P.str_of_none ⟨.str _, G, I.tok _, ⟨_, rfl⟩, q⟩
structure Shw (c e : Nat) (d : PyData) : Prop where
  len : d.shown.length ≤ c
  sh : d.showable = true
  nd : d.hasDict = false
  dp : d.depth ≤ e
structure ShwAll (n c e : Nat) (ds : List PyData) : Prop where
  len : piled (PyData.shownAll ds) ≤ n * (c + 2)
  sh : PyData.showableAll ds = true
  nd : PyData.hasDictAll ds = false
  dp : PyData.depthAll ds ≤ e
  n : ds.length ≤ n
theorem ShwAll.nil {c e : Nat} : ShwAll 0 c e [] := ⟨Nat.zero_le _, rfl, rfl, Nat.zero_le _, Nat.le_refl _⟩
theorem ShwAll.cons {n c e : Nat} {d : PyData} {ds : List PyData} (h : Shw c e d) (r : ShwAll n c e ds) : ShwAll (n + 1) c e (d :: ds) := by
  refine ⟨?_, ?_, ?_, ?_, ?_⟩
  · show piled (d.shown :: PyData.shownAll ds) ≤ _
    rw [piled_cons, Nat.succ_mul]
    have := h.len
    have := r.len
    omega
  · show (d.showable && PyData.showableAll ds) = true
    rw [h.sh, r.sh]
    rfl
  · show (d.hasDict || PyData.hasDictAll ds) = false
    rw [h.nd, r.nd]
    rfl
  · show max d.depth (PyData.depthAll ds) ≤ e
    have := h.dp
    have := r.dp
    omega
  · have := r.n
    rw [List.length_cons]
    omega
theorem shw_all {c e : Nat} : ∀ {ds : List PyData}, (∀ d ∈ ds, Shw c e d) → ShwAll ds.length c e ds
  | [], _ => ShwAll.nil
  | d :: ds, h => (shw_all fun x hx => h x (List.mem_cons_of_mem _ hx)).cons (h d List.mem_cons_self)
theorem textFrom_le : ∀ (ts : List Str) (k : Nat) (acc : Str), (textFrom k acc ts).length ≤ acc.length + piled ts
  | [], k, acc => Nat.le_add_right _ _
  | t :: ts, k, acc => by
    have ih := textFrom_le ts (k + 1) (acc ++ (if k > 0 then ", " else "" : String) ++ t)
    have e2 : (((if k > 0 then ", " else "" : String) : Str)).length ≤ 2 := by
      split <;> decide +kernel
    rw [strLen_append, strLen_append] at ih
    rw [piled_cons]
    exact Nat.le_trans ih (by omega)
theorem ShwAll.list {n c e : Nat} {ds : List PyData} (h : ShwAll n c e ds) : Shw (n * (c + 2) + 2) (e + 1) (.list ds) := by
  refine ⟨?_, h.sh, h.nd, ?_⟩
  · show (listText (PyData.shownAll ds)).length ≤ _
    unfold listText
    have h1 := textFrom_le (PyData.shownAll ds) 0 "["
    have e1 : ((("[" : String) : Str)).length = 1 := rfl
    have e2 : ((("]" : String) : Str)).length = 1 := rfl
    rw [strLen_append]
    have := h.len
    omega
  · have := h.dp
    simp only [PyData.depth]
    omega
theorem ShwAll.tuple {n c e : Nat} {ds : List PyData} (h : ShwAll n c e ds) : Shw (n * (c + 2) + 4) (e + 1) (.tuple ds) := by
  refine ⟨?_, h.sh, h.nd, ?_⟩
  · show (tupleText (PyData.shownAll ds)).length ≤ _
    unfold tupleText
    have h1 : (Str.join ", " (PyData.shownAll ds)).length ≤ piled (PyData.shownAll ds) := by
      cases e : PyData.shownAll ds with
      | nil => decide
      | cons t ts =>
        have := join_length_add (t :: ts) (by simp)
        omega
    have e1 : ((("(" : String) : Str)).length = 1 := rfl
    have e2 : (((if (PyData.shownAll ds).length == 1 then ",)" else ")" : String) : Str)).length ≤ 2 := by
      split <;> decide +kernel
    rw [strLen_append, strLen_append]
    have := h.len
    omega
  · have := h.dp
    simp only [PyData.depth]
    omega
theorem shw_int {i : Int} (h : i.natAbs < 2 ^ 64) : Shw 1921 0 (.int i) := by
  have hl : i.natAbs.log2 < 1920 := by
    have := PySem.Flt.log2_lt_of (by decide : 0 < 64) h
    omega
  exact ⟨int_text_len_1921 hl, decide_eq_true hl, rfl, Nat.le_refl _⟩
theorem shw_none : Shw 1921 0 .none := ⟨by decide +kernel, rfl, rfl, Nat.le_refl _⟩
theorem shw_o {s : Option Int} (h : ∀ i, s = some i → i.natAbs < 2 ^ 64) : Shw 1921 0 (dO s) := by
  cases s with
  | none => exact shw_none
  | some i => exact shw_int (h i rfl)
theorem shw_str {x : Str} (l : lowS x) (h : x.length ≤ 100) : Shw 1921 0 (.str x) := by
  refine ⟨?_, rfl, rfl, Nat.le_refl _⟩
  have := StrLaws.reprText_len x fun c hc => by
    have := (l c hc).2
    exact Nat.lt_of_le_of_lt this (by decide)
  show (reprText x).length ≤ 1921
  omega
theorem Shw.mono {c c' e e' : Nat} {d : PyData} (h : Shw c e d) (hc : c ≤ c') (he : e ≤ e') : Shw c' e' d := ⟨Nat.le_trans h.len hc, h.sh, h.nd, Nat.le_trans h.dp he⟩
/-- what str(x) asks -/
theorem Shw.asks {K : PySem.W.Frag} {G : Hp} {a : Addr} {c e : Nat} {d : PyData} (h : Shw c e d) (hc : c ≤ 16000000) (he : e ≤ 60) (dp : Dp K G (.ref a) d) {Q : VK} (q : Q (.str d.shown) G) : rStrV K [.ref a] G Q :=
  .inl ⟨a, d, rfl, dp, h.sh, h.nd, Nat.le_trans h.dp he, Nat.le_trans h.len (Nat.le_trans hc (by decide)), q⟩
/-! ### a desk's things as data -/
theorem shw_prs {ps : List Pr} (h : ∀ q ∈ ps, q.1.natAbs < 2 ^ 64 ∧ q.2.natAbs < 2 ^ 64) (n : ps.length ≤ 1000) : Shw 4000000 2 (dPs ps) := by
  have h1 : ∀ d ∈ ps.map dP, Shw 3850 1 d := by
    intro d hd
    obtain ⟨q, hq, rfl⟩ := List.mem_map.mp hd
    have := h q hq
    exact ((ShwAll.cons (shw_int this.1) (ShwAll.cons (shw_int this.2) ShwAll.nil)).tuple).mono (by decide) (by decide)
  have h2 := (shw_all h1).list
  rw [List.length_map] at h2
  exact h2.mono (by
    have : ps.length * (3850 + 2) ≤ 1000 * (3850 + 2) := Nat.mul_le_mul_right _ n
    omega) (by decide)
theorem shw_row {row : List Cell} (h : ∀ c ∈ row, ∀ a b, c = some (a, b) → a.natAbs < 2 ^ 64 ∧ ∀ i, b = some i → i.natAbs < 2 ^ 64) (n : row.length ≤ 1000) : Shw 4000000 2 (dRow row) := by
  have h1 : ∀ d ∈ row.map dC, Shw 3850 1 d := by
    intro d hd
    obtain ⟨c, hc, rfl⟩ := List.mem_map.mp hd
    cases c with
    | none => exact shw_none.mono (by decide) (by decide)
    | some p =>
      obtain ⟨a, b⟩ := p
      have := h _ hc a b rfl
      exact ((ShwAll.cons (shw_int this.1) (ShwAll.cons (shw_o this.2) ShwAll.nil)).tuple).mono (by decide) (by decide)
  have h2 := (shw_all h1).list
  rw [List.length_map] at h2
  exact h2.mono (by
    have : row.length * (3850 + 2) ≤ 1000 * (3850 + 2) := Nat.mul_le_mul_right _ n
    omega) (by decide)
def dE (e : Int × Str) : PyData := .tuple [.int e.1, .str e.2]
def dEs (l : List (Int × Str)) : PyData := .list (l.map dE)
theorem dpa_evs {K : PySem.W.Frag} {H : Hp} : ∀ {vs : List V} {l : List (Int × Str)}, All2 (EvV H) vs l → DpAll K H vs (l.map dE)
  | [], [], _ => .nil
  | [], _ :: _, h => by have := h.len; simp at this
  | _ :: _, [], h => by have := h.len; simp at this
  | v :: vs, q :: ps, h => by
    obtain ⟨⟨r, e, a⟩, b⟩ := h.tail
    rw [e]
    exact .cons (.tup (SqT.of a) (.cons (.int _) (.cons (.str _) .nil))) (dpa_evs b)
theorem dp_evs {K : PySem.W.Frag} {H : Hp} {a : Addr} {l : List (Int × Str)} (h : EvAt H a l) : Dp K H (.ref a) (dEs l) := let ⟨vs, x, y⟩ := h; .lst (SqL.of x) (dpa_evs y)
theorem shw_ev {e : Int × Str} (h1 : e.1.natAbs < 2 ^ 64) (h2 : TxOk e.2) : Shw 3850 1 (dE e) :=
  ((ShwAll.cons (shw_int h1) (ShwAll.cons (shw_str h2.each (by have := h2.hi; omega)) ShwAll.nil)).tuple).mono (by decide) (by decide)
theorem shw_evs {l : List (Int × Str)} (h : ∀ e ∈ l, e.1.natAbs < 2 ^ 64 ∧ TxOk e.2) (n : l.length ≤ 1000) : Shw 4000000 2 (dEs l) := by
  have h1 : ∀ d ∈ l.map dE, Shw 3850 1 d := by
    intro d hd
    obtain ⟨e, he, rfl⟩ := List.mem_map.mp hd
    exact shw_ev (h e he).1 (h e he).2
  have h2 := (shw_all h1).list
  rw [List.length_map] at h2
  exact h2.mono (by
    have : l.length * (3850 + 2) ≤ 1000 * (3850 + 2) := Nat.mul_le_mul_right _ n
    omega) (by decide)
end PD

/-! Phrasedesk: written data, laid anew -/
namespace PD
open PySem PySem.Spec PyProof.Rows L2
mutual
/-- v is d at H, its lists not among P -/
inductive Dn (P : Addr → Prop) (H : Hp) : V → PyData → Prop
  | non : Dn P H .non .none
  | bl (b : Bool) : Dn P H (.bl b) (.bool b)
  | int (i : Int) : Dn P H (.int i) (.int i)
  | str (x : Str) : Dn P H (.str x) (.str x)
  | lst {a : Addr} {xs : List V} {ds : List PyData} : ¬ P a → H a = some (.lst xs) → DnAll P H xs ds → Dn P H (.ref a) (.list ds)
  | tup {a : Addr} {xs : List V} {ds : List PyData} : H a = some (.tup xs) → DnAll P H xs ds → Dn P H (.ref a) (.tuple ds)
inductive DnAll (P : Addr → Prop) (H : Hp) : List V → List PyData → Prop
  | nil : DnAll P H [] []
  | cons {v : V} {vs : List V} {d : PyData} {ds : List PyData} : Dn P H v d → DnAll P H vs ds → DnAll P H (v :: vs) (d :: ds)
end
/-- what is there -/
def InH (H : Hp) : Addr → Prop := fun x => ∃ o, H x = some o
theorem InH.new {H : Hp} {a : Addr} (h : H a = none) : ¬ InH H a := fun ⟨o, e⟩ => by rw [h] at e; cases e
theorem InH.same {H H' : Hp} (s : Same H H') {x : Addr} : InH H x → InH H' x := fun ⟨o, e⟩ => ⟨o, s _ _ e⟩
section
variable {K : PySem.W.Frag} {P P' : Addr → Prop} {H H' : Hp}
mutual
theorem Dn.dp : ∀ {v : V} {d : PyData}, Dn P H v d → Dp K H v d
  | _, _, .non => .non
  | _, _, .bl b => .bl b
  | _, _, .int i => .int i
  | _, _, .str x => .str x
  | _, _, .lst _ h r => .lst (SqL.of h) r.dp
  | _, _, .tup h r => .tup (SqT.of h) r.dp
theorem DnAll.dp : ∀ {vs : List V} {ds : List PyData}, DnAll P H vs ds → DpAll K H vs ds
  | _, _, .nil => .nil
  | _, _, .cons h r => .cons h.dp r.dp
end
mutual
theorem Dn.keep (kl : ∀ a xs, ¬ P a → H a = some (.lst xs) → ¬ P' a ∧ H' a = some (.lst xs)) (kt : ∀ a xs, H a = some (.tup xs) → H' a = some (.tup xs)) : ∀ {v : V} {d : PyData}, Dn P H v d → Dn P' H' v d
  | _, _, .non => .non
  | _, _, .bl b => .bl b
  | _, _, .int i => .int i
  | _, _, .str x => .str x
  | _, _, .lst n h r => .lst (kl _ _ n h).1 (kl _ _ n h).2 (r.keep kl kt)
  | _, _, .tup h r => .tup (kt _ _ h) (r.keep kl kt)
theorem DnAll.keep (kl : ∀ a xs, ¬ P a → H a = some (.lst xs) → ¬ P' a ∧ H' a = some (.lst xs)) (kt : ∀ a xs, H a = some (.tup xs) → H' a = some (.tup xs)) : ∀ {vs : List V} {ds : List PyData}, DnAll P H vs ds → DnAll P' H' vs ds
  | _, _, .nil => .nil
  | _, _, .cons h r => .cons (h.keep kl kt) (r.keep kl kt)
end
theorem Dn.same (s : Same H H') {v : V} {d : PyData} (h : Dn P H v d) : Dn P H' v d := h.keep (fun _ _ n e => ⟨n, s _ _ e⟩) fun _ _ e => s _ _ e
theorem DnAll.same (s : Same H H') {vs : List V} {ds : List PyData} (h : DnAll P H vs ds) : DnAll P H' vs ds := h.keep (fun _ _ n e => ⟨n, s _ _ e⟩) fun _ _ e => s _ _ e
theorem Dn.mono (s : ∀ x, P' x → P x) {v : V} {d : PyData} (h : Dn P H v d) : Dn P' H v d := h.keep (fun _ _ n e => ⟨fun z => n (s _ z), e⟩) fun _ _ e => e
theorem DnAll.mono (s : ∀ x, P' x → P x) {vs : List V} {ds : List PyData} (h : DnAll P H vs ds) : DnAll P' H vs ds := h.keep (fun _ _ n e => ⟨fun z => n (s _ z), e⟩) fun _ _ e => e
theorem DnAll.len : ∀ {vs : List V} {ds : List PyData}, DnAll P H vs ds → vs.length = ds.length
  | _, _, .nil => rfl
  | _, _, .cons _ r => by rw [List.length_cons, List.length_cons, r.len]
theorem DnAll.ints_of : ∀ {vs : List V} {ns : List Int}, DnAll P H vs (ns.map .int) → vs = ns.map V.int
  | _, [], h => by cases h; rfl
  | _, n :: ns, h => by
    cases h with
    | cons a r =>
      cases a
      rw [r.ints_of]
      rfl
/-- a list of numbers -/
theorem Dn.ls {v : V} {ns : List Int} (h : Dn P H v (dI ns)) : ∃ a, v = .ref a ∧ ¬ P a ∧ LsAt H a ns := by
  unfold dI at h
  cases h with
  | lst n e r =>
    rw [r.ints_of] at e
    exact ⟨_, rfl, n, e⟩
/-- what is a desk's, as data -/
theorem dna_prs : ∀ {vs : List V} {ps : List Pr}, All2 (PrV H) vs ps → DnAll P H vs (ps.map dP)
  | [], [], _ => .nil
  | [], _ :: _, h => by have := h.len; simp at this
  | _ :: _, [], h => by have := h.len; simp at this
  | v :: vs, q :: ps, h => by
    obtain ⟨⟨r, e, a⟩, b⟩ := h.tail
    rw [e]
    exact .cons (.tup a (.cons (.int _) (.cons (.int _) .nil))) (dna_prs b)
theorem dn_prs {a : Addr} {ps : List Pr} (n : ¬ P a) (h : PrsAt H a ps) : Dn P H (.ref a) (dPs ps) := let ⟨vs, x, y⟩ := h; .lst n x (dna_prs y)
theorem dn_o : ∀ {s : Option Int}, Dn P H (oV s) (dO s)
  | none => .non
  | some i => .int i
theorem dn_cell {v : V} : ∀ {c : Cell}, CellV H v c → Dn P H v (dC c)
  | none, h => by
    cases (show v = .non from h)
    exact .non
  | some (a, b), ⟨p, e, h⟩ => by
    subst e
    exact .tup h (.cons (.int a) (.cons dn_o .nil))
theorem dna_row : ∀ {vs : List V} {row : List Cell}, Cells H vs row → DnAll P H vs (row.map dC)
  | [], [], _ => .nil
  | [], _ :: _, h => by
    have := h.len
    simp at this
  | _ :: _, [], h => by
    have := h.len
    simp at this
  | v :: vs, c :: row, h => by
    obtain ⟨u, e1, e2⟩ := h.each 0 c rfl
    cases (Option.some.inj e1)
    have h' : Cells H vs row := ⟨by have := h.len; simpa using this, fun i d e => h.each (i + 1) d e⟩
    exact .cons (dn_cell e2) (dna_row h')
theorem dn_row {a : Addr} {row : List Cell} (n : ¬ P a) (h : RowAt H a row) : Dn P H (.ref a) (dRow row) := let ⟨vs, x, y⟩ := h; .lst n x (dna_row y)
theorem dna_evs : ∀ {vs : List V} {l : List (Int × Str)}, All2 (EvV H) vs l → DnAll P H vs (l.map dE)
  | [], [], _ => .nil
  | [], _ :: _, h => by have := h.len; simp at this
  | _ :: _, [], h => by have := h.len; simp at this
  | v :: vs, q :: ps, h => by
    obtain ⟨⟨r, e, a⟩, b⟩ := h.tail
    rw [e]
    exact .cons (.tup a (.cons (.int _) (.cons (.str _) .nil))) (dna_evs b)
theorem dn_evs {a : Addr} {l : List (Int × Str)} (n : ¬ P a) (h : EvAt H a l) : Dn P H (.ref a) (dEs l) := let ⟨vs, x, y⟩ := h; .lst n x (dna_evs y)
theorem dn_ls {a : Addr} {ns : List Int} (n : ¬ P a) (h : LsAt H a ns) : Dn P H (.ref a) (dI ns) :=
  .lst n h (by
    clear h n
    induction ns with
    | nil => exact .nil
    | cons x r ih => exact .cons (.int x) ih)
/-- a line as data -/
def dLn : Line → PyData
  | .phrase p x k => .tuple [.str "phrase", .int p, .str x, .int k]
  | .put p t x s o k => .tuple [.str "put", .int p, .int t, .str x, dO s, dO o, .int k]
  | .back p t k => .tuple [.str "back", .int p, .int t, .int k]
def dLs (l : List Line) : PyData := .list (l.map dLn)
theorem dn_ln {a : Addr} : ∀ {n : Line}, H a = some (.tup n.vals) → Dn P H (.ref a) (dLn n)
  | .phrase p x k, h => .tup h (.cons (.str _) (.cons (.int _) (.cons (.str _) (.cons (.int _) .nil))))
  | .put p t x s o k, h => .tup h (.cons (.str _) (.cons (.int _) (.cons (.int _) (.cons (.str _) (.cons dn_o (.cons dn_o (.cons (.int _) .nil)))))))
  | .back p t k, h => .tup h (.cons (.str _) (.cons (.int _) (.cons (.int _) (.cons (.int _) .nil))))
theorem dna_lns : ∀ {vs : List V} {l : List Line}, All2 (LnV H) vs l → DnAll P H vs (l.map dLn)
  | [], [], _ => .nil
  | [], _ :: _, h => by have := h.len; simp at this
  | _ :: _, [], h => by have := h.len; simp at this
  | v :: vs, q :: ps, h => by
    obtain ⟨⟨r, e, a⟩, b⟩ := h.tail
    rw [e]
    exact .cons (dn_ln a) (dna_lns b)
theorem dn_lns {a : Addr} {l : List Line} (n : ¬ P a) (h : LnAt H a l) : Dn P H (.ref a) (dLs l) := let ⟨vs, x, y⟩ := h; .lst n x (dna_lns y)
theorem not_no {a : Addr} : ¬ (fun _ : Addr => False) a := fun z => z
/-- its numbers and texts are small -/
def Line.Sm : Line → Prop
  | .phrase p x k => p ≤ 1000 ∧ TxOk x ∧ k.natAbs < 2 ^ 64
  | .put p t x s o k => p ≤ 1000 ∧ t ≤ 1000 ∧ TxOk x ∧ (∀ i, s = some i → i.natAbs < 2 ^ 64) ∧ (∀ i, o = some i → i.natAbs < 2 ^ 64) ∧ k.natAbs < 2 ^ 64
  | .back p t k => p ≤ 1000 ∧ t ≤ 1000 ∧ k.natAbs < 2 ^ 64
theorem shw_nat {p : Nat} (h : p ≤ 1000) : Shw 1921 0 (.int (p : Int)) := shw_int (by rw [Int.natAbs_natCast]; exact Nat.lt_of_le_of_lt h (by decide))
theorem shw_tx {x : Str} (h : TxOk x) : Shw 1921 0 (.str x) := shw_str h.each (by have := h.hi; omega)
theorem shw_ln : ∀ {n : Line}, n.Sm → Shw 13470 1 (dLn n)
  | .phrase p x k, ⟨a, b, c⟩ => ((ShwAll.cons (shw_str (x := "phrase") (by unfold lowS; decide +kernel) (by decide +kernel)) (.cons (shw_nat a) (.cons (shw_tx b) (.cons (shw_int c) .nil)))).tuple).mono (by decide) (by decide)
  | .put p t x s o k, ⟨a, b, c, d, e, f⟩ => ((ShwAll.cons (shw_str (x := "put") (by unfold lowS; decide +kernel) (by decide +kernel)) (.cons (shw_nat a) (.cons (shw_nat b) (.cons (shw_tx c) (.cons (shw_o d) (.cons (shw_o e) (.cons (shw_int f) .nil))))))).tuple).mono (by decide) (by decide)
  | .back p t k, ⟨a, b, c⟩ => ((ShwAll.cons (shw_str (x := "back") (by unfold lowS; decide +kernel) (by decide +kernel)) (.cons (shw_nat a) (.cons (shw_nat b) (.cons (shw_int c) .nil)))).tuple).mono (by decide) (by decide)
theorem shw_lns {l : List Line} (h : ∀ n ∈ l, n.Sm) (n : l.length ≤ 1000) : Shw 14000000 2 (dLs l) := by
  have h1 : ∀ d ∈ l.map dLn, Shw 13470 1 d := by
    intro d hd
    obtain ⟨e, he, rfl⟩ := List.mem_map.mp hd
    exact shw_ln (h e he)
  have h2 := (shw_all h1).list
  rw [List.length_map] at h2
  exact h2.mono (by
    have : l.length * (13470 + 2) ≤ 1000 * (13470 + 2) := Nat.mul_le_mul_right _ n
    omega) (by decide)
end
def tDat (d : PyData) : TE := fun _ H Q => ∀ (H' : Hp) (v : V), Same H H' → Dn (InH H) H' v d → Q v H'
def tDats (ds : List PyData) : TA := fun _ H Q => ∀ (H' : Hp) (vs : List V), Same H H' → DnAll (InH H) H' vs ds → Q vs H'
section
variable {X : Cx} {e : Expr} {es : List Expr} {p : Pos} {j : Nat} {d : PyData} {ds : List PyData}
theorem PE.imp {t t' : TE} (h : PE X e t) (f : ∀ σ H Q, t' σ H Q → t σ H Q) : PE X e t' := ⟨fun pins z σ H Q I q => h.run pins z σ H Q I (f σ H Q q)⟩
theorem PA.imp {t t' : TA} (h : L2.PA X es t) (f : ∀ σ H Q, t' σ H Q → t σ H Q) : L2.PA X es t' := ⟨fun ps pins z σ H Q I q => h.run ps pins z σ H Q I (f σ H Q q)⟩
theorem pd_int {i : Int} : PE X (.Constant (.int i) j p) (tDat (.int i)) := PE.imp pe_int fun _ H _ q => q H _ (Same.refl _) (.int i)
theorem pd_str {x : Str} : PE X (.Constant (.str x) j p) (tDat (.str x)) := PE.imp pe_str fun _ H _ q => q H _ (Same.refl _) (.str x)
theorem pd_non : PE X (.Constant .none j p) (tDat .none) := PE.imp pe_non fun _ H _ q => q H _ (Same.refl _) .non
theorem pd_bl {b : Bool} : PE X (.Constant (.bool b) j p) (tDat (.bool b)) := PE.imp pe_bl fun _ H _ q => q H _ (Same.refl _) (.bl b)
theorem pd_neg {i : Int} {p' : Pos} : PE X (.UnaryOp .USub (.Constant (.int i) j p) p') (tDat (.int (-i))) := PE.imp (pe_un un_neg pe_int) fun _ H _ q => ⟨i, rfl, q H _ (Same.refl _) (.int (-i))⟩
theorem pd_lst (ha : L2.PA X es (tDats ds)) (hl : ds.length ≤ 1000 := by decide) : PE X (.List es p) (tDat (.list ds)) := by
  refine PE.imp (pe_lst ha) fun σ H Q q H1 vs s1 dn => ⟨?_, fun b nb => ?_⟩
  · rw [dn.len]
    exact Nat.le_of_lt (small1000 hl)
  · exact q _ (.ref b) (s1.trans (same_upd nb)) (.lst (InH.new (s1.free nb)) upd_same (dn.same (same_upd nb)))
theorem pd_tup {c : Nat} (ha : L2.PA X es (tDats ds)) (hl : ds.length ≤ 1000 := by decide) : PE X (.Tuple es c p) (tDat (.tuple ds)) := by
  refine PE.imp (pe_tup ha) fun σ H Q q H1 vs s1 dn => ⟨?_, fun b nb => ?_⟩
  · rw [dn.len]
    exact Nat.le_of_lt (small1000 hl)
  · exact q _ (.ref b) (s1.trans (same_upd nb)) (.tup upd_same (dn.same (same_upd nb)))
theorem pds_nil : L2.PA X [] (tDats []) := PA.imp pa_nil fun _ H _ q => q H [] (Same.refl _) .nil
theorem pds_cons (he : PE X e (tDat d)) (hr : L2.PA X es (tDats ds)) (hst : starEach (e :: es) X.env = (false, eval e X.env) :: starEach es X.env := by rfl) : L2.PA X (e :: es) (tDats (d :: ds)) :=
  PA.imp (pa_cons he hr hst) fun σ H Q q H1 v s1 h1 H2 vs s2 h2 => q H2 (v :: vs) (s1.trans s2) (.cons (h1.same s2) (h2.mono fun _ => InH.same s1))
end
end PD

/-! Phrasedesk: sorted(.., key=f, reverse=b) and max(.., key=f), f a lambda of the def that asks -/
namespace PD
open PySem PySem.Spec PyProof.Rows L2
section
variable {X : Cx} {pl : List (Addr × Obj)} {σ : L2.St} {G : Hp} {z : Shared} {W : Hp → Prop} {A : Around} {E : Value → Shared → Prop}
/-- a record that is ours alone -/
structure Mine (X : Cx) (b : Addr) : Prop where
  loc : b ≠ X.env.locals
  fs : b ∉ X.fs
  own : b ∈ X.ex ∨ X.s_0.heap.objs.size ≤ b
  cell : ∀ x c, X.env.cells.lookup x = some c → c ≠ b
  pn : ∀ p ∈ X.pn, p.1 ≠ b
theorem mine_new {b : Addr} (I : Inv X pl σ G z) (hb : z.heap.objs.size ≤ b) : Mine X b := by
  obtain ⟨_, g1, g2, g3, g4, g5⟩ := I.fpOk (H' := G) hb (I.hok.fresh hb)
  exact ⟨g1, g2, g3, g4, fun p hp => g5 p (List.mem_append_left _ hp)⟩
theorem pin_sub {pl' : List (Addr × Obj)} (I : Inv X pl σ G z) (h : ∀ p ∈ pl', p ∈ pl) : Inv X pl' σ G z := I.pins_of fun p hp => I.pin p (List.mem_append_right _ (h p hp))
theorem pin_more {b : Addr} {o : Obj} {h' : Heap} {t : Nat} (I : Inv X pl σ G z) (k : ∀ c u, z.heap.get? c = some u → h'.get? c = some u) (hb : z.heap.objs.size ≤ b) (e : h'.get? b = some o) (d : ∀ v, o.data ≠ .cell v) :
    Inv X ((b, o) :: pl) σ G { z with heap := h', toks := t } := by
  have m := mine_new I hb
  have J := I.kept (t' := t) k
  refine J.pins_of ?_
  intro p hp
  rcases List.mem_cons.mp hp with rfl | hp
  · exact ⟨e, I.hok.fresh hb, m.loc, m.fs, d⟩
  · exact J.pin p (List.mem_append_right _ hp)
theorem pin_turn {b : Addr} {o o' : Obj} {h' : Heap} {t : Nat} (I : Inv X ((b, o) :: pl) σ G z) (m : Mine X b) (ne : ∀ p ∈ pl, p.1 ≠ b) (k : ∀ c u, c ≠ b → z.heap.get? c = some u → h'.get? c = some u) (e : h'.get? b = some o') (d : ∀ v, o'.data ≠ .cell v) :
    Inv X ((b, o') :: pl) σ G { z with heap := h', toks := t } := by
  obtain ⟨_, n0, _⟩ := I.pin (b, o) (List.mem_append_right _ List.mem_cons_self)
  have I1 : Inv X pl σ G z := pin_sub I fun p hp => List.mem_cons_of_mem _ hp
  have J := I1.turned (t' := t) (it := b) k n0 m.loc m.own m.cell fun p hp => (List.mem_append.mp hp).elim (m.pn p) (ne p)
  refine J.pins_of ?_
  intro p hp
  rcases List.mem_cons.mp hp with rfl | hp
  · exact ⟨e, n0, m.loc, m.fs, d⟩
  · exact J.pin p (List.mem_append_right _ hp)
/-- a record of ours is tracked from now on -/
theorem adopt {b : Addr} {o : Obj} {u : HO} (I : Inv X ((b, o) :: pl) σ G z) (m : Mine X b) (ne : ∀ p ∈ pl, p.1 ≠ b) (ok : ObjOk X.prog X.w (upd G b u) z.heap b u) : Inv X pl σ (upd G b u) z := by
  obtain ⟨e0, n0, _⟩ := I.pin (b, o) (List.mem_append_right _ List.mem_cons_self)
  have I1 : Inv X pl σ G z := pin_sub I fun p hp => List.mem_cons_of_mem _ hp
  have out : ∀ c v, G c = some v → c ≠ b := fun c v e => ne_of_none e n0
  refine I1.step (h' := z.heap) (g' := z.gens) (t' := z.toks) (d' := z.drawn) (ch := [b]) ?_ (fun c o _ _ _ e _ => e) (fun c o _ _ _ e _ => ⟨o.slots, e⟩) ?_ (fun c o _ e => ⟨o, e⟩) ?_ ?_ ?_ (fun _ h => h) ?_ I1.bare
  · intro c hc
    cases (List.mem_singleton.mp hc)
    exact ⟨m.own, m.loc, m.cell, fun p hp => (List.mem_append.mp hp).elim (m.pn p) (ne p)⟩
  · intro c o hc _ n
    rw [upd_ne fun q => hc (by rw [q]; exact List.mem_cons_self)]
    exact n
  · intro c xs e
    rw [upd_ne (out c _ e)]
    exact e
  · intro c o v e
    rw [upd_ne (out c _ e)]
    exact e
  · intro c ps e
    refine ⟨#[], ?_⟩
    rw [upd_ne (out c _ e), e]
    simp
  · intro c v e
    by_cases h : c = b
    · subst h
      rw [upd_same] at e
      cases e
      exact ok
    · rw [upd_ne h] at e
      refine (I1.hok c v e).stay (fun _ _ _ q => q) (fun d q => ?_) fun d xs q => ?_
      · rw [upd_ne (out d _ q)]
        exact q
      · rw [upd_ne (out d _ q)]
        exact q
def Hd (X : Cx) (σ : L2.St) (W : Hp → Prop) (pl : List (Addr × Obj)) (z : Shared) : Prop := ∃ G, Inv X pl σ G z ∧ W G
theorem Hd.turn {b : Addr} {o o' : Obj} {h' : Heap} {t : Nat} (J : Hd X σ W ((b, o) :: pl) z) (m : Mine X b) (ne : ∀ p ∈ pl, p.1 ≠ b) (k : Heap.SameBut b z.heap h') (e : h'.get? b = some o') (d : ∀ v, o'.data ≠ .cell v) :
    Hd X σ W ((b, o') :: pl) { z with heap := h', toks := t } :=
  let ⟨G, I, w⟩ := J
  ⟨G, pin_turn I m ne (fun c u hc q => (k.2 c hc).trans q) e d, w⟩
theorem Hd.sub {pl' : List (Addr × Obj)} (J : Hd X σ W pl z) (h : ∀ p ∈ pl', p ∈ pl) : Hd X σ W pl' z :=
  let ⟨G, I, w⟩ := J
  ⟨G, pin_sub I h, w⟩
theorem Hd.at {b : Addr} {o : Obj} (J : Hd X σ W pl z) (h : (b, o) ∈ pl) : z.heap.get? b = some o :=
  let ⟨_, I, _⟩ := J
  (I.pin (b, o) (List.mem_append_right _ h)).1
theorem seq_no {xs : Array Value} {n : Nat} : ∀ v, (seqObj "list" xs n).data ≠ .cell v := fun v h => by cases h
abbrev flipIf (b : Bool) (xs : Array Keyed) : Array Keyed := if b = true then xs.reverse else xs
section
variable {a kS : Addr} {b : Bool} {vs : List Value} {kz : List Int} {keys : Array Value} {e e1 : Nat} {P : PySem.Fin → Shared → Prop}
theorem srt_tail {st : SortSt} (J : Hd X σ W ((kS, seqObj "list" keys e) :: (a, seqObj "list" #[] e1) :: pl) z) (mk : Mine X kS) (ma : Mine X a) (ka : kS ≠ a) (nk : ∀ p ∈ pl, p.1 ≠ kS) (na : ∀ p ∈ pl, p.1 ≠ a)
    (ki : IntsAre keys.toList kz) (hl : kz.length = vs.length) (hz : vs.length ≤ sizeLine) (pm : (arrOf st).Perm (keys.zip vs.toArray)) (so : SortedTo (arrOf st) (arrOf st).size) (nf : failedOf st = none) (sb : Stable intKind (arrOf st) (flipIf b (keys.zip vs.toArray)))
    (fin : ∀ z' out c, Hd X σ W ((a, seqObj "list" out c) :: pl) z' → KskOutSt b kz vs out.toList → P (.done (.ret .none)) z') : wpAny (model X.prog X.w) A (ksk_tail a b e1 (.ref kS) st) P E z := by
  have big := sizeLine_eq
  have e1k := J.at (b := kS) List.mem_cons_self
  have sz : keys.size = vs.length := by
    have q := ki.length
    rw [Array.length_toList] at q
    omega
  have szA : (arrOf st).size = vs.length := by
    rw [pm.size_eq, Array.size_zip, sz, List.size_toArray, Nat.min_self]
  have szO : (if b then ((arrOf st).map (·.2)).reverse else (arrOf st).map (·.2)).size = vs.length := by
    cases b with
    | true => simpa using szA
    | false => simpa using szA
  obtain ⟨c1, at1⟩ : ∃ c1, (z.heap.update kS (Obj.mapSeq fun _ => (#[] : Array Value))).get? kS = some (seqObj "list" #[] c1) := ⟨_, get?_update_seq e1k fun _ => #[]⟩
  have J1 := J.turn (t := z.toks) mk (fun p hp => (List.mem_cons.mp hp).elim (fun q => by rw [q]; exact ka.symm) (nk p)) (Heap.SameBut.update z.heap kS _) at1 seq_no
  have J2 := J1.sub (pl' := (a, seqObj "list" #[] e1) :: pl) fun p hp => List.mem_cons_of_mem _ hp
  have atA : (z.heap.update kS (Obj.mapSeq fun _ => (#[] : Array Value))).get? a = some (seqObj "list" #[] e1) := J2.at (b := a) List.mem_cons_self
  have good := ksk_outSt ki pm so sb
  have at2e : ∀ out : Array Value, ∃ c2, ((z.heap.update kS (Obj.mapSeq fun _ => (#[] : Array Value))).update a (Obj.mapSeq fun _ => out)).get? a = some (seqObj "list" out c2) := fun out => ⟨_, get?_update_seq atA fun _ => out⟩
  obtain ⟨c2, at2⟩ := at2e (if b then ((arrOf st).map (·.2)).reverse else (arrOf st).map (·.2))
  have J3 := J2.turn (t := z.toks) ma na (Heap.SameBut.update _ a _) at2 seq_no
  unfold ksk_tail
  try dsimp only
  refine wpAny_bind (listUpdate_at e1k rfl ?_ (by rw [sz]; omega) (Nat.zero_le _))
  refine wpAny_bind (wpAny_letGo (wpAny_bind (seqEpoch_at atA rfl ?_)))
  refine wpAny_bind (listUpdate_at atA rfl ?_ (Nat.zero_le _) (by rw [szO]; omega))
  rw [nf]
  simp only [bne_self_eq_false, Bool.false_eq_true, if_false]
  exact wpAny_pure (fin _ _ c2 J3 good)
theorem srt_end (J : Hd X σ W ((kS, seqObj "list" keys e) :: (a, seqObj "list" #[] e1) :: pl) z) (mk : Mine X kS) (ma : Mine X a) (ka : kS ≠ a) (nk : ∀ p ∈ pl, p.1 ≠ kS) (na : ∀ p ∈ pl, p.1 ≠ a)
    (ki : IntsAre keys.toList kz) (hl : kz.length = vs.length) (hz : vs.length ≤ sizeLine)
    (fin : ∀ z' out c, Hd X σ W ((a, seqObj "list" out c) :: pl) z' → KskOutSt b kz vs out.toList → P (.done (.ret .none)) z') : wpAny (model X.prog X.w) A (ksk_end a b vs.toArray e1 (.ref kS) keys) P E z := by
  have sz : keys.size = vs.length := by
    have q := ki.length
    rw [Array.length_toList] at q
    omega
  have szZ : (keys.zip vs.toArray).size = vs.length := by
    rw [Array.size_zip, sz, List.size_toArray, Nat.min_self]
  have first : ∀ t : Sem PySem.Fin, wpAny (model X.prog X.w) A t P E z → wpAny (model X.prog X.w) A (if b = true then (do let _ ← rule "list.sort.reverse"; t) else t) P E z := by
    intro t h
    cases b with
    | true => exact wpAny_bind (wpAny_rule h)
    | false => exact h
  have pm0 : (flipIf b (keys.zip vs.toArray)).Perm (keys.zip vs.toArray) := by
    cases b with
    | true =>
      refine Array.perm_iff_toList_perm.mpr ?_
      show ((keys.zip vs.toArray).reverse).toList.Perm _
      rw [Array.toList_reverse]
      exact List.reverse_perm _
    | false => exact Array.Perm.refl _
  have sz0 : (flipIf b (keys.zip vs.toArray)).size = vs.length := pm0.size_eq.trans szZ
  unfold ksk_end
  try dsimp only
  refine first _ ?_
  by_cases h2 : vs.length < 2
  · rw [if_pos (show vs.toArray.size < 2 by simpa using h2), if_pos (show vs.toArray.size < 2 by simpa using h2)]
    refine wpAny_bind (wpAny_pure ?_)
    rw [StateT.run_pure]
    refine wpAny_bind (wpAny_pure ?_)
    try dsimp only
    refine srt_tail (st := SortSt.mk' general' (flipIf b (keys.zip vs.toArray)) #[] 7 none) J mk ma ka nk na ki hl hz pm0 ?_ rfl (Stable.refl _) fin
    intro i j ij hj
    have hj2 : j < (flipIf b (keys.zip vs.toArray)).size := hj
    rw [sz0] at hj2
    clear hj
    have same : i = j := by omega
    rw [same]
    exact Int.le_refl _
  · rw [if_neg (show ¬ vs.toArray.size < 2 by simpa using h2), if_neg (show ¬ vs.toArray.size < 2 by simpa using h2), ksk_kind ki (by omega)]
    refine wpAny_bind (wpAny_pure (wpAny_bind (wpAny_mono (wpS_sortRunsSt (κ := intKind) (a₀ := flipIf b (keys.zip vs.toArray)) (st := SortSt.mk' oneType' (flipIf b (keys.zip vs.toArray)) #[] 7 none)
      (Q := fun _ t => (arrOf t).Perm (keys.zip vs.toArray) ∧ failedOf t = none ∧ SortedTo (arrOf t) (arrOf t).size ∧ Stable intKind (arrOf t) (flipIf b (keys.zip vs.toArray)))
      intKind_oneLt ((ksk_keysOfInt (ksk_intKeys ki)).perm pm0) ⟨Array.Perm.refl _, rfl, rfl⟩ rfl (Stable.refl _) ?_ fun t a1 a2 a3 a4 => ⟨a1.trans pm0, a2, ?_, a4⟩) ?_ fun _ _ h => h)))
    · have := sizeLine_eq
      rw [sz0]
      omega
    · rw [a1.size_eq]
      exact sortedTo_of_int a3
    · rintro ⟨⟨⟩, t⟩ z' ⟨rfl, q1, q2, q3, q4⟩
      try dsimp only
      exact srt_tail J mk ma ka nk na ki hl hz q1 q3 q2 q4 fin
/-- how the key is asked -/
def Asks (X : Cx) (σ : L2.St) (W : Hp → Prop) (A : Around) (f : Value) (vs : List Value) (kz : List Int) (keep : List (Addr × Obj)) : Prop :=
  ∀ (i : Nat) (v : Value) (k : Int) (pl : List (Addr × Obj)) (z : Shared), vs[i]? = some v → kz[i]? = some k → (∀ p ∈ keep, p ∈ pl) → Hd X σ W pl z →
    wpAny (model X.prog X.w) A (call f [v]) (fun r z' => ∃ t, r = .int k t ∧ Hd X σ W pl z') (fun _ _ => False) z
theorem srt_rest {f : Value} (J : Hd X σ W ((kS, seqObj "list" #[] 0) :: (a, seqObj "list" #[] e1) :: pl) z) (mk : Mine X kS) (ma : Mine X a) (ka : kS ≠ a) (nk : ∀ p ∈ pl, p.1 ≠ kS) (na : ∀ p ∈ pl, p.1 ≠ a)
    (hl : kz.length = vs.length) (hz : vs.length ≤ sizeLine) (ask : Asks X σ W A f vs kz pl)
    (fin : ∀ z' out c, Hd X σ W ((a, seqObj "list" out c) :: pl) z' → KskOutSt b kz vs out.toList → P (.done (.ret .none)) z') : wpAny (model X.prog X.w) A (ksk_rest a f b vs.toArray e1 (.ref kS)) P E z := by
  have big := sizeLine_eq
  unfold ksk_rest
  refine wpAny_bind (wpAny_rule ?_)
  rw [← Array.forIn_toList]
  simp only [List.toList_toArray]
  refine wpAny_bind (ksk_fold (fun i z' => ∃ (kA : Array Value) (n : Nat), Hd X σ W ((kS, seqObj "list" kA n) :: (a, seqObj "list" #[] e1) :: pl) z' ∧ IntsAre kA.toList (kz.take i)) vs 0 z ⟨#[], 0, J, by simpa using IntsAre.nil⟩ ?_ ?_)
  · rintro j x z' hx ⟨kA, n, J', hk⟩
    rw [Nat.zero_add] at hk ⊢
    have jl : j < vs.length := (List.getElem?_eq_some_iff.mp hx).1
    obtain ⟨k, hkj⟩ : ∃ k, kz[j]? = some k := ⟨_, List.getElem?_eq_getElem (by omega)⟩
    have szk : kA.size ≤ vs.length := by
      have q := hk.length
      rw [Array.length_toList, List.length_take] at q
      omega
    refine wpAny_bind (wpAny_attempt (wpAny_mono (ask j x k _ z' hx hkj (fun p hp => List.mem_cons_of_mem _ (List.mem_cons_of_mem _ hp)) J') ?_ fun _ _ h => h.elim))
    rintro r z2 ⟨t, rfl, J2⟩
    try dsimp only
    have at1 := J2.at (b := kS) List.mem_cons_self
    obtain ⟨c, at2⟩ : ∃ c, (z2.heap.update kS (Obj.mapSeq (·.push (.int k t)))).get? kS = some (seqObj "list" (kA.push (.int k t)) c) := ⟨_, get?_update_seq at1 (·.push (.int k t))⟩
    have J3 := J2.turn (t := z2.toks) mk (fun p hp => (List.mem_cons.mp hp).elim (fun q => by rw [q]; exact ka.symm) (nk p)) (Heap.SameBut.update z2.heap kS _) at2 seq_no
    refine wpAny_bind (listUpdate_at at1 rfl ?_ (by omega) (by rw [Array.size_push]; omega))
    refine wpAny_pure ⟨rfl, kA.push (.int k t), c, J3, ?_⟩
    have tk : kz.take (j + 1) = kz.take j ++ [k] := by
      rw [List.take_add_one, hkj]
      rfl
    rw [tk, Array.toList_push]
    exact ksk_snoc hk
  · rintro z' ⟨kA, n, J', hk⟩
    rw [Nat.zero_add, List.take_of_length_le (by omega)] at hk
    try dsimp only
    exact wpAny_bind (listItems_at (J'.at (b := kS) List.mem_cons_self) rfl (srt_end J' mk ma ka nk na hk hl hz fin))
theorem srt_tree {f : Value} {n : Nat} (J : Hd X σ W ((a, seqObj "list" vs.toArray n) :: pl) z) (ma : Mine X a) (na : ∀ p ∈ pl, p.1 ≠ a) (hl : kz.length = vs.length) (hz : vs.length ≤ sizeLine) (ask : Asks X σ W A f vs kz pl)
    (fin : ∀ z' out c, Hd X σ W ((a, seqObj "list" out c) :: pl) z' → KskOutSt b kz vs out.toList → P (.done (.ret .none)) z') : wpAny (model X.prog X.w) A (ksk_tree a f b) P E z := by
  have big := sizeLine_eq
  have at0 := J.at (b := a) List.mem_cons_self
  have la : a < z.heap.objs.size := Heap.lt_size at0
  have ex1 : ∃ c, (z.heap.update a (Obj.mapSeq fun _ => (#[] : Array Value))).get? a = some (seqObj "list" #[] c) := ⟨_, get?_update_seq at0 fun _ => #[]⟩
  obtain ⟨c1, at1⟩ := ex1
  have J1 := J.turn (t := z.toks) ma na (Heap.SameBut.update z.heap a _) at1 seq_no
  unfold ksk_tree
  refine wpAny_bind (listItems_at at0 rfl ?_)
  refine wpAny_bind (listUpdate_at at0 rfl ?_ (by rw [List.size_toArray]; omega) (Nat.zero_le _))
  refine wpAny_bind (seqEpoch_at at1 rfl ?_)
  refine wpAny_bind (wpAny_newTuple ?_ (by show vs.length ≤ _; omega))
  refine wpAny_bind (wpAny_newList ?_ (Nat.zero_le _))
  refine wpAny_holding ?_
  have sz1 : ((z.heap.update a (Obj.mapSeq fun _ => (#[] : Array Value))).push (seqObj "tuple" vs.toArray 0)).objs.size = z.heap.objs.size + 1 := by rw [size_push', Heap.size_update]
  have sz0 : (z.heap.update a (Obj.mapSeq fun _ => (#[] : Array Value))).objs.size = z.heap.objs.size := Heap.size_update ..
  obtain ⟨G1, I1, w1⟩ := id J1
  have le1 : (z.heap.update a (Obj.mapSeq fun _ => (#[] : Array Value))).objs.size ≤ ((z.heap.update a (Obj.mapSeq fun _ => (#[] : Array Value))).push (seqObj "tuple" vs.toArray 0)).objs.size := by rw [sz1, sz0]; exact Nat.le_succ _
  have I2 := pin_more (t := z.toks) (h' := ((z.heap.update a (Obj.mapSeq fun _ => (#[] : Array Value))).push (seqObj "tuple" vs.toArray 0)).push (seqObj "list" #[] 0)) I1 (fun _ _ q => Heap.get?_push_of_some _ (Heap.get?_push_of_some _ q)) le1 (Heap.get?_push_size _ rfl) seq_no
  have ka : ((z.heap.update a (Obj.mapSeq fun _ => (#[] : Array Value))).push (seqObj "tuple" vs.toArray 0)).objs.size ≠ a := by
    rw [sz1]
    exact Nat.ne_of_gt (Nat.lt_succ_of_lt la)
  refine srt_rest ⟨G1, I2, w1⟩ (mine_new I1 le1) ma ka (fun p hp => ?_) na hl hz ask fin
  rw [sz1]
  have lp : p.1 < z.heap.objs.size := Heap.lt_size (J.at (b := p.1) (o := p.2) (List.mem_cons_of_mem _ hp))
  exact Nat.ne_of_lt (Nat.lt_succ_of_lt lp)
theorem srt_sorted {l : Addr} {f : Value} {kw : List (Str × Value)} {Q : Value → Shared → Prop} (J : Hd X σ W pl z) (il : z.heap.IsList l vs.toArray) (hl : kz.length = vs.length) (hz : vs.length ≤ sizeLine)
    (ok1 : argsOk "sorted" ⟨[.ref l], kw⟩) (ok2 : ∀ x, argsOk "list.sort" ⟨[.ref x], kw⟩) (tree : ∀ x, Builtin.«list.sort» ⟨[.ref x], kw⟩ = ksk_tree x f b) (ask : Asks X σ W A.in1.in1 f vs kz pl)
    (fin : ∀ D z' out c, Hd X σ W ((D, seqObj "list" out c) :: pl) z' → Mine X D → (∀ p ∈ pl, p.1 ≠ D) → KskOutSt b kz vs out.toList → Q (.ref D) z') : wpAny (model X.prog X.w) A (call (.builtin "sorted") [.ref l] kw) Q E z := by
  have big := sizeLine_eq
  refine call_function_entry_kw kind_sorted plain_sorted entry_sorted ok1 ?_
  unfold Builtin.«sorted»
  refine wpAny_bind (m := checkCount "sorted" 1 1 _) (wpAny_pure (wpAny_bind (collect_list il ?_ (by omega))))
  refine wpAny_bind (wpAny_newList ?_ (by omega))
  have sz1 : ((z.heap.push (seqObj "list" #[] 0)).update z.heap.objs.size (Obj.mapSeq (· ++ vs.toArray))).objs.size = z.heap.objs.size + 1 := by rw [Heap.size_update, size_push']
  have at1 : (((z.heap.push (seqObj "list" #[] 0)).update z.heap.objs.size (Obj.mapSeq (· ++ vs.toArray))).push (seqObj "list" vs.toArray 0)).get? (z.heap.objs.size + 1) = some (seqObj "list" vs.toArray 0) := by
    rw [← sz1]
    exact Heap.get?_push_size _ rfl
  have kp : ∀ c u, z.heap.get? c = some u → (((z.heap.push (seqObj "list" #[] 0)).update z.heap.objs.size (Obj.mapSeq (· ++ vs.toArray))).push (seqObj "list" vs.toArray 0)).get? c = some u := by
    intro c u q
    have lt : c < z.heap.objs.size := Heap.lt_size q
    refine Heap.get?_push_of_some _ ?_
    rw [Heap.get?_update_ne _ _ _ _ (Nat.ne_of_lt lt)]
    exact Heap.get?_push_of_some _ q
  obtain ⟨G0, I0, w0⟩ := id J
  have I1 := pin_more (t := z.toks) I0 kp (Nat.le_succ _) at1 seq_no
  show wpAny _ _ _ _ _ { z with heap := ((z.heap.push (seqObj "list" #[] 0)).update z.heap.objs.size (Obj.mapSeq (· ++ vs.toArray))).push (seqObj "list" vs.toArray 0) }
  rw [sz1]
  have npl : ∀ p ∈ pl, p.1 ≠ z.heap.objs.size + 1 := fun p hp => Nat.ne_of_lt (Nat.lt_succ_of_lt (Heap.lt_size (J.at (b := p.1) (o := p.2) hp)))
  refine wpAny_bind (wpAny_holding (wpAny_call_entry_kw slot_list_sort ⟨_, at1, rfl⟩ entry_list_sort ?_ (ok2 _)))
  rw [tree]
  refine srt_tree ⟨G0, I1, w0⟩ (mine_new I0 (Nat.le_succ _)) npl hl hz ask ?_
  intro z' out c J' ko
  exact ⟨_, rfl, wpAny_pure ⟨_, rfl, fin _ z' out c J' (mine_new I0 (Nat.le_succ _)) npl ko⟩⟩
end
end
end PD

/-! Phrasedesk: max(.., key=f) -/
namespace PD
open PySem PySem.Spec PyProof.Rows L2
section
variable {X : Cx} {pl : List (Addr × Obj)} {σ : L2.St} {G : Hp} {z : Shared} {W : Hp → Prop} {A : Around} {E : Value → Shared → Prop} {l q it S : Addr} {xs : List V} {kz : List Int} {R : Result → Shared → Prop} {Q : Value → Shared → Prop}
abbrev kAt (kz : List Int) (i : Nat) : Int := kz.getD i 0
theorem kAt_some {i : Nat} (h : i < kz.length) : kz[i]? = some (kAt kz i) := by
  rw [List.getElem?_eq_getElem h]
  simp [kAt, h]
/-- how the key is asked, by the values -/
def AsksV (X : Cx) (σ : L2.St) (W : Hp → Prop) (A : Around) (f : Value) (xs : List V) (kz : List Int) (keep : List (Addr × Obj)) : Prop :=
  ∀ (i : Nat) (x : V) (v : Value) (k : Int) (pl : List (Addr × Obj)) (z : Shared), xs[i]? = some x → RelV x v → kz[i]? = some k → (∀ p ∈ keep, p ∈ pl) → Hd X σ W pl z →
    wpAny (model X.prog X.w) A (call f [v]) (fun r z' => ∃ t, r = .int k t ∧ Hd X σ W pl z') (fun _ _ => False) z
theorem AsksV.of {f : Value} {vs : List Value} (h : AsksV X σ W A f xs kz pl) (r : Vals xs vs) : Asks X σ W A f vs kz pl := by
  intro i v k pl' z ev ek hp J
  have li : i < vs.length := (List.getElem?_eq_some_iff.mp ev).1
  have li2 : i < xs.length := by
    rw [r.length]
    exact li
  have ex : xs[i]? = some xs[i] := List.getElem?_eq_getElem li2
  obtain ⟨u, eu, ru⟩ := r.get ex
  rw [ev] at eu
  cases eu
  exact h i _ v k pl' z ex ru ek hp J
/-- the first of the greatest so far -/
def Best (kz : List Int) (n i : Nat) : Prop := ∀ j, j < n → kAt kz j ≤ kAt kz i ∧ (j < i → kAt kz j < kAt kz i)
theorem turned_pin {h' : Heap} {t : Nat} {o o' : Obj} {b : Addr} (J : Hd X σ W ((b, o) :: pl) z) (m : Mine X b) (ne : ∀ p ∈ pl, p.1 ≠ b) (k : ∀ c u, c ∉ [b] → z.heap.get? c = some u → h'.get? c = some u) (e : h'.get? b = some o') (d : ∀ v, o'.data ≠ .cell v) :
    Hd X σ W ((b, o') :: pl) { z with heap := h', toks := t } :=
  let ⟨G, I, w⟩ := J
  ⟨G, pin_turn I m ne (fun c u hc => k c u fun h => hc (List.mem_singleton.mp h)) e d, w⟩
theorem turned_drop {h' : Heap} {t : Nat} {o : Obj} {b : Addr} (J : Hd X σ W ((b, o) :: pl) z) (m : Mine X b) (ne : ∀ p ∈ pl, p.1 ≠ b) (k : ∀ c u, c ∉ [b] → z.heap.get? c = some u → h'.get? c = some u) : Hd X σ W pl { z with heap := h', toks := t } := by
  obtain ⟨G, I, w⟩ := J
  have n0 := (I.pin (b, o) (List.mem_append_right _ List.mem_cons_self)).2.1
  have I1 : Inv X pl σ G z := pin_sub I fun p hp => List.mem_cons_of_mem _ hp
  exact ⟨G, I1.turned (t' := t) (it := b) (fun c u hc => k c u fun h => hc (List.mem_singleton.mp h)) n0 m.loc m.own m.cell fun p hp => (List.mem_append.mp hp).elim (m.pn p) (ne p), w⟩
theorem Hd.swap {a b : Addr × Obj} (J : Hd X σ W (a :: b :: pl) z) : Hd X σ W (b :: a :: pl) z := J.sub fun p hp => by
  rcases List.mem_cons.mp hp with h | h
  · rw [h]
    exact List.mem_cons_of_mem _ List.mem_cons_self
  · rcases List.mem_cons.mp h with h | h
    · rw [h]
      exact List.mem_cons_self
    · exact List.mem_cons_of_mem _ (List.mem_cons_of_mem _ h)
theorem Hd.tail {a : Addr × Obj} (J : Hd X σ W (a :: pl) z) : Hd X σ W pl z := J.sub fun p hp => List.mem_cons_of_mem _ hp
theorem not_pl {b : Addr} {o : Obj} (nb : ∀ p ∈ pl, p.1 ≠ b) {a : Addr} (h : a ≠ b) : ∀ p ∈ (a, o) :: pl, p.1 ≠ b := fun p hp => (List.mem_cons.mp hp).elim (fun e => by rw [e]; exact h) (nb p)
theorem iter_no {l : Addr} {n : Nat} {h : Heap} {o : Obj} (hit : h.IsListIter it l n) (e : h.get? it = some o) : ∀ v, o.data ≠ .cell v := by
  obtain ⟨o', e', _, d⟩ := hit
  rw [e] at e'
  cases e'
  intro v h
  rw [d] at h
  cases h
theorem max_go (hc : A.handled = none) (isl : ∀ z, Hd X σ W pl z → ∃ vs : List Value, Vals xs vs ∧ z.heap.IsList l vs.toArray) (hl : kz.length = xs.length) (mI : Mine X it) (mS : Mine X S) (lI : l ≠ it) (SI : S ≠ it) (nS : ∀ p ∈ pl, p.1 ≠ S) (nI : ∀ p ∈ pl, p.1 ≠ it)
    (ask : AsksV X σ W A.in1 (.ref q) xs kz pl) (fin : ∀ i x v z', xs[i]? = some x → RelV x v → Best kz xs.length i → Hd X σ W pl z' → R (.ok (.ret v)) z') :
    ∀ (r j i : Nat) (z : Shared) (xb : V) (vb : Value) (tb : Tok) (c : Nat) (oI : Obj), xs.length - (j + 1) = r → j + 1 ≤ xs.length → Hd X σ W ((S, seqObj "list" #[vb, .int (kAt kz i) tb] c) :: (it, oI) :: pl) z → z.heap.IsListIter it l (j + 1) →
      xs[i]? = some xb → RelV xb vb → i ≤ j → Best kz (j + 1) i → codeAny (model X.prog X.w) A (.builtin "max.loop" ⟨[.ref it, .ref q, .ref S], []⟩) R z := by
  have nm : (toString "max" ++ toString ".loop" : String) = "max.loop" := by decide
  intro r
  induction r with
  | zero =>
    intro j i z xb vb tb c oI hr hj J hit hv rb ij best
    obtain ⟨vs, rv, il⟩ := isl z J.tail.tail
    have wk := Walks.list (prog := X.prog) (w := X.w) (A := A.in1) hc it l lI vs.toArray
    have sz : vs.toArray.size = xs.length := (List.size_toArray ..).trans rv.length.symm
    have ej : j + 1 = xs.length := by omega
    have atS := J.at (b := S) List.mem_cons_self
    refine codeAny_builtin PySem.F.entry_max_loop ?_
    rw [Around.under_plainId PySem.F.plain_max_loop _]
    show wpAny _ A.in1 (seqItems? (.ref S) >>= _) _ _ _
    refine wpAny_bind (wpAny_seqItems atS rfl ?_)
    show wpAny _ A.in1 (tryCatch (pyNext (.ref it)) _ >>= _) _ _ _
    refine wpAny_bind (wpAny_tryCatch (wk.done z _ _ ⟨by rw [sz, ← ej]; exact hit, il⟩ fun h' tk' hk' => ?_))
    have J1 := turned_drop (t := tk') J.swap mI (not_pl nI SI) hk'
    have atS1 := J1.at (b := S) List.mem_cons_self
    show wpAny _ A.in1 (updateSeq S (fun _ => #[]) >>= _) _ _ _
    refine wpAny_bind (wpAny_updateSeq atS1 rfl (wpAny_bind (wpAny_letGo (wpAny_pure ?_))))
    have sb := Heap.SameBut.update h' S (Obj.mapSeq fun _ => (#[] : Array Value))
    have J2 := turned_drop (t := tk') (h' := h'.update S (Obj.mapSeq fun _ => (#[] : Array Value))) J1 mS nS fun c u hc e => (sb.2 c fun h => hc (by rw [h]; exact List.mem_cons_self)).trans e
    exact fin i xb vb _ hv rb (by rw [← ej]; exact best) J2
  | succ r ih =>
    intro j i z xb vb tb c oI hr hj J hit hv rb ij best
    obtain ⟨vs, rv, il⟩ := isl z J.tail.tail
    have wk := Walks.list (prog := X.prog) (w := X.w) (A := A.in1) hc it l lI vs.toArray
    have sz : vs.toArray.size = xs.length := (List.size_toArray ..).trans rv.length.symm
    have lt : j + 1 < xs.length := by omega
    have ex1 : xs[j + 1]? = some xs[j + 1] := List.getElem?_eq_getElem lt
    have atS := J.at (b := S) List.mem_cons_self
    refine codeAny_builtin PySem.F.entry_max_loop ?_
    rw [Around.under_plainId PySem.F.plain_max_loop _]
    show wpAny _ A.in1 (seqItems? (.ref S) >>= _) _ _ _
    refine wpAny_bind (wpAny_seqItems atS rfl ?_)
    show wpAny _ A.in1 (tryCatch (pyNext (.ref it)) _ >>= _) _ _ _
    refine wpAny_bind (wpAny_tryCatch (wk.item (j + 1) z _ _ (by rw [sz]; exact lt) ⟨hit, il⟩ fun v h' tk' hp st' hk' => ?_))
    have ev : vs[j + 1]? = some v := by simpa using hp
    obtain ⟨v', ev', r1⟩ := rv.get ex1
    rw [ev] at ev'
    cases ev'
    obtain ⟨o', e', c', d'⟩ := id st'.1
    have J1 := turned_pin (t := tk') (o' := o') J.swap mI (not_pl nI SI) hk' e' (iter_no st'.1 e')
    show wpAny _ A.in1 (tryCatch (holding [v] (call (.ref q) [v])) _ >>= _) _ _ _
    refine wpAny_bind (wpAny_tryCatch (wpAny_holding (wpAny_mono (ask (j + 1) _ v _ _ _ ex1 r1 (kAt_some (by omega)) (fun p hp => List.mem_cons_of_mem _ (List.mem_cons_of_mem _ hp)) J1) ?_ fun _ _ h => h.elim)))
    rintro x z2 ⟨t2, rfl, J2⟩
    have atI2 := J2.at (b := it) List.mem_cons_self
    have J3 := J2.swap
    have atS2 := J3.at (b := S) List.mem_cons_self
    show wpAny _ A.in1 (tryCatch (holding [v, .int (kAt kz (j + 1)) t2] (richCompare .Gt (.int (kAt kz (j + 1)) t2) (.int (kAt kz i) tb) >>= _)) _ >>= _) _ _ _
    refine wpAny_bind (wpAny_tryCatch (wpAny_holding (wpAny_bind (CmpOf.ints_gt (prog := X.prog) (w := X.w) (A := A.in1) (P := fun i v => ∃ t, v = .int (kAt kz i) t) (kAt kz) (fun i v h => h) (j + 1) i _ _ _ _ _ ⟨t2, rfl⟩ ⟨tb, rfl⟩ ?_))))
    refine wpAny_bind (wpAny_holding (wpAny_truthy_bool (wpAny_bind (wpAny_letGo (wpAny_pure ?_)))))
    by_cases gt : kAt kz (j + 1) > kAt kz i
    · have sb := Heap.SameBut.update z2.heap S (Obj.mapSeq fun _ => #[v, .int (kAt kz (j + 1)) t2])
      have ex : ∃ c2, (z2.heap.update S (Obj.mapSeq fun _ => #[v, .int (kAt kz (j + 1)) t2])).get? S = some (seqObj "list" #[v, .int (kAt kz (j + 1)) t2] c2) := ⟨_, get?_update_seq atS2 fun _ => #[v, .int (kAt kz (j + 1)) t2]⟩
      obtain ⟨c2, at3⟩ := ex
      have J4 := J3.turn (t := z2.toks) mS (not_pl nS SI.symm) sb at3 seq_no
      simp only [gt, decide_true, if_true]
      refine wpAny_bind (wpAny_updateSeq atS2 rfl (wpAny_bind (wpAny_letGo ?_)))
      rw [nm]
      refine wpAny_pure ⟨plainId_quiet PySem.F.plain_max_loop _, ih (j + 1) (j + 1) _ _ v t2 c2 o' (by omega) lt J4 ⟨o', (sb.2 it SI.symm).trans atI2, c', d'⟩ ex1 r1 (Nat.le_refl _) ?_⟩
      intro k hk
      by_cases e : k = j + 1
      · rw [e]
        exact ⟨Int.le_refl _, fun h => absurd h (Nat.lt_irrefl _)⟩
      · have b1 := (best k (by omega)).1
        exact ⟨by omega, fun _ => by omega⟩
    · simp only [gt, decide_false, Bool.false_eq_true, if_false]
      refine wpAny_bind (wpAny_letGo ?_)
      rw [nm]
      refine wpAny_pure ⟨plainId_quiet PySem.F.plain_max_loop _, ih (j + 1) i _ xb vb tb c o' (by omega) lt J3 ⟨o', atI2, c', d'⟩ hv rb (by omega) ?_⟩
      intro k hk
      by_cases e : k = j + 1
      · rw [e]
        exact ⟨by omega, fun h => by omega⟩
      · exact best k (by omega)
theorem max_key (hc : A.handled = none) (J : Hd X σ W pl z) (isl : ∀ z, Hd X σ W pl z → ∃ vs : List Value, Vals xs vs ∧ z.heap.IsList l vs.toArray) (hl : kz.length = xs.length) (ne : 0 < xs.length) (ask : AsksV X σ W A.in1 (.ref q) xs kz pl)
    (fin : ∀ i x v z', xs[i]? = some x → RelV x v → Best kz xs.length i → Hd X σ W pl z' → Q v z') : wpAny (model X.prog X.w) A (call (.builtin "max") [.ref l] [(Str.ofString "key", .ref q)]) Q E z := by
  have nm : (toString "max" ++ toString ".loop" : String) = "max.loop" := by decide
  obtain ⟨vs, rv, il⟩ := isl z J
  have ex1 : xs[0]? = some xs[0] := List.getElem?_eq_getElem ne
  obtain ⟨ol, atl, _⟩ := id il
  have ll : l < z.heap.objs.size := Heap.lt_size atl
  refine kmk_tree PySem.F.kind_max PySem.F.plain_max PySem.F.entry_max (kmk_max_key _ _) ?_
  show wpAny _ A.in1 (Builtin.Builtins.bindParams "max" ["key", "default"] 0 ⟨[], [(Str.ofString "key", .ref q)]⟩ >>= _) _ _ z
  refine wpAny_bind (wpAny_of_eq (show _ = pure [some (Value.ref q), none] from rfl) (wpAny_bind (wpAny_pure ?_)))
  refine wpAny_bind (wpAny_pyIter_list il (wpAny_bind (wpAny_newList ?_ (Nat.zero_le _))))
  rw [nm]
  obtain ⟨G0, I0, w0⟩ := id J
  have no : ∀ v, (⟨.type "list_iterator", none, .fields #[.ref l, .int 0 0], #[]⟩ : Obj).data ≠ .cell v := fun v h => by cases h
  generalize eo : (⟨.type "list_iterator", none, .fields #[.ref l, .int 0 0], #[]⟩ : Obj) = o0 at no
  show wpAny _ _ (again (.builtin "max.loop" ⟨[.ref z.heap.objs.size, .ref q, .ref (z.heap.push o0).objs.size], []⟩)) _ _ { z with heap := (z.heap.push o0).push (seqObj "list" #[] 0) }
  have d0 : o0.cls = .type "list_iterator" ∧ o0.data = .fields #[.ref l, .int 0 0] := by
    rw [← eo]
    exact ⟨rfl, rfl⟩
  have sz1 : (z.heap.push o0).objs.size = z.heap.objs.size + 1 := size_push' ..
  have mI := mine_new I0 (Nat.le_refl z.heap.objs.size)
  have I1 := pin_more (t := z.toks) I0 (fun c u e => Heap.get?_push_of_some o0 e) (Nat.le_refl _) (Heap.get?_push_size _ (by rw [← eo]; rfl)) no
  have I2 := pin_more (t := z.toks) (h' := (z.heap.push o0).push (seqObj "list" #[] 0)) I1 (fun c u e => Heap.get?_push_of_some _ e) (Nat.le_refl _) (Heap.get?_push_size _ rfl) seq_no
  have mS := mine_new I1 (Nat.le_refl (z.heap.push o0).objs.size)
  have J2 : Hd X σ W (((z.heap.push o0).objs.size, seqObj "list" #[] 0) :: (z.heap.objs.size, o0) :: pl) { z with heap := (z.heap.push o0).push (seqObj "list" #[] 0) } := ⟨G0, I2, w0⟩
  have SI : (z.heap.push o0).objs.size ≠ z.heap.objs.size := by
    rw [sz1]
    exact Nat.ne_of_gt (Nat.lt_succ_self _)
  have npl : ∀ p ∈ pl, p.1 < z.heap.objs.size := fun p hp => Heap.lt_size (J.at (b := p.1) (o := p.2) hp)
  have nI : ∀ p ∈ pl, p.1 ≠ z.heap.objs.size := fun p hp => Nat.ne_of_lt (npl p hp)
  have nS : ∀ p ∈ pl, p.1 ≠ (z.heap.push o0).objs.size := fun p hp => by
    rw [sz1]
    exact Nat.ne_of_lt (Nat.lt_succ_of_lt (npl p hp))
  have lI : l ≠ z.heap.objs.size := Nat.ne_of_lt ll
  have go := max_go (R := fun r z' => match r with | .ok (.ret v) => Q v z' | .ok _ => False | .error e => E e z') (q := q) hc isl hl mI mS lI SI nS nI ask fun i x v z' a b c d => fin i x v z' a b c d
  refine wpAny_pure ⟨plainId_quiet PySem.F.plain_max_loop _, ?_⟩
  refine codeAny_builtin PySem.F.entry_max_loop ?_
  rw [Around.under_plainId PySem.F.plain_max_loop _]
  have atS := J2.at (b := (z.heap.push o0).objs.size) List.mem_cons_self
  have atI := J2.at (b := z.heap.objs.size) (List.mem_cons_of_mem _ List.mem_cons_self)
  generalize (z.heap.push o0).objs.size = S at *
  generalize (z.heap.push o0).push (seqObj "list" #[] 0) = h2 at *
  show wpAny _ A.in1 (seqItems? (.ref _) >>= _) _ _ _
  refine wpAny_bind (wpAny_seqItems atS rfl ?_)
  show wpAny _ A.in1 (tryCatch (pyNext (.ref z.heap.objs.size)) _ >>= _) _ _ _
  obtain ⟨vs2, rv2, il2⟩ := isl _ J2.tail.tail
  have wk := Walks.list (prog := X.prog) (w := X.w) (A := A.in1) hc z.heap.objs.size l lI vs2.toArray
  have sz : vs2.toArray.size = xs.length := (List.size_toArray ..).trans rv2.length.symm
  refine wpAny_bind (wpAny_tryCatch (wk.item 0 _ _ _ (by rw [sz]; exact ne) ⟨⟨_, atI, d0.1, d0.2⟩, il2⟩ fun v h' tk' hp st' hk' => ?_))
  have ev : vs2[0]? = some v := by simpa using hp
  obtain ⟨v', ev', r1⟩ := rv2.get ex1
  rw [ev] at ev'
  cases ev'
  obtain ⟨o', e', c', d'⟩ := id st'.1
  have J3 := turned_pin (t := tk') (o' := o') J2.swap mI (not_pl nI SI) hk' e' (iter_no st'.1 e')
  show wpAny _ A.in1 (tryCatch (holding [v] (call (.ref q) [v])) _ >>= _) _ _ _
  refine wpAny_bind (wpAny_tryCatch (wpAny_holding (wpAny_mono (ask 0 _ v _ _ _ ex1 r1 (kAt_some (by omega)) (fun p hp => List.mem_cons_of_mem _ (List.mem_cons_of_mem _ hp)) J3) ?_ fun _ _ h => h.elim)))
  rintro x z2 ⟨t2, rfl, J4⟩
  have atI2 := J4.at (b := z.heap.objs.size) List.mem_cons_self
  have J5 := J4.swap
  have atS2 := J5.at (b := S) List.mem_cons_self
  have sb := Heap.SameBut.update z2.heap S (Obj.mapSeq fun _ => #[v, .int (kAt kz 0) t2])
  have ex : ∃ c2, (z2.heap.update S (Obj.mapSeq fun _ => #[v, .int (kAt kz 0) t2])).get? S = some (seqObj "list" #[v, .int (kAt kz 0) t2] c2) := ⟨_, get?_update_seq atS2 fun _ => #[v, .int (kAt kz 0) t2]⟩
  obtain ⟨c2, at3⟩ := ex
  have J6 := J5.turn (t := z2.toks) mS (not_pl nS SI.symm) sb at3 seq_no
  show wpAny _ A.in1 (updateSeq S (fun _ => #[v, .int (kAt kz 0) t2]) >>= _) _ _ _
  refine wpAny_bind (wpAny_updateSeq atS2 rfl ?_)
  rw [nm]
  refine wpAny_pure ⟨plainId_quiet PySem.F.plain_max_loop _, go _ 0 0 _ _ v t2 c2 o' rfl ne J6 ⟨o', (sb.2 _ SI.symm).trans atI2, c', d'⟩ ex1 r1 (Nat.le_refl _) ?_⟩
  intro k hk
  have ek : k = 0 := by omega
  rw [ek]
  exact ⟨Int.le_refl _, fun h => absurd h (Nat.lt_irrefl _)⟩
end
end PD

/-! Phrasedesk: a lambda of one parameter as a key -/
namespace PD
open PySem PySem.Spec PyProof.Rows L2 LamX NdefX
/-- the words of a lambda of one parameter x that captures fr; js: where these stand among the names of the def that makes it -/
structure LamK (X : Cx) (N fr : List Str) (x : Str) (js : List Nat) (params : Arguments) (body : Expr) (scope : Scope) : Prop where
  S : NScope N [x] fr scope
  free : ∀ y ∈ scope.names, y.2 = .free → X.env.scope.names.lookup y.1 = some .cell ∨ X.env.scope.names.lookup y.1 = some .free
  cap : ∀ y ∈ fr, (y, NameKind.free) ∈ scope.names
  js : js.map (fun j => X.N[j]?) = fr.map some
  dflt : defaultsOf params X.env = ([], [])
  bind : ∀ (q : Str) (cl : List (Str × Addr)) (pm cv ctv u : Value), bindArgs (PySem.W.kla_fn "<lambda>" q params body scope cl pm cv ctv) ⟨[u], []⟩ = pure [(x, u)]
abbrev lamN (X : Cx) (params : Arguments) (scope : Scope) (c' : Addr) : NF := ⟨"<lambda>", X.env.qual ++ "<lambda>", params, [], scope, cloFrom X.env.cells scope.names [], c'⟩
abbrev lamO (X : Cx) (params : Arguments) (body : Expr) (scope : Scope) (pm : Value) (c' : Addr) (ctv : Value) : Obj :=
  PySem.W.kla_obj "<lambda>" (X.env.qual ++ "<lambda>") params body scope (cloFrom X.env.cells scope.names []) pm c' ctv
abbrev lamX (X : Cx) (N : List Str) (params : Arguments) (scope : Scope) (f c' : Addr) (A : Around) (outer : List Env) (z : Shared) (G : Hp) : Cx :=
  ncx CX0 X.prog X.w X.K X.mg X.base N (lamN X params scope c') f A outer z G E0
section
variable {X : Cx} {pl : List (Addr × Obj)} {σ : L2.St} {G : Hp} {z : Shared} {A : Around} {N fr : List Str} {x : Str} {js : List Nat} {params : Arguments} {body : Expr} {scope : Scope} {f c' : Addr} {pm ctv : Value} {k : Nat} {tb : TE}
/-- it is called -/
theorem lam_call {v : V} {u : Value} {Q : VK} (I : Inv X pl σ G z) (L : LamK X N fr x js params body scope) (hf : z.heap.get? f = some (lamO X params body scope pm c' ctv)) (hc : G c' = some (CodeO c' (X.env.qual ++ "<lambda>"))) (fa : A.frames = some X.stack) (hr : Room (k + 1) A)
    (hb : ∀ (A : Around) (outer : List Env) (z : Shared) (G : Hp), Room k (A.deeper (envF (lamN X params scope c') f z.heap.objs.size)) → PE (lamX X N params scope f c' A outer z G) body tb)
    (r : RelV v u) (h : tb (startF N [v] (js.map (slotAt σ))) G Q) : wpAny (model X.prog X.w) A (call (.ref f) [u]) (EP X pl σ Q) (fun _ _ => False) z := by
  have e0 : Env0 X.prog X.w X.K X.mg X.base A X.stack z G := ⟨fa, I.env0.mod, I.env0.bs, I.env0.bsz, I.env0.funs, I.env0.frf, I.env0.hok, I.env0.bare⟩
  have cells := cells_of I (Caps.made I.ok L.free L.cap L.js)
  have run : codeAny (model X.prog X.w) A (.call (.ref f) ⟨[u], []⟩) (CR CX0 X.stack X.prog X.w G z Q E0) z := by
    refine PySem.W.kla_callFunE hr.depth hf rfl L.S.co L.S.gen rfl (codeO_at I.hok hc) ?_
    rw [L.bind]
    refine wpAny_pure (wpAny_newFunctionEnv L.S.nocell (fun y hy => ?_) (fun h1 ns sb => ⟨I.nolimit.fresh _ sb, ?_⟩) L.S.kind)
    · have ey : y = (x, u) := List.mem_singleton.mp hy
      rw [ey]
      exact L.S.par x List.mem_cons_self
    · show codeAny _ _ (.expr body (envF (lamN X params scope c') f z.heap.objs.size)) _ _
      have kp : ∀ b o, z.heap.get? b = some o → h1.get? b = some o := by
        intro b o e
        exact sb.extBut b o (Nat.ne_of_lt (Heap.lt_size e)) (Heap.get?_push_of_some _ e)
      have J : Inv (lamX X N params scope f c' A X.stack z G) [] (startF N [v] (js.map (slotAt σ))) G { z with heap := h1, toks := z.toks + ([(x, u)] : List (Str × Value)).length } :=
        inv_startN (ps := [x]) (us := [u]) L.S hr.hd e0 rfl (.cons r .nil) cells ns kp
      refine PySem.W.kla_codeExpr (wpAny_mono ((hb A X.stack z G (hr.deeper _)).run [] _ _ G Q J h) ?_ fun e z' hq => hq)
      rintro y z' ⟨w, G', J', rw', q⟩
      exact ⟨w, G', J'.os, J'.bare, J'.base, J'.hok, rw', q⟩
  refine wpAny_call (codeAny_mono run ?_)
  intro r z' hq
  cases r with
  | error e => exact (show False from hq).elim
  | ok fl =>
    cases fl with
    | ret y => exact I.after hq
    | next => exact (show False from hq).elim
    | brk => exact (show False from hq).elim
    | cont => exact (show False from hq).elim
theorem lam_pin {T : List (Addr × Str)} (I : Inv X pl σ G z) (hf : z.heap.get? f = some (lamO X params body scope pm c' ctv)) (n : G f = none) (nf : f ∉ frs X.stack) : Inv X ((f, lamO X params body scope pm c' ctv) :: pl) σ G z := by
  have nl : f ≠ X.env.locals := by
    intro e
    obtain ⟨m, ⟨o, es, ep, ho, hd, _⟩, _⟩ := I.loc
    rw [← e, hf] at ho
    cases ho
    cases hd
  have nfs : f ∉ X.fs := by
    intro h
    refine nf ?_
    rcases I.ok.stk with e | ⟨e, _⟩
    · rw [e]
      exact h
    · rw [e]
      unfold frs
      rw [List.filterMap_cons]
      cases X.env.frame with
      | none => exact h
      | some b => exact List.mem_cons_of_mem _ h
  refine I.pins_of ?_
  intro p hp
  rcases List.mem_cons.mp hp with e | hp
  · rw [e]
    exact ⟨hf, n, nl, nfs, fun v h => by cases h⟩
  · exact I.pin p (List.mem_append_right _ hp)
theorem lam_asks {xs : List V} {kz : List Int} {W : Hp → Prop} (ok : X.Ok) (L : LamK X N fr x js params body scope) (fa : A.frames = some X.stack) (hr : Room (k + 1) A)
    (hb : ∀ (A : Around) (outer : List Env) (z : Shared) (G : Hp), Room k (A.deeper (envF (lamN X params scope c') f z.heap.objs.size)) → PE (lamX X N params scope f c' A outer z G) body tb)
    (hW : ∀ G, W G → G c' = some (CodeO c' (X.env.qual ++ "<lambda>"))) (h : ∀ (i : Nat) (y : V) (n : Int) (G : Hp), xs[i]? = some y → kz[i]? = some n → W G → tb (startF N [y] (js.map (slotAt σ))) G fun v G' => v = .int n ∧ W G') (hk : ∀ p ∈ [(f, lamO X params body scope pm c' ctv)], p ∈ pl) :
    AsksV X σ W A (.ref f) xs kz pl := by
  intro i y v n pl' z ey rv en hp J
  obtain ⟨G, I, w⟩ := id J
  have hf : z.heap.get? f = some (lamO X params body scope pm c' ctv) := J.at (hp _ (hk _ List.mem_cons_self))
  refine wpAny_mono (lam_call I L hf (hW G w) fa hr hb rv (h i y n G ey en w)) ?_ fun _ _ q => q
  rintro r z' ⟨u, G', I', ru, rfl, w'⟩
  obtain ⟨t, e⟩ := ru
  exact ⟨t, e, G', I', w'⟩
/-! ### the rules -/
/-- xs sorted by the keys kz, the greatest first (equal ones in their order) -/
def SortBy (b : Bool) (kz : List Int) (xs ys : List V) : Prop := ∃ qs : List (Int × V), qs.Perm (kz.zip xs) ∧ ys = qs.map Prod.snd ∧ qs.Pairwise (fun p q => if b then q.1 ≤ p.1 else p.1 ≤ q.1) ∧ ∀ c, qs.filter (fun p => p.1 == c) = (kz.zip xs).filter (fun p => p.1 == c)
theorem sortBy_of {b : Bool} {kz : List Int} {xs : List V} {vs out : List Value} (rv : Vals xs vs) (hx : ∀ y ∈ xs, ∃ t, y = V.ref t) (h : KskOutSt b kz vs out) : SortBy b kz xs (out.map backV) ∧ Vals (out.map backV) out ∧ ((out.map backV).length ≤ xs.length) := by
  obtain ⟨e1, e2⟩ := refs_back rv hx
  obtain ⟨ps, pm, rfl, pw, ft⟩ := h
  have ez : (kz.zip vs).map (fun p : Int × Value => (p.1, backV p.2)) = kz.zip xs := by
    rw [e1, List.zip_map_right]
    rfl
  have mem : ∀ u ∈ ps.map Prod.snd, u ∈ vs := by
    intro u hu
    obtain ⟨p, hp, rfl⟩ := List.mem_map.mp hu
    exact (List.of_mem_zip (pm.mem_iff.mp hp)).2
  refine ⟨⟨ps.map fun p => (p.1, backV p.2), ?_, ?_, ?_, ?_⟩, vals_back fun u hu => e2 u (mem u hu), ?_⟩
  · rw [← ez]
    exact pm.map _
  · rw [List.map_map, List.map_map]
    rfl
  · rw [List.pairwise_map]
    exact pw
  · intro c
    rw [← ez, List.filter_map, List.filter_map]
    exact congrArg _ (ft c)
  · rw [List.length_map, List.length_map, pm.length_eq, List.length_zip, e1, List.length_map]
    exact Nat.min_le_right _ _
def kSortK (T : List (Addr × Str)) (K : PySem.W.Frag) (q : Str) (N : List Str) (js : List Nat) (b : Bool) (tb : TE) (σ : L2.St) (Q : VK) : VK := fun y G1 => ∃ (a : Addr) (xs : List V), y = .ref a ∧ SqL K G1 a xs ∧ (∀ y ∈ xs, ∃ t, y = V.ref t) ∧ Tabs T G1 ∧
  ∀ (G2 : Hp) (c' : Addr), ExtN G1 G2 → Tabs T G2 → G2 c' = some (CodeO c' q) → ∃ (kz : List Int) (W : Hp → Prop), kz.length = xs.length ∧ W G2 ∧ (∀ G, W G → G c' = some (CodeO c' q)) ∧
    (∀ (i : Nat) (y : V) (n : Int) (G : Hp), xs[i]? = some y → kz[i]? = some n → W G → tb (startF N [y] (js.map (slotAt σ))) G fun v G' => v = .int n ∧ W G') ∧
    ∀ (G3 : Hp) (D : Addr) (ys : List V), W G3 → G3 D = none → SortBy b kz xs ys → Q (.ref D) (upd G3 D (.lst ys))
def tSortK (T : List (Addr × Str)) (K : PySem.W.Frag) (q : Str) (N : List Str) (js : List Nat) (b : Bool) (ta tb : TE) : TE := fun σ G Q => ta σ G (kSortK T K q N js b tb σ Q)
def kMaxK (T : List (Addr × Str)) (K : PySem.W.Frag) (q : Str) (N : List Str) (js : List Nat) (tb : TE) (σ : L2.St) (Q : VK) : VK := fun y G1 => ∃ (a : Addr) (xs : List V), y = .ref a ∧ SqL K G1 a xs ∧ 0 < xs.length ∧ Tabs T G1 ∧
  ∀ (G2 : Hp) (c' : Addr), ExtN G1 G2 → Tabs T G2 → G2 c' = some (CodeO c' q) → ∃ (kz : List Int) (W : Hp → Prop), kz.length = xs.length ∧ W G2 ∧ (∀ G, W G → G c' = some (CodeO c' q) ∧ SqL K G a xs) ∧
    (∀ (i : Nat) (y : V) (n : Int) (G : Hp), xs[i]? = some y → kz[i]? = some n → W G → tb (startF N [y] (js.map (slotAt σ))) G fun v G' => v = .int n ∧ W G') ∧
    ∀ (G3 : Hp) (i : Nat) (y : V), W G3 → xs[i]? = some y → Best kz xs.length i → Q y G3
def tMaxK (T : List (Addr × Str)) (K : PySem.W.Frag) (q : Str) (N : List Str) (js : List Nat) (ta tb : TE) : TE := fun σ G Q => ta σ G (kMaxK T K q N js tb σ Q)
variable {T : List (Addr × Str)} {c P : Addr} {p0 p1 p2 p3 lpos kp1 kp2 : Pos} {e : Expr} {ta : TE} {j0 : Nat}
theorem ext_sql {K : PySem.W.Frag} {G G' : Hp} {a : Addr} {xs : List V} (e : ExtN G G') (h : SqL K G a xs) : SqL K G' a xs := by
  rcases h with (h | ⟨o, h⟩) | h
  · exact .inl (.inl (e _ _ h fun _ t => nomatch t))
  · exact .inl (.inr ⟨o, e _ _ h fun _ t => nomatch t⟩)
  · exact .inr h
/-- sorted(e, key=lambda x: body, reverse=True) -/
theorem pe_sortK {t1 : Nat} (ha : PE X e ta) (gs : Gl X "sorted") (ms : X.mg "sorted" = none) (TB : TabB X.base X.mg c P) (hcode : X.env.code = .ref c) (hm : (P, X.env.qual ++ "<lambda>") ∈ T) (hu : ∀ p ∈ T, p.1 = P → p.2 = X.env.qual ++ "<lambda>")
    (L : LamK X N fr x js params body scope) (hr : Room (k + 3) X.A)
    (hb : ∀ (f c' : Addr) (A : Around) (outer : List Env) (z : Shared) (G : Hp), Room k (A.deeper (envF (lamN X params scope c') f z.heap.objs.size)) → PE (lamX X N params scope f c' A outer z G) body tb) (st : starEach [e] X.env = [(false, eval e X.env)] := by rfl) :
    PE X (.Call (.Name "sorted" p0) [e] [⟨some "key", .Lambda params body scope lpos, kp1⟩, ⟨some "reverse", .Constant (.bool true) t1 p2, kp2⟩] p3) (tSortK T X.K (X.env.qual ++ "<lambda>") N js true ta tb) := by
  constructor
  intro pins z σ G Q I h
  refine wpAny_Call_Name_kw (ld_blt I gs ms PyProof.Rows.boot_sorted ?_)
  refine PyProof.Rows.callWith_kw (thn ((pa_cons ha pa_nil (hs := st)).run p3 pins z σ G (fun vs G1 => match vs with | [y] => kSortK T X.K (X.env.qual ++ "<lambda>") N js true tb σ Q y G1 | _ => False) I h) fun us z1 w1 => ?_) (by rw [st]; rfl) (by rw [st]; rfl)
  obtain ⟨vs, G1, I1, r1, q1⟩ := w1
  match vs, r1, q1 with
  | [y], r1, q1 =>
    obtain ⟨u, rfl, ru⟩ := vals1 r1
    obtain ⟨a, xs, rfl, sq, refs, tabs, q1⟩ := q1
    cases (show u = Value.ref a from ru)
    refine wpAny_evalAll_cons (wpAny_bind (lam_make2 I1 TB hcode hm hu tabs L.dflt (fun y hy ey => (L.free y hy ey).elim (fun t => I1.ok.has _ (.inl t)) fun t => I1.ok.has _ (.inr t)) fun f c' pm ctv G2 z2 I2 eN T2 hf hfn hfr hco => wpAny_bind (wpAny_standAt (wpAny_pure ?_))))
    have I3 := lam_pin (T := T) I2 hf hfn hfr
    refine thn ((pk_cons (nm := some "reverse") (kpos := kp2) (pe_bl (j := t1) (pos := p2)) pk_nil).run p3 _ z2 σ G2 (fun vs G3 => vs = [V.bl true] ∧ G3 = G2) I3 ⟨rfl, rfl⟩) ?_
    rintro ws z3 ⟨vs3, G3, I4, r3, rfl, rfl⟩
    obtain ⟨w1, rfl, rw1⟩ := vals1 r3
    cases (show w1 = Value.bool true from rw1)
    obtain ⟨kz, W, kl, w0, wc, wb, fin⟩ := q1 G3 c' eN T2 hco
    obtain ⟨its, rv, il, hz⟩ := I4.list (ext_sql eN sq)
    have room1 : Room (k + 1) X.A.in1.in1 := hr.in1.in1
    have asks := lam_asks (xs := xs) (kz := kz) (W := W) (σ := σ) (pl := (f, lamO X params body scope pm c' ctv) :: pins) (f := f) (c' := c') (pm := pm) (ctv := ctv) I.ok L (show X.A.in1.in1.frames = some X.stack from I.ok.frames) room1 (hb f c') wc wb fun p hp => by
      rw [List.mem_singleton.mp hp]
      exact List.mem_cons_self
    refine srt_sorted (b := true) (kz := kz) (vs := its) (W := W) (σ := σ) ⟨G3, I4, w0⟩ il.isList (by rw [kl, rv.length]) (by rw [← rv.length]; exact hz) (ksk_s2 _ _ _) (fun _ => ksk_l2 _ _ _) (fun _ => ksk_t2 _ _ _) (asks.of rv) ?_
    intro D z' out cc J' mD npl ko
    obtain ⟨G5, I5, w5⟩ := J'
    obtain ⟨s1, s2, s3⟩ := sortBy_of rv refs ko
    have nD : G5 D = none := (I5.pin _ (List.mem_append_right _ List.mem_cons_self)).2.1
    have atD : z'.heap.get? D = some (seqObj "list" out cc) := (I5.pin _ (List.mem_append_right _ List.mem_cons_self)).1
    have I6 := adopt (u := .lst (out.toList.map backV)) I5 mD npl ⟨Nat.le_trans s3 hz, out.toList, cc, s2, atD⟩
    exact ⟨.ref D, _, pin_sub I6 fun p hp => List.mem_cons_of_mem _ hp, rfl, fin G5 D _ w5 nD s1⟩
/-- max(e, key=lambda x: body) -/
theorem pe_maxK (ha : PE X e ta) (calm : X.calm = true) (gs : Gl X "max") (ms : X.mg "max" = none) (TB : TabB X.base X.mg c P) (hcode : X.env.code = .ref c) (hm : (P, X.env.qual ++ "<lambda>") ∈ T) (hu : ∀ p ∈ T, p.1 = P → p.2 = X.env.qual ++ "<lambda>")
    (L : LamK X N fr x js params body scope) (hr : Room (k + 2) X.A)
    (hb : ∀ (f c' : Addr) (A : Around) (outer : List Env) (z : Shared) (G : Hp), Room k (A.deeper (envF (lamN X params scope c') f z.heap.objs.size)) → PE (lamX X N params scope f c' A outer z G) body tb) (st : starEach [e] X.env = [(false, eval e X.env)] := by rfl) :
    PE X (.Call (.Name "max" p0) [e] [⟨some "key", .Lambda params body scope lpos, kp1⟩] p3) (tMaxK T X.K (X.env.qual ++ "<lambda>") N js ta tb) := by
  constructor
  intro pins z σ G Q I h
  refine wpAny_Call_Name_kw (ld_blt I gs ms PyProof.Rows.boot_max ?_)
  refine PyProof.Rows.callWith_kw (thn ((pa_cons ha pa_nil (hs := st)).run p3 pins z σ G (fun vs G1 => match vs with | [y] => kMaxK T X.K (X.env.qual ++ "<lambda>") N js tb σ Q y G1 | _ => False) I h) fun us z1 w1 => ?_) (by rw [st]; rfl) (by rw [st]; rfl)
  obtain ⟨vs, G1, I1, r1, q1⟩ := w1
  match vs, r1, q1 with
  | [y], r1, q1 =>
    obtain ⟨u, rfl, ru⟩ := vals1 r1
    obtain ⟨a, xs, rfl, sq, ne, tabs, q1⟩ := q1
    cases (show u = Value.ref a from ru)
    refine wpAny_evalAll_cons (wpAny_bind (lam_make2 I1 TB hcode hm hu tabs L.dflt (fun y hy ey => (L.free y hy ey).elim (fun t => I1.ok.has _ (.inl t)) fun t => I1.ok.has _ (.inr t)) fun f c' pm ctv G2 z2 I2 eN T2 hf hfn hfr hco => wpAny_bind (wpAny_standAt (wpAny_pure ?_))))
    have I3 := lam_pin (T := T) I2 hf hfn hfr
    refine wpAny_evalAll_nil ?_
    obtain ⟨kz, W, kl, w0, wc, wb, fin⟩ := q1 G2 c' eN T2 hco
    have room1 : Room (k + 1) X.A.in1 := hr.in1
    have asks := lam_asks (xs := xs) (kz := kz) (W := W) (σ := σ) (pl := (f, lamO X params body scope pm c' ctv) :: pins) (f := f) (c' := c') (pm := pm) (ctv := ctv) I.ok L (show X.A.in1.frames = some X.stack from I.ok.frames) room1 (hb f c') (fun G w => (wc G w).1) wb fun p hp => by
      rw [List.mem_singleton.mp hp]
      exact List.mem_cons_self
    refine max_key (l := a) (xs := xs) (kz := kz) (W := W) (σ := σ) (I.ok.hd calm) ⟨G2, I3, w0⟩ (fun z' J' => ?_) kl ne asks ?_
    · obtain ⟨G', I', w'⟩ := J'
      obtain ⟨its, rv, il, _⟩ := I'.list (wc G' w').2
      exact ⟨its, rv, il.isList⟩
    · intro i y v z' ey ry best J'
      obtain ⟨G5, I5, w5⟩ := J'
      exact ⟨y, G5, pin_sub I5 fun p hp => List.mem_cons_of_mem _ hp, ry, fin G5 i y w5 ey best⟩
end
end PD

/-! Phrasedesk: the fewest rounds, as mathematics -/
namespace PD
/-! ### rows that put all anew -/
structure Good (fr : List Int) (ps : List Pr) (h : Nat) (rows : List (List Pr)) : Prop where
  size : ∀ row ∈ rows, 1 ≤ row.length ∧ row.length ≤ h
  nd : rows.flatten.Nodup
  mem : ∀ q, q ∈ rows.flatten ↔ q ∈ ps
  ord : ∀ (i j : Nat) (q : Pr) (row row' : List Pr), rows[i]? = some row → q ∈ row → rows[j]? = some row' → upQ fr q ∈ row' → j < i
def numd (n : Nat) : List (List Pr) → Wh
  | [] => []
  | row :: rows => (row.map fun q => (q, n)) ++ numd (n + 1) rows
theorem numd_keys : ∀ (rows : List (List Pr)) (n : Nat), (numd n rows).map (·.1) = rows.flatten
  | [], n => rfl
  | row :: rows, n => by
    unfold numd
    rw [List.map_append, List.map_map, numd_keys rows (n + 1), List.flatten_cons]
    congr 1
    induction row with
    | nil => rfl
    | cons q r ih => rw [List.map_cons, ih]; rfl
theorem wRow_of {ps : List Pr} {n : Nat} : ∀ {row : List Pr} {acc : Wh}, (∀ q ∈ row, q ∈ ps) → row.Nodup → (∀ q ∈ row, q ∉ acc.map (·.1)) → wRow ps n row acc = some (acc ++ row.map fun q => (q, n))
  | [], acc, _, _, _ => by simp [wRow]
  | q :: r, acc, h1, h2, h3 => by
    obtain ⟨n1, n2⟩ := List.nodup_cons.mp h2
    have st : wStep ps n acc q = some (acc ++ [(q, n)]) := by
      unfold wStep
      rw [if_pos ⟨h1 q List.mem_cons_self, lookup_none.mpr (h3 q List.mem_cons_self)⟩]
    have ih := wRow_of (row := r) (acc := acc ++ [(q, n)]) (n := n) (fun p hp => h1 p (List.mem_cons_of_mem _ hp)) n2 fun p hp => by
      rw [List.map_append, List.mem_append]
      rintro (z | z)
      · exact h3 p (List.mem_cons_of_mem _ hp) z
      · have e : p = q := by simpa using z
        exact n1 (e ▸ hp)
    show (wStep ps n acc q).bind (wRow ps n r) = _
    rw [st]
    show wRow ps n r (acc ++ [(q, n)]) = _
    rw [ih]
    simp
theorem wAll_of {ps : List Pr} {h : Int} : ∀ {rows : List (List Pr)} {n : Nat} {acc : Wh}, (∀ row ∈ rows, sizeOk h row = true) → (∀ q ∈ rows.flatten, q ∈ ps) → rows.flatten.Nodup → (∀ q ∈ rows.flatten, q ∉ acc.map (·.1)) → wAll ps h n rows acc = some (acc ++ numd n rows)
  | [], n, acc, _, _, _, _ => by simp [wAll, numd]
  | row :: rows, n, acc, h0, h1, h2, h3 => by
    rw [List.flatten_cons] at h1 h2 h3
    obtain ⟨d1, d2, d3⟩ := List.nodup_append.mp h2
    have r := wRow_of (ps := ps) (n := n) (row := row) (acc := acc) (fun q hq => h1 q (List.mem_append_left _ hq)) d1 fun q hq => h3 q (List.mem_append_left _ hq)
    have ih := wAll_of (ps := ps) (h := h) (rows := rows) (n := n + 1) (acc := acc ++ row.map fun q => (q, n)) (fun x hx => h0 x (List.mem_cons_of_mem _ hx)) (fun q hq => h1 q (List.mem_append_right _ hq)) d2 fun q hq => by
      rw [List.map_append, List.mem_append]
      rintro (z | z)
      · exact h3 q (List.mem_append_right _ hq) z
      · rw [List.map_map] at z
        obtain ⟨p, hp, e⟩ := List.mem_map.mp z
        have e2 : p = q := e
        exact d3 p hp q hq e2
    unfold wAll
    rw [if_pos (h0 row List.mem_cons_self), r]
    show wAll ps h (n + 1) rows (acc ++ row.map fun q => (q, n)) = _
    rw [ih]
    simp [numd]
theorem mem_look {α : Type} {q : Pr} {x : α} : ∀ {l : List (Pr × α)}, l.lookup q = some x → (q, x) ∈ l
  | [], e => by cases e
  | (p, y) :: l, e => by
    by_cases h : q = p
    · subst h
      have e2 : some y = some x := by simpa [List.lookup] using e
      rw [Option.some.inj e2]
      exact List.mem_cons_self
    · have hb : (q == p) = false := beq_eq_false_iff_ne.mpr h
      have e2 : l.lookup q = some x := by simpa [List.lookup, hb] using e
      exact List.mem_cons_of_mem _ (mem_look e2)
theorem numd_at : ∀ {rows : List (List Pr)} {n i : Nat} {q : Pr}, (numd n rows).lookup q = some i → ∃ j row, i = n + j ∧ rows[j]? = some row ∧ q ∈ row
  | [], n, i, q, e => by simp [numd] at e
  | row :: rows, n, i, q, e => by
    unfold numd at e
    rw [List.lookup_append] at e
    cases z : (row.map fun p => (p, n)).lookup q with
    | some m =>
      rw [z] at e
      have e1 : m = i := by simpa using e
      have m1 := List.mem_map.mp (mem_look z)
      obtain ⟨p, hp, e2⟩ := m1
      have e3 : p = q := congrArg Prod.fst e2
      have e4 : n = m := congrArg Prod.snd e2
      exact ⟨0, row, by omega, rfl, e3 ▸ hp⟩
    | none =>
      rw [z] at e
      obtain ⟨j, r, a, b, c⟩ := numd_at (rows := rows) (n := n + 1) (by simpa using e)
      exact ⟨j + 1, r, by omega, b, c⟩
theorem Good.areR {fr : List Int} {ps : List Pr} {h : Nat} {rows : List (List Pr)} (g : Good fr ps h rows) : areR fr ps (h : Int) rows = true := by
  have so : ∀ row ∈ rows, sizeOk (h : Int) row = true := by
    intro row hr
    obtain ⟨a, b⟩ := g.size row hr
    unfold sizeOk
    rw [decide_eq_true (by omega), decide_eq_true (by omega)]
    rfl
  have w := wAll_of (ps := ps) (h := (h : Int)) (rows := rows) (n := 0) (acc := []) so (fun q hq => (g.mem q).mp hq) g.nd fun q _ => by simp
  unfold PD.areR
  rw [w, List.nil_append]
  show ((ps.all fun q => ((numd 0 rows).lookup q).isSome) && ps.all (behind fr (numd 0 rows))) = true
  rw [Bool.and_eq_true, List.all_eq_true, List.all_eq_true]
  constructor
  · intro q hq
    rw [isSome_mem, numd_keys]
    exact (g.mem q).mpr hq
  · intro q hq
    unfold behind
    cases e1 : (numd 0 rows).lookup (upQ fr q) with
    | none => rfl
    | some a =>
      cases e2 : (numd 0 rows).lookup q with
      | none => rfl
      | some b =>
        obtain ⟨j, r1, rfl, f1, m1⟩ := numd_at e1
        obtain ⟨i, r2, rfl, f2, m2⟩ := numd_at e2
        have := g.ord i j q r2 r1 f2 m2 f1 m1
        exact decide_eq_true (by omega)
/-! ### no fewer do -/
theorem mem_row {rows : List (List Pr)} {q : Pr} (h : q ∈ rows.flatten) : ∃ (i : Nat) (row : List Pr), rows[i]? = some row ∧ q ∈ row := by
  obtain ⟨row, hr, hq⟩ := List.mem_flatten.mp h
  obtain ⟨i, hi, e⟩ := List.mem_iff_getElem.mp hr
  exact ⟨i, row, by rw [List.getElem?_eq_getElem hi, e], hq⟩
theorem Good.deep {fr : List Int} {ps : List Pr} {h : Nat} {rows : List (List Pr)} (fo : FrOk fr) (oo : OldOk fr ps) (g : Good fr ps h rows) : ∀ (i : Nat) (q : Pr) (row : List Pr), rows[i]? = some row → q ∈ row → dep fr ps q ≤ i := by
  intro i
  induction i using Nat.strongRecOn with
  | _ i ih =>
    intro q row e hq
    have qp : q ∈ ps := (g.mem q).mp (List.mem_flatten.mpr ⟨row, List.mem_of_getElem? e, hq⟩)
    obtain ⟨_, _, q1, q2⟩ := oo.each q qp
    rw [dep_step fo oo q1 q2]
    by_cases hu : upQ fr q ∈ ps
    · rw [if_pos hu]
      obtain ⟨j, row', f, m⟩ := mem_row ((g.mem _).mpr hu)
      have lt := g.ord i j q row row' e hq f m
      have := ih j lt _ _ f m
      omega
    · rw [if_neg hu]
      exact Nat.zero_le _
theorem flat_le {h : Nat} : ∀ {rows : List (List Pr)}, (∀ row ∈ rows, row.length ≤ h) → rows.flatten.length ≤ h * rows.length
  | [], _ => by simp
  | row :: rows, s => by
    have a := s row List.mem_cons_self
    have b := flat_le (rows := rows) fun r hr => s r (List.mem_cons_of_mem _ hr)
    rw [List.flatten_cons, List.length_append, List.length_cons, Nat.mul_succ]
    omega
abbrev cnt (fr : List Int) (ps l : List Pr) (d : Nat) : Nat := (l.filter fun q => decide (d ≤ dep fr ps q)).length
theorem Good.cnt_le {fr : List Int} {ps : List Pr} {h : Nat} {rows : List (List Pr)} (fo : FrOk fr) (oo : OldOk fr ps) (g : Good fr ps h rows) (d : Nat) : cnt fr ps ps d ≤ h * (rows.length - d) := by
  have sub : ∀ q ∈ ps.filter (fun q => decide (d ≤ dep fr ps q)), q ∈ (rows.drop d).flatten := by
    intro q hq
    obtain ⟨h1, h2⟩ := List.mem_filter.mp hq
    have h2 : d ≤ dep fr ps q := of_decide_eq_true h2
    obtain ⟨i, row, e, m⟩ := mem_row ((g.mem q).mpr h1)
    have := g.deep fo oo i q row e m
    refine List.mem_flatten.mpr ⟨row, ?_, m⟩
    refine List.mem_of_getElem? (i := i - d) ?_
    rw [List.getElem?_drop, show d + (i - d) = i by omega]
    exact e
  have l1 := sub_len (oo.nd.filter _) sub
  have l2 := flat_le (h := h) (rows := rows.drop d) fun row hr => (g.size row (List.mem_of_mem_drop hr)).2
  rw [List.length_drop] at l2
  exact Nat.le_trans l1 l2
theorem deepC_cnt {fr : List Int} {ps : List Pr} (d : Nat) : deepC fr ps (d : Int) = cnt fr ps ps d := by
  unfold deepC cnt
  congr 2
  funext q
  exact decide_eq_decide.mpr ⟨fun h => by omega, fun h => by omega⟩
theorem need_nat {fr : List Int} {ps : List Pr} {h : Nat} (d : Nat) : need fr ps (h : Int) (d : Int) = if cnt fr ps ps d = 0 then 0 else ((d + (cnt fr ps ps d + h - 1) / h : Nat) : Int) := by
  unfold need
  rw [deepC_cnt]
  by_cases c : cnt fr ps ps d = 0
  · rw [if_pos c, if_pos c]
  · rw [if_neg c, if_neg c]
    have e : ((cnt fr ps ps d : Int) + (h : Int) - 1) = ((cnt fr ps ps d + h - 1 : Nat) : Int) := by omega
    rw [e, Int.fdiv_eq_ediv_of_nonneg _ (by omega)]
    omega
/-- by a number of rounds that fits, for every depth -/
def Fit (fr : List Int) (ps : List Pr) (h : Nat) (l : List Pr) (M : Nat) : Prop := ∀ d, cnt fr ps l d ≤ h * (M - d)
theorem ceil_le {c h m : Nat} (hh : 1 ≤ h) (hc : 1 ≤ c) : (c + h - 1) / h ≤ m ↔ c ≤ h * m := by
  have e : c + h - 1 = (c - 1) + h * 1 := by omega
  rw [e, Nat.add_mul_div_left _ _ (by omega)]
  constructor
  · intro z
    have l := Nat.lt_mul_div_succ (c - 1) (show 0 < h by omega)
    have : h * ((c - 1) / h + 1) ≤ h * m := Nat.mul_le_mul_left _ z
    omega
  · intro z
    have : (c - 1) / h < m := by
      rw [Nat.div_lt_iff_lt_mul (by omega), Nat.mul_comm]
      omega
    omega
theorem dep_lt {fr : List Int} {ps : List Pr} (fo : FrOk fr) (oo : OldOk fr ps) : ∀ (n : Nat) (q : Pr), q.2.toNat ≤ n → 1 ≤ q.2 → q.2 ≤ (fr.length : Int) → dep fr ps q < q.2.toNat := by
  intro n
  induction n with
  | zero =>
    intro q h1 h2 h3
    omega
  | succ n ih =>
    intro q h1 h2 h3
    rw [dep_step fo oo h2 h3]
    by_cases hu : upQ fr q ∈ ps
    · rw [if_pos hu]
      obtain ⟨_, _, u1, u2⟩ := oo.each _ hu
      have lt := upQ_lt fo h2 h3
      have := ih _ (by omega) u1 u2
      omega
    · rw [if_neg hu]
      omega
theorem cnt_far {fr : List Int} {ps : List Pr} (fo : FrOk fr) (oo : OldOk fr ps) {d : Nat} (h : fr.length ≤ d) : cnt fr ps ps d = 0 := by
  unfold cnt
  rw [List.length_eq_zero_iff, List.filter_eq_nil_iff]
  intro q hq z
  have z : d ≤ dep fr ps q := of_decide_eq_true z
  obtain ⟨_, _, q1, q2⟩ := oo.each q hq
  have := dep_lt fo oo _ q (Nat.le_refl _) q1 q2
  omega
/-! ### the deepest ones last -/
def lastRow (fr : List Int) (h : Nat) (l : List Pr) : List Pr := (l.filter fun q => decide (q ∉ l.map (upQ fr))).take h
def lessRow (l r : List Pr) : List Pr := l.filter fun q => decide (q ∉ r)
def rowsB (fr : List Int) (h : Nat) : Nat → List Pr → List (List Pr)
  | 0, _ => []
  | n + 1, l => if l = [] then [] else lastRow fr h l :: rowsB fr h n (lessRow l (lastRow fr h l))
/-- what is left: old ones with all above them, the deepest first -/
structure Left (fr : List Int) (ps l : List Pr) : Prop where
  nd : l.Nodup
  sub : ∀ q ∈ l, q ∈ ps
  up : ∀ q ∈ l, upQ fr q ∈ ps → upQ fr q ∈ l
  desc : l.Pairwise fun p q => dep fr ps q ≤ dep fr ps p
section
variable {fr : List Int} {ps l : List Pr} {h : Nat}
theorem lastRow_sub {q : Pr} (m : q ∈ lastRow fr h l) : q ∈ l ∧ q ∉ l.map (upQ fr) := by
  obtain ⟨a, b⟩ := List.mem_filter.mp (List.mem_of_mem_take m)
  exact ⟨a, of_decide_eq_true b⟩
theorem Left.less (L : Left fr ps l) : Left fr ps (lessRow l (lastRow fr h l)) := by
  refine ⟨L.nd.filter _, fun q hq => L.sub q (List.mem_filter.mp hq).1, fun q hq hu => ?_, L.desc.filter _⟩
  have m := (List.mem_filter.mp hq).1
  refine List.mem_filter.mpr ⟨L.up q m hu, decide_eq_true fun z => ?_⟩
  exact (lastRow_sub z).2 (List.mem_map.mpr ⟨q, m, rfl⟩)
theorem Left.child (fo : FrOk fr) (oo : OldOk fr ps) (L : Left fr ps l) {c q : Pr} (hc : c ∈ l) (e : upQ fr c = q) (hq : q ∈ l) : dep fr ps c = dep fr ps q + 1 := by
  obtain ⟨_, _, c1, c2⟩ := oo.each c (L.sub c hc)
  rw [dep_step fo oo c1 c2, if_pos (by rw [e]; exact L.sub q hq), e]
theorem Left.some_row (fo : FrOk fr) (oo : OldOk fr ps) (L : Left fr ps l) (hh : 1 ≤ h) (ne : l ≠ []) : lastRow fr h l ≠ [] := by
  cases l with
  | nil => exact absurd rfl ne
  | cons q r =>
    have leaf : q ∉ (q :: r).map (upQ fr) := by
      intro z
      obtain ⟨c, hc, e⟩ := List.mem_map.mp z
      have d := L.child fo oo hc e List.mem_cons_self
      rcases List.mem_cons.mp hc with w | w
      · rw [w] at d
        omega
      · have := (List.pairwise_cons.mp L.desc).1 c w
        omega
    obtain ⟨k, rfl⟩ : ∃ k, h = k + 1 := ⟨h - 1, by omega⟩
    unfold lastRow
    rw [List.filter_cons_of_pos (p := fun p => decide (p ∉ (q :: r).map (upQ fr))) (decide_eq_true leaf)]
    simp
theorem filter_take {d : Nat} : ∀ {l : List Pr}, (l.Pairwise fun p q => dep fr ps q ≤ dep fr ps p) → l.filter (fun q => decide (d ≤ dep fr ps q)) = l.take (cnt fr ps l d)
  | [], _ => by simp
  | q :: r, pw => by
    obtain ⟨a, b⟩ := List.pairwise_cons.mp pw
    by_cases c : d ≤ dep fr ps q
    · have e : (q :: r).filter (fun q => decide (d ≤ dep fr ps q)) = q :: r.filter (fun q => decide (d ≤ dep fr ps q)) := List.filter_cons_of_pos (p := fun q => decide (d ≤ dep fr ps q)) (decide_eq_true c)
      unfold cnt
      rw [e, List.length_cons, List.take_succ_cons]
      exact congrArg (List.cons q) (filter_take b)
    · have e : (q :: r).filter (fun q => decide (d ≤ dep fr ps q)) = [] := by
        rw [List.filter_eq_nil_iff]
        intro p hp z
        have z : d ≤ dep fr ps p := of_decide_eq_true z
        rcases List.mem_cons.mp hp with w | w
        · rw [w] at z
          exact c z
        · have := a p w
          omega
      unfold cnt
      rw [e]
      simp
theorem Left.fit (fo : FrOk fr) (oo : OldOk fr ps) (L : Left fr ps l) (hh : 1 ≤ h) {M : Nat} (f : Fit fr ps h l (M + 1)) : Fit fr ps h (lessRow l (lastRow fr h l)) M := by
  intro d
  have lv := L.desc.filter fun q => decide (q ∉ l.map (upQ fr))
  have ft := filter_take (fr := fr) (ps := ps) (d := d) lv
  by_cases c : h ≤ cnt fr ps (l.filter fun q => decide (q ∉ l.map (upQ fr))) d
  · -- the row is full, of that depth or more
    have deep : ∀ q ∈ lastRow fr h l, d ≤ dep fr ps q := by
      intro q hq
      have m : q ∈ (l.filter fun q => decide (q ∉ l.map (upQ fr))).take (cnt fr ps (l.filter fun q => decide (q ∉ l.map (upQ fr))) d) := by
        unfold lastRow at hq
        have e : ((l.filter fun q => decide (q ∉ l.map (upQ fr))).take (cnt fr ps (l.filter fun q => decide (q ∉ l.map (upQ fr))) d)).take h = (l.filter fun q => decide (q ∉ l.map (upQ fr))).take h := by
          rw [List.take_take, Nat.min_eq_left c]
        rw [← e] at hq
        exact List.mem_of_mem_take hq
      rw [← ft] at m
      exact of_decide_eq_true (List.mem_filter.mp m).2
    have len : (lastRow fr h l).length = h := by
      unfold lastRow
      rw [List.length_take]
      have : cnt fr ps (l.filter fun q => decide (q ∉ l.map (upQ fr))) d ≤ (l.filter fun q => decide (q ∉ l.map (upQ fr))).length := List.length_filter_le _ _
      omega
    have rnd : (lastRow fr h l).Nodup := (L.nd.filter _).sublist (List.take_sublist _ _)
    have both : ((l.filter fun q => decide (d ≤ dep fr ps q)).filter fun q => decide (q ∉ lastRow fr h l)).length + (lastRow fr h l).length ≤ (l.filter fun q => decide (d ≤ dep fr ps q)).length := by
      rw [← List.length_append]
      refine sub_len ?_ ?_
      · rw [List.nodup_append]
        refine ⟨(L.nd.filter _).filter _, rnd, ?_⟩
        intro a ha b hb e
        exact of_decide_eq_true (List.mem_filter.mp ha).2 (e ▸ hb)
      · intro q hq
        rcases List.mem_append.mp hq with z | z
        · exact (List.mem_filter.mp z).1
        · exact List.mem_filter.mpr ⟨(lastRow_sub z).1, decide_eq_true (deep q z)⟩
    have sw : cnt fr ps (lessRow l (lastRow fr h l)) d = ((l.filter fun q => decide (d ≤ dep fr ps q)).filter fun q => decide (q ∉ lastRow fr h l)).length := by
      unfold cnt lessRow
      rw [List.filter_filter, List.filter_filter]
      congr 2
      funext q
      exact Bool.and_comm _ _
    have fd := f d
    unfold cnt at fd
    rw [sw]
    rw [len] at both
    rcases Nat.lt_or_ge d (M + 1) with z | z
    · have e : M + 1 - d = (M - d) + 1 := by omega
      rw [e, Nat.mul_succ] at fd
      omega
    · have e : M + 1 - d = 0 := by omega
      rw [e, Nat.mul_zero] at fd
      omega
  · -- all of that depth or more that none follows are in the row
    have inrow : ∀ q ∈ l, q ∉ l.map (upQ fr) → d ≤ dep fr ps q → q ∈ lastRow fr h l := by
      intro q h1 h2 h3
      have m : q ∈ (l.filter fun q => decide (q ∉ l.map (upQ fr))).filter fun q => decide (d ≤ dep fr ps q) := List.mem_filter.mpr ⟨List.mem_filter.mpr ⟨h1, decide_eq_true h2⟩, decide_eq_true h3⟩
      rw [ft] at m
      unfold lastRow
      have e : ((l.filter fun q => decide (q ∉ l.map (upQ fr))).take h).take (cnt fr ps (l.filter fun q => decide (q ∉ l.map (upQ fr))) d) = (l.filter fun q => decide (q ∉ l.map (upQ fr))).take (cnt fr ps (l.filter fun q => decide (q ∉ l.map (upQ fr))) d) := by
        rw [List.take_take, Nat.min_eq_left (by omega)]
      rw [← e] at m
      exact List.mem_of_mem_take m
    have sub : ∀ q ∈ (lessRow l (lastRow fr h l)).filter (fun q => decide (d ≤ dep fr ps q)), q ∈ (l.filter fun q => decide (d + 1 ≤ dep fr ps q)).map (upQ fr) := by
      intro q hq
      obtain ⟨m1, m2⟩ := List.mem_filter.mp hq
      obtain ⟨m3, m4⟩ := List.mem_filter.mp m1
      have m2 : d ≤ dep fr ps q := of_decide_eq_true m2
      have m4 : q ∉ lastRow fr h l := of_decide_eq_true m4
      by_cases lf : q ∈ l.map (upQ fr)
      · obtain ⟨x, hx, e⟩ := List.mem_map.mp lf
        have dx := L.child fo oo hx e m3
        exact List.mem_map.mpr ⟨x, List.mem_filter.mpr ⟨hx, decide_eq_true (by omega)⟩, e⟩
      · exact absurd (inrow q m3 lf m2) m4
    have l1 := sub_len ((L.nd.filter _).filter _) sub
    rw [List.length_map] at l1
    have fd := f (d + 1)
    rw [show M + 1 - (d + 1) = M - d by omega] at fd
    exact Nat.le_trans l1 fd
theorem less_lt (fo : FrOk fr) (oo : OldOk fr ps) (L : Left fr ps l) (hh : 1 ≤ h) (ne : l ≠ []) : (lessRow l (lastRow fr h l)).length < l.length := by
  obtain ⟨q, hq⟩ := List.exists_mem_of_ne_nil _ (L.some_row fo oo hh ne)
  have m := (lastRow_sub hq).1
  unfold lessRow
  rcases Nat.lt_or_ge (l.filter fun q => decide (q ∉ lastRow fr h l)).length l.length with z | z
  · exact z
  · have e : (l.filter fun q => decide (q ∉ lastRow fr h l)).length = l.length := Nat.le_antisymm (List.length_filter_le _ _) z
    have a := List.length_filter_eq_length_iff.mp e q m
    exact absurd hq (of_decide_eq_true a)
theorem rowsB_few (fo : FrOk fr) (oo : OldOk fr ps) (hh : 1 ≤ h) : ∀ (n : Nat) (l : List Pr) (M : Nat), l.length ≤ n → Left fr ps l → Fit fr ps h l M → (rowsB fr h n l).length ≤ M := by
  intro n
  induction n with
  | zero =>
    intro l M _ _ _
    exact Nat.zero_le _
  | succ n ih =>
    intro l M hl L f
    unfold rowsB
    by_cases e : l = []
    · rw [if_pos e]
      exact Nat.zero_le _
    · rw [if_neg e, List.length_cons]
      have f0 := f 0
      have all : cnt fr ps l 0 = l.length := by
        unfold cnt
        rw [List.length_filter_eq_length_iff]
        intro q _
        exact decide_eq_true (Nat.zero_le _)
      have pos : 0 < l.length := List.length_pos_iff.mpr e
      cases M with
      | zero =>
        rw [all, Nat.zero_sub, Nat.mul_zero] at f0
        omega
      | succ M =>
        have lt := less_lt fo oo L hh e
        have := ih (lessRow l (lastRow fr h l)) M (by omega) L.less (L.fit fo oo hh f)
        omega
/-- what the rows from the last back are -/
structure Back (fr : List Int) (h : Nat) (l : List Pr) (rs : List (List Pr)) : Prop where
  size : ∀ row ∈ rs, 1 ≤ row.length ∧ row.length ≤ h
  nd : rs.flatten.Nodup
  mem : ∀ q, q ∈ rs.flatten ↔ q ∈ l
  ord : ∀ (i j : Nat) (q : Pr) (row row' : List Pr), rs[i]? = some row → q ∈ row → rs[j]? = some row' → upQ fr q ∈ row' → i < j
theorem rowsB_back (fo : FrOk fr) (oo : OldOk fr ps) (hh : 1 ≤ h) : ∀ (n : Nat) (l : List Pr), l.length ≤ n → Left fr ps l → Back fr h l (rowsB fr h n l) := by
  have none : Back fr h [] [] := ⟨fun row hr => by simp at hr, by simp, fun q => by simp, fun i j q row row' e => by simp at e⟩
  intro n
  induction n with
  | zero =>
    intro l hl L
    have e : l = [] := List.length_eq_zero_iff.mp (by omega)
    subst e
    exact none
  | succ n ih =>
    intro l hl L
    unfold rowsB
    by_cases e : l = []
    · subst e
      rw [if_pos rfl]
      exact none
    · rw [if_neg e]
      have lt := less_lt fo oo L hh e
      have B := ih (lessRow l (lastRow fr h l)) (by omega) L.less
      have rnd : (lastRow fr h l).Nodup := (L.nd.filter _).sublist (List.take_sublist _ _)
      refine ⟨?_, ?_, ?_, ?_⟩
      · intro row hr
        rcases List.mem_cons.mp hr with z | z
        · rw [z]
          refine ⟨List.length_pos_iff.mpr (L.some_row fo oo hh e), ?_⟩
          unfold lastRow
          rw [List.length_take]
          exact Nat.min_le_left _ _
        · exact B.size row z
      · rw [List.flatten_cons, List.nodup_append]
        refine ⟨rnd, B.nd, ?_⟩
        intro a ha b hb eq
        have := (List.mem_filter.mp ((B.mem b).mp hb)).2
        exact of_decide_eq_true this (eq ▸ ha)
      · intro q
        rw [List.flatten_cons, List.mem_append, B.mem]
        constructor
        · rintro (z | z)
          · exact (lastRow_sub z).1
          · exact (List.mem_filter.mp z).1
        · intro z
          by_cases m : q ∈ lastRow fr h l
          · exact .inl m
          · exact .inr (List.mem_filter.mpr ⟨z, decide_eq_true m⟩)
      · intro i j q row row' e1 m1 e2 m2
        have ql : q ∈ l := by
          cases i with
          | zero =>
            cases (Option.some.inj e1)
            exact (lastRow_sub m1).1
          | succ i =>
            have e3 : (rowsB fr h n (lessRow l (lastRow fr h l)))[i]? = some row := e1
            exact (List.mem_filter.mp ((B.mem q).mp (List.mem_flatten.mpr ⟨row, List.mem_of_getElem? e3, m1⟩))).1
        cases j with
        | zero =>
          cases (Option.some.inj e2)
          exact absurd (List.mem_map.mpr ⟨q, ql, rfl⟩) (lastRow_sub m2).2
        | succ j =>
          cases i with
          | zero => exact Nat.succ_pos _
          | succ i => exact Nat.succ_lt_succ (B.ord i j q row row' e1 m1 e2 m2)
/-- rows that are these, each in some order -/
structure Same2 (rows rs : List (List Pr)) : Prop where
  len : rows.length = rs.length
  each : ∀ (i : Nat) (row : List Pr), rows[i]? = some row → ∃ r, rs[i]? = some r ∧ row.Perm r
theorem Same2.flat : ∀ {rows rs : List (List Pr)}, Same2 rows rs → rows.flatten.Perm rs.flatten
  | [], [], _ => .nil
  | [], _ :: _, s => by have := s.len; simp at this
  | _ :: _, [], s => by have := s.len; simp at this
  | row :: rows, r :: rs, s => by
    obtain ⟨r', e, p⟩ := s.each 0 row rfl
    cases (Option.some.inj e)
    have t : Same2 rows rs := ⟨by have := s.len; simpa using this, fun i x e => s.each (i + 1) x e⟩
    rw [List.flatten_cons, List.flatten_cons]
    exact p.append t.flat
theorem Back.good {rs rows : List (List Pr)} (B : Back fr h l rs) (pm : l.Perm ps) (s : Same2 rows rs.reverse) : Good fr ps h rows := by
  have fl : rows.flatten.Perm rs.flatten := s.flat.trans (List.reverse_perm rs).flatten
  have len : rows.length = rs.length := by rw [s.len, List.length_reverse]
  have at_ : ∀ (i : Nat) (row : List Pr), rows[i]? = some row → ∃ r, rs[rs.length - 1 - i]? = some r ∧ row.Perm r ∧ i < rs.length := by
    intro i row e
    obtain ⟨r, e2, p⟩ := s.each i row e
    have hi : i < rs.length := by
      rw [← len]
      exact (List.getElem?_eq_some_iff.mp e).1
    rw [List.getElem?_reverse hi] at e2
    exact ⟨r, e2, p, hi⟩
  refine ⟨?_, fl.nodup_iff.mpr B.nd, fun q => ?_, ?_⟩
  · intro row hr
    obtain ⟨i, hi, e⟩ := List.mem_iff_getElem.mp hr
    obtain ⟨r, e2, p, _⟩ := at_ i row (by rw [List.getElem?_eq_getElem hi, e])
    rw [p.length_eq]
    exact B.size r (List.mem_of_getElem? e2)
  · rw [fl.mem_iff, B.mem, pm.mem_iff]
  · intro i j q row row' e1 m1 e2 m2
    obtain ⟨r1, f1, p1, l1⟩ := at_ i row e1
    obtain ⟨r2, f2, p2, l2⟩ := at_ j row' e2
    have := B.ord _ _ q r1 r2 f1 (p1.mem_iff.mp m1) f2 (p2.mem_iff.mp m2)
    omega
theorem cnt_perm (pm : l.Perm ps) (d : Nat) : cnt fr ps l d = cnt fr ps ps d := (pm.filter _).length_eq
theorem Good.need_le {rows : List (List Pr)} (fo : FrOk fr) (oo : OldOk fr ps) (hh : 1 ≤ h) (g : Good fr ps h rows) (d : Nat) : need fr ps (h : Int) (d : Int) ≤ (rows.length : Int) := by
  rw [need_nat]
  have c := g.cnt_le fo oo d
  by_cases z : cnt fr ps ps d = 0
  · rw [if_pos z]
    omega
  · rw [if_neg z]
    have pos : d < rows.length := by
      rcases Nat.lt_or_ge d rows.length with y | y
      · exact y
      · rw [show rows.length - d = 0 by omega, Nat.mul_zero] at c
        omega
    have := (ceil_le (m := rows.length - d) hh (by omega)).mpr c
    generalize (cnt fr ps ps d + h - 1) / h = k at this ⊢
    omega
theorem ev_shows {rows : List (List Pr)} {n : Nat} (fo : FrOk fr) (oo : OldOk fr ps) (hh : 1 ≤ h) (L : Left fr ps l) (pm : l.Perm ps) (hn : l.length ≤ n) (s : Same2 rows (rowsB fr h n l).reverse) {d : Nat} (best : ∀ e : Nat, e < fr.length → need fr ps (h : Int) (e : Int) ≤ need fr ps (h : Int) (d : Int)) :
    Good fr ps h rows ∧ showsR fr ps (h : Int) rows (d : Int) = true := by
  have g := (rowsB_back fo oo hh n l hn L).good pm s
  refine ⟨g, ?_⟩
  have lo := g.need_le fo oo hh d
  have nn : ∀ e : Nat, 0 ≤ need fr ps (h : Int) (e : Int) := by
    intro e
    rw [need_nat]
    split
    · exact Int.le_refl _
    · exact Int.natCast_nonneg _
  have fit : Fit fr ps h l (need fr ps (h : Int) (d : Int)).toNat := by
    intro e
    rw [cnt_perm pm]
    rcases Nat.lt_or_ge e fr.length with z | z
    · by_cases c : cnt fr ps ps e = 0
      · rw [c]
        exact Nat.zero_le _
      · have b := best e z
        have e1 := need_nat (fr := fr) (ps := ps) (h := h) e
        rw [if_neg c] at e1
        rw [e1] at b
        refine (ceil_le (m := (need fr ps (h : Int) (d : Int)).toNat - e) hh (by omega)).mp ?_
        generalize (cnt fr ps ps e + h - 1) / h = k at b ⊢
        omega
    · rw [cnt_far fo oo z]
      exact Nat.zero_le _
  have hi := rowsB_few fo oo hh n l _ hn L fit
  have len : rows.length = (rowsB fr h n l).length := by rw [s.len, List.length_reverse]
  have n0 := nn d
  unfold showsR
  rw [g.areR, decide_eq_true (show (0 : Int) ≤ (d : Int) by omega), decide_eq_true (show (rows.length : Int) = need fr ps (h : Int) (d : Int) by omega)]
  rfl
end
end PD

/-! Phrasedesk: p < q of pairs of numbers; what stays where all but tables stay -/
namespace PD
open PySem PySem.Spec PyProof.Rows L2
def ltPr (p q : Pr) : Bool := decide (p.1 < q.1) || (decide (p.1 = q.1) && decide (p.2 < q.2))
def rLtP : R2 := fun x y H Q => ∃ (a b : Addr) (p q : Pr), x = .ref a ∧ y = .ref b ∧ H a = some (.tup [.int p.1, .int p.2]) ∧ H b = some (.tup [.int q.1, .int q.2]) ∧ Q (.bl (ltPr p q)) H
theorem lexAt_pr (p q : Pr) : Ob.lexAt (fun j => decide ([p.1, p.2].getD j 0 = [q.1, q.2].getD j 0)) (fun j => decide ([p.1, p.2].getD j 0 < [q.1, q.2].getD j 0)) (decide (2 < 2)) 0 2 = ltPr p q := by
  unfold ltPr
  show (if decide (p.1 = q.1) = true then (if decide (p.2 = q.2) = true then decide (2 < 2) else decide (p.2 < q.2)) else decide (p.1 < q.1)) = _
  by_cases h1 : p.1 = q.1
  · have h2 : ¬ p.1 < q.1 := by omega
    by_cases h3 : p.2 = q.2
    · have h4 : ¬ p.2 < q.2 := by omega
      simp [h1, h3]
    · simp [h1, h3]
  · simp [h1]
section
variable {X : Cx}
theorem op_ltP (hu : X.A.units < cLine) : OpR X (compareOp .Lt) rLtP := by
  intro pins z σ G x y v u Q I rx ry h
  obtain ⟨a, b, p, q, rfl, rfl, ha, hb, k⟩ := h
  cases rx
  cases ry
  obtain ⟨is1, r1, t1, _⟩ := I.tuple (SqT.of (K := X.K) ha)
  obtain ⟨is2, r2, t2, _⟩ := I.tuple (SqT.of (K := X.K) hb)
  have i1 : IntsAre is1 [p.1, p.2] := Vals.ints (ns := [p.1, p.2]) r1
  have i2 : IntsAre is2 [q.1, q.2] := Vals.ints (ns := [q.1, q.2]) r2
  have s1 : is1.toArray.size = 2 := (List.size_toArray ..).trans i1.length
  have s2 : is2.toArray.size = 2 := (List.size_toArray ..).trans i2.length
  have g1 : ∀ j (hj : j < is1.toArray.size), ∃ t, is1.toArray[j] = .int ([p.1, p.2].getD j 0) t := by
    intro j hj
    refine PyProof.Rows.IntsAre.int_at i1 _ _ ?_
    simp at hj
    simp [hj]
  have g2 : ∀ j (hj : j < is2.toArray.size), ∃ t, is2.toArray[j] = .int ([q.1, q.2].getD j 0) t := by
    intro j hj
    refine PyProof.Rows.IntsAre.int_at i2 _ _ ?_
    simp at hj
    simp [hj]
  have eqs : ∀ m n : Int, (m == n) = decide (m = n) := by
    intro m n
    by_cases c : m = n
    · rw [decide_eq_true c]
      exact beq_iff_eq.mpr c
    · rw [decide_eq_false c]
      exact beq_eq_false_iff_ne.mpr c
  have R := Ob.RcOp.tuples_lt (A := X.A) (s := z) (e := fun j => decide ([p.1, p.2].getD j 0 = [q.1, q.2].getD j 0)) (r := fun j => decide ([p.1, p.2].getD j 0 < [q.1, q.2].getD j 0)) t1 t2 hu ?_ ?_
  · rw [s1, s2] at R
    rw [show min 2 2 = 2 from rfl, lexAt_pr] at R
    exact R _ _ _ _ ⟨.bl (ltPr p q), G, I, rfl, k⟩
  · intro j h1 h2
    obtain ⟨t, e1⟩ := g1 j h1
    obtain ⟨t', e2⟩ := g2 j h2
    rw [e1, e2, ← eqs]
    exact SeqAt.EqAt.int_int _ _ _ _
  · intro j h1 h2 _
    obtain ⟨t, e1⟩ := g1 j h1
    obtain ⟨t', e2⟩ := g2 j h2
    rw [e1, e2]
    exact Ob.RcOp.lt_int _ _ _ _
end
/-! ### what stays where all but the tables stay -/
open LamX (ExtN Tabs)
theorem ExtN.same {H H' : Hp} (s : Same H H') : ExtN H H' := fun b o e _ => s b o e
theorem ls_ext {H H' : Hp} (e : ExtN H H') {p : Addr} {ns : List Int} (h : LsAt H p ns) : LsAt H' p ns := e _ _ h fun _ z => nomatch z
theorem prv_ext {H H' : Hp} (e : ExtN H H') {v : V} {q : Pr} (h : PrV H v q) : PrV H' v q := let ⟨p, a, b⟩ := h; ⟨p, a, e _ _ b fun _ z => nomatch z⟩
theorem prs_ext {H H' : Hp} (e : ExtN H H') {a : Addr} {ps : List Pr} (h : PrsAt H a ps) : PrsAt H' a ps := let ⟨vs, x, y⟩ := h; ⟨vs, e _ _ x (fun _ z => nomatch z), y.mono fun _ _ z => prv_ext e z⟩
theorem rws_ext {H H' : Hp} (e : ExtN H H') {a : Addr} {rows : List (List Pr)} (h : RwsAt H a rows) : RwsAt H' a rows := let ⟨vs, x, y⟩ := h; ⟨vs, e _ _ x (fun _ z => nomatch z), y.mono fun _ _ ⟨r, z, u⟩ => ⟨r, z, prs_ext e u⟩⟩
/-! ### pairs sorted by a key -/
theorem perm_lift {α β : Type} {f : α → β} {l m : List β} (p : l.Perm m) : ∀ {z : List α}, z.map f = m → ∃ z' : List α, z'.Perm z ∧ z'.map f = l := by
  induction p with
  | nil =>
    intro z e
    exact ⟨[], by rw [List.map_eq_nil_iff.mp e], rfl⟩
  | cons x _ ih =>
    intro z e
    cases z with
    | nil => cases e
    | cons y z =>
      rw [List.map_cons] at e
      injection e with e1 e2
      obtain ⟨z', p, e3⟩ := ih e2
      exact ⟨y :: z', p.cons y, by rw [List.map_cons, e1, e3]⟩
  | swap x y l =>
    intro z e
    match z, e with
    | a :: b :: z, e =>
      rw [List.map_cons, List.map_cons] at e
      injection e with e1 e2
      injection e2 with e2 e3
      exact ⟨b :: a :: z, List.Perm.swap _ _ _, by rw [List.map_cons, List.map_cons, e1, e2, e3]⟩
  | trans _ _ i1 i2 =>
    intro z e
    obtain ⟨z2, p2, e2⟩ := i2 e
    obtain ⟨z1, p1, e1⟩ := i1 e2
    exact ⟨z1, p1.trans p2, e1⟩
theorem all2_zip {α : Type} {F : V → α → Prop} : ∀ {z : List (α × V)}, (∀ p ∈ z, F p.2 p.1) → All2 F (z.map Prod.snd) (z.map Prod.fst)
  | [], _ => All2.nil
  | p :: z, h => All2.cons (h p List.mem_cons_self) (all2_zip fun q hq => h q (List.mem_cons_of_mem _ hq))
theorem sorted_prs {H : Hp} {f : Pr → Int} {ws ys : List V} {ps : List Pr} (hp : Prs H ws ps) (s : SortBy true (ps.map f) ws ys) : ∃ qs, Prs H ys qs ∧ qs.Perm ps ∧ qs.Pairwise fun p q => f q ≤ f p := by
  obtain ⟨pr, pm, rfl, pw, _⟩ := s
  have len := hp.len
  have e : (ps.zip ws).map (fun z : Pr × V => (f z.1, z.2)) = (ps.map f).zip ws := by
    rw [List.zip_map_left]
    exact List.map_congr_left fun ⟨x, y⟩ _ => rfl
  obtain ⟨z, pz, rfl⟩ := perm_lift pm e
  refine ⟨z.map Prod.fst, ?_, ?_, ?_⟩
  · have e2 : (z.map fun z : Pr × V => (f z.1, z.2)).map Prod.snd = z.map Prod.snd := by
      rw [List.map_map]
      rfl
    rw [e2]
    refine all2_zip ?_
    intro p hm
    have m := pz.mem_iff.mp hm
    obtain ⟨i, hi, ei⟩ := List.mem_iff_getElem.mp m
    rw [List.length_zip] at hi
    rw [List.getElem_zip] at ei
    obtain ⟨x, ex, F⟩ := hp.at (show ws[i]? = some p.2 by rw [← ei]; exact List.getElem?_eq_getElem (by omega))
    have ep : ps[i]? = some p.1 := by rw [← ei]; exact List.getElem?_eq_getElem (by omega)
    rw [ep] at ex
    rw [Option.some.inj ex]
    exact F
  · have m1 := pz.map Prod.fst
    rw [List.map_fst_zip (by omega)] at m1
    exact m1
  · rw [List.pairwise_map] at pw ⊢
    exact pw.imp fun h => by simpa using h
theorem Prs.ext {H H' : Hp} (e : ExtN H H') {vs : List V} {ps : List Pr} (h : Prs H vs ps) : Prs H' vs ps := h.mono fun _ _ z => prv_ext e z
/-- list(xs), within a comprehension -/
def rListOf (K : PySem.W.Frag) : List V → Hp → VK → Prop := fun xs H Q => ∃ p ys, xs = [.ref p] ∧ (SqL K H p ys ∨ SqT K H p ys) ∧ ∀ l, H l = none → Q (.ref l) (upd H l (.lst ys))
end PD

/-! Phrasedesk: the law's call where defs make lambdas: the tables of their code objects are tracked -/
namespace PD
open PySem PySem.Spec PyProof.Rows L2 LamX
section
variable {P : Program} {w : World} {K : PySem.W.Frag} {mg mb : Str → Option Value} {lv : Nat} {fa a : Addr} {cs : List (Addr × Addr)} {fd : FuncData} {x : Str} {sp : Sp} {z : Shared} {us : List Value} {ns : List Int}
abbrev tabs2 (cs : List (Addr × Addr)) : List Addr := cs.map (·.2)
abbrev noTab : Obj := { cls := .none, data := .fields #[] }
theorem tab_at (h : ∀ p ∈ cs, z.heap.get? p.2 = some noTab) {b : Addr} (m : b ∈ tabs2 cs) : z.heap.get? b = some noTab := by
  obtain ⟨p, hp, rfl⟩ := List.mem_map.mp m
  exact h p hp
theorem callT_from {G : Hp} (KZ : K.In z.heap) (hns : z.heap.Ns mainGlobals mg) (hbn : z.heap.Ns builtinsNs mb) (hbb : ∀ y : Str, y ≠ "__name__" → mb y = bootBuiltins y) (lim : z.heap.NoLimit) (hgn : z.gens = #[])
    (te : ∀ p ∈ cs, z.heap.get? p.2 = some noTab) (tk : ∀ p ∈ cs, K.lookup p.2 = none) (tc : ∀ p ∈ cs, PySem.W.CodeHd z.heap p.1 p.2)
    (bmn : ∃ (bm : Addr) (ob : Obj), mg "__builtins__" = some (.ref bm) ∧ bm ≠ builtinsNs ∧ z.heap.get? bm = some ob ∧ ob.cls = .type "module" ∧ ob.dict = some builtinsNs ∧ ob.data = .plain)
    (obj : z.heap.get? a = some { cls := .type "list", data := .seq us.toArray }) (room : Room lv callerA) (F : ∀ base : Heap, K.In base → base.Ns mainGlobals mg → (∀ p ∈ cs, TabB base mg p.1 p.2) → FnG P w K mg base lv fa fd [x] sp)
    (bind : ∀ (t : Shared) (u : Value), BindsTo t fd ⟨[u], []⟩ [(x, u)]) (gt : ∀ p ∈ cs, G p.2 = some (.tbl #[])) (only : ∀ b, G b = none ∨ b ∈ tabs2 cs ∨ ∃ o xs, G b = some (.frz o (.lst xs))) (goal : sp [.ref a] G (fun v _ => v = .bl true) fun _ _ _ => False) (ok : HOk P w G z.heap)
    (at_ : ∀ b, G b ≠ none → b = a ∨ b ∈ tabs2 cs) (out : G a ≠ none → K.lookup a = none) :
    codeAny (model P w) callerA (.call (.ref fa) ⟨[.ref a], []⟩) (fun r t => r = .ok (.ret (.bool true)) ∧ OldK z.heap t.heap ∧ t.os = z.os ∧ AllBare t.gens) z := by
  have stays : ∀ {b : Addr} {o : Obj}, z.heap.get? b = some o → G b = none → (hidT z.heap G).get? b = some o := fun e n => hidT_get e n
  have free : ∀ {b : Addr} {o : Obj}, z.heap.get? b = some o → (∀ vs n, o.data ≠ .seq vs n) → o.data ≠ .fields #[] → G b = none := by
    intro b o e h1 h2
    cases t : G b with
    | none => rfl
    | some v =>
      rcases at_ b (by rw [t]; simp) with q | q
      · rw [q, obj] at e
        rw [← Option.some.inj e] at h1
        exact (h1 _ _ rfl).elim
      · rw [tab_at te q] at e
        rw [← Option.some.inj e] at h2
        exact (h2 rfl).elim
  have freeD : ∀ {b : Addr} {o : Obj} {es : Array DictEntry} {ep : Nat}, z.heap.get? b = some o → o.data = .dict es ep → G b = none := by
    intro b o es ep e d
    exact free e (fun _ _ q => by rw [d] at q; cases q) fun q => by rw [d] at q; cases q
  have nsH : ∀ {b : Addr} {m : Str → Option Value}, z.heap.Ns b m → (hidT z.heap G).Ns b m := by
    rintro b m ⟨o, es, ep, e, d, r⟩
    exact ⟨o, es, ep, stays e (freeD e d), d, r⟩
  have KH : K.In (hidT z.heap G) := by
    intro b o e
    refine stays (KZ b o e) ?_
    cases t : G b with
    | none => rfl
    | some v =>
      rcases at_ b (by rw [t]; simp) with q | q
      · rw [q] at e t
        rw [out (by rw [t]; simp)] at e
        cases e
      · obtain ⟨p, hp, rfl⟩ := List.mem_map.mp q
        rw [tk p hp] at e
        cases e
  have md : Mod K mg (hidT z.heap G) := by
    obtain ⟨mc, h1, h2⟩ := lim
    exact ⟨KH, nsH hns, ⟨mb, nsH hbn, hbb⟩, ⟨mc, nsH h1, h2⟩⟩
  have TB : ∀ p ∈ cs, TabB (hidT z.heap G) mg p.1 p.2 := by
    intro p hp
    have tp := te p hp
    have gl : mainGlobals ≠ p.2 := by
      intro q
      obtain ⟨o, es, ep, e, hd, _⟩ := hns
      rw [q, tp] at e
      rw [← Option.some.inj e] at hd
      cases hd
    refine ⟨?_, ?_, gl⟩
    · obtain ⟨o, vs, file, tf, flags, tg, inF, text, tt, e1, r1, r2, r3, r⟩ := tc p hp
      refine ⟨o, vs, file, tf, flags, tg, inF, text, tt, stays e1 (free e1 (fun _ _ q => ?_) fun q => ?_), r1, r2, r3, r⟩
      · rw [r2] at q
        cases q
      · rw [r2] at q
        cases q
        simp at r3
    · obtain ⟨bm, ob, b1, b2, b3, b4, b5, b6⟩ := bmn
      refine ⟨bm, ob, b1, b2, ?_, ?_, stays b3 (free b3 (fun _ _ q => ?_) fun q => ?_), b4, b5, b6⟩
      · intro q
        obtain ⟨o, es, ep, e, hd, _⟩ := hns
        rw [q, e] at b3
        rw [← Option.some.inj b3, hd] at b6
        cases b6
      · intro q
        rw [q, tp] at b3
        rw [← Option.some.inj b3] at b6
        cases b6
      · rw [b6] at q
        cases q
      · rw [b6] at q
        cases q
  have e0 : Env0 P w K mg (hidT z.heap G) callerA [] z G := by
    refine ⟨rfl, md, fun b o e => of_hidT e, Nat.le_of_eq (hidT_size _ _), trivial, ?_, ok, .of_eq hgn⟩
    intro b hb
    exact absurd (show b ∈ ([] : List Addr) from hb) (by simp)
  have run := (F _ KH (nsH hns) TB).goes callerA [] z G ⟨[.ref a], []⟩ [.ref a] [.ref a] _ _ rfl room e0 (bind z (.ref a)) (.cons rfl .nil) goal
  refine codeAny_mono run ?_
  intro r t h
  cases r with
  | error er => exact (show False from h).elim
  | ok fl =>
    cases fl with
    | next => exact (show False from h).elim
    | brk => exact (show False from h).elim
    | cont => exact (show False from h).elim
    | ret u =>
      obtain ⟨v, G', os, bare, un, ok', rv, qv⟩ := h
      cases (show v = .bl true from qv)
      cases (show u = Value.bool true from rv)
      have same : ∀ b o, b ∉ tabs2 cs → z.heap.get? b = some o → t.heap.get? b = some o := by
        intro b o nb e
        cases t2 : G b with
        | none => exact un.keep b o e t2 (fun m => absurd (show b ∈ ([] : List Addr) from m) (by simp)) (by simp)
        | some v =>
          rcases only b with n | n | ⟨ob, xs, n⟩
          · rw [t2] at n
            cases n
          · exact absurd n nb
          · obtain ⟨q1, _⟩ := ok b _ n
            obtain ⟨q2, _⟩ := ok' b _ (un.frzs b ob _ n)
            rw [e] at q1
            rw [Option.some.inj q1]
            exact q2
      have more : ∀ p ∈ cs, ∃ vs : Array Value, t.heap.get? p.2 = some { cls := .none, data := .fields vs } := by
        intro p hp
        obtain ⟨vs, q⟩ := un.tbls p.2 #[] (gt p hp)
        exact ⟨_, ok' p.2 _ q⟩
      refine ⟨rfl, ⟨fun b o e => ?_, fun b o e => ?_⟩, os, bare⟩
      · by_cases hb : b ∈ tabs2 cs
        · obtain ⟨p, hp, rfl⟩ := List.mem_map.mp hb
          obtain ⟨vs, q⟩ := more p hp
          rw [te p hp] at e
          rw [← Option.some.inj e]
          exact .inr (.inl ⟨((tc p hp).tab (te p hp)).isCodeTable, rfl, #[], vs, rfl, by rw [Array.empty_append]; exact q⟩)
        · exact .inl (same b o hb e)
      · by_cases hb : b ∈ tabs2 cs
        · obtain ⟨p, hp, rfl⟩ := List.mem_map.mp hb
          obtain ⟨vs, q⟩ := more p hp
          exact ⟨_, q⟩
        · exact ⟨o, same b o hb e⟩
theorem callT_goes (KZ : K.In z.heap) (hns : z.heap.Ns mainGlobals mg) (hbn : z.heap.Ns builtinsNs mb) (hbb : ∀ y : Str, y ≠ "__name__" → mb y = bootBuiltins y) (lim : z.heap.NoLimit) (hgn : z.gens = #[])
    (te : ∀ p ∈ cs, z.heap.get? p.2 = some noTab) (tk : ∀ p ∈ cs, K.lookup p.2 = none) (tc : ∀ p ∈ cs, PySem.W.CodeHd z.heap p.1 p.2)
    (bmn : ∃ (bm : Addr) (ob : Obj), mg "__builtins__" = some (.ref bm) ∧ bm ≠ builtinsNs ∧ z.heap.get? bm = some ob ∧ ob.cls = .type "module" ∧ ob.dict = some builtinsNs ∧ ob.data = .plain)
    (obj : z.heap.get? a = some { cls := .type "list", data := .seq us.toArray }) (isn : IntsAre us ns) (small : ns.length ≤ sizeLine) (room : Room lv callerA) (F : ∀ base : Heap, K.In base → base.Ns mainGlobals mg → (∀ p ∈ cs, TabB base mg p.1 p.2) → FnG P w K mg base lv fa fd [x] sp)
    (bind : ∀ (t : Shared) (u : Value), BindsTo t fd ⟨[u], []⟩ [(x, u)]) (goal : ∀ G : Hp, (∀ p ∈ cs, G p.2 = some (.tbl #[])) → SqL K G a (ns.map V.int) → sp [.ref a] G (fun v _ => v = .bl true) fun _ _ _ => False) :
    codeAny (model P w) callerA (.call (.ref fa) ⟨[.ref a], []⟩) (fun r t => r = .ok (.ret (.bool true)) ∧ OldK z.heap t.heap ∧ t.os = z.os ∧ AllBare t.gens) z := by
  have rv := vals_ints isn
  have len := isn.length
  have na : a ∉ tabs2 cs := by
    intro m
    have q := tab_at te m
    rw [obj] at q
    have q2 : Data.seq us.toArray _ = Data.fields #[] := congrArg Obj.data (Option.some.inj q)
    cases q2
  have mt : ∀ p ∈ cs, p.2 ∈ tabs2 cs := fun p hp => List.mem_map.mpr ⟨p, hp, rfl⟩
  cases inK : K.lookup a with
  | some o =>
    have e := KZ a o inK
    rw [obj] at e
    have eo := Option.some.inj e
    subst eo
    let G : Hp := fun b => if b ∈ tabs2 cs then some (.tbl #[]) else none
    have g1 : ∀ b, b ∈ tabs2 cs → G b = some (.tbl #[]) := fun b m => if_pos m
    have g2 : ∀ b, b ∉ tabs2 cs → G b = none := fun b m => if_neg m
    have sq : SqL K G a (ns.map V.int) := .inr ⟨_, us.toArray, _, inK, rfl, rfl, rfl, by rw [List.size_toArray, len]; exact small, by simpa using rv⟩
    refine callT_from (G := G) KZ hns hbn hbb lim hgn te tk tc bmn obj room F bind (fun p hp => g1 _ (mt p hp)) ?_ (goal G (fun p hp => g1 _ (mt p hp)) sq) ?_ ?_ fun n => absurd (g2 a na) n
    · intro b
      by_cases h : b ∈ tabs2 cs
      · exact .inr (.inl h)
      · exact .inl (g2 b h)
    · intro b u n
      by_cases h : b ∈ tabs2 cs
      · rw [g1 b h] at n
        rw [← Option.some.inj n]
        exact tab_at te h
      · rw [g2 b h] at n
        cases n
    · intro b n
      by_cases h : b ∈ tabs2 cs
      · exact .inr h
      · exact absurd (g2 b h) n
  | none =>
    let G : Hp := fun b => if b = a then some (.frz { cls := .type "list", data := .seq us.toArray } (.lst (ns.map V.int))) else if b ∈ tabs2 cs then some (.tbl #[]) else none
    have g0 : G a = some (.frz { cls := .type "list", data := .seq us.toArray } (.lst (ns.map V.int))) := if_pos rfl
    have g1 : ∀ b, b ∈ tabs2 cs → G b = some (.tbl #[]) := fun b m => (if_neg (fun q => na (by rw [← q]; exact m))).trans (if_pos m)
    have g2 : ∀ b, b ≠ a → b ∉ tabs2 cs → G b = none := fun b n m => (if_neg n).trans (if_neg m)
    refine callT_from (G := G) KZ hns hbn hbb lim hgn te tk tc bmn obj room F bind (fun p hp => g1 _ (mt p hp)) ?_ (goal G (fun p hp => g1 _ (mt p hp)) (.inl (.inr ⟨_, g0⟩))) ?_ ?_ fun _ => inK
    · intro b
      by_cases h : b = a
      · rw [h]
        exact .inr (.inr ⟨_, _, g0⟩)
      · by_cases h2 : b ∈ tabs2 cs
        · exact .inr (.inl h2)
        · exact .inl (g2 b h h2)
    · intro b u n
      by_cases h : b = a
      · rw [h, g0] at n
        rw [← Option.some.inj n, h]
        exact ⟨obj, by rw [List.length_map]; exact small, us, _, rv, obj⟩
      · by_cases h2 : b ∈ tabs2 cs
        · rw [g1 b h2] at n
          rw [← Option.some.inj n]
          exact tab_at te h2
        · rw [g2 b h h2] at n
          cases n
    · intro b n
      by_cases h : b = a
      · exact .inl h
      · by_cases h2 : b ∈ tabs2 cs
        · exact .inr h2
        · exact absurd (g2 b h h2) n
end
/-- the head's last goal, from the law's promise -/
theorem walkT {l : PySem.W.OpenLaw} {n lv : Nat} {q : Program} {loose : List Str} {XP : (Str → Option Value) → Heap → Prop} {YP : World → Heap → Prop} {d : DefRec} {x : Str} (most : l.most = some n) (small : n ≤ sizeLine) (nodef : d.params.defaults = []) (room : Room lv callerA)
    (F : ∀ (w : World) (mg : Str → Option Value) (fa : Addr) (h : Heap), YP w h → h.Ns mainGlobals mg → mg d.name = some (.ref fa) → ∃ (K : PySem.W.Frag) (fd : FuncData) (sp : Sp) (cs : List (Addr × Addr)), K.In h ∧ (∀ p ∈ cs, h.get? p.2 = some noTab) ∧ (∀ p ∈ cs, K.lookup p.2 = none) ∧ (∀ p ∈ cs, PySem.W.CodeHd h p.1 p.2) ∧
      (∀ (t : Shared) (u : Value), BindsTo t fd ⟨[u], []⟩ [(x, u)]) ∧ (∀ (G : Hp) (a : Addr) (ns : List Int), ns.length ≤ n → (∀ p ∈ cs, G p.2 = some (.tbl #[])) → SqL K G a (ns.map V.int) → sp [.ref a] G (fun v _ => v = .bl true) fun _ _ _ => False) ∧
      ∀ base : Heap, K.In base → base.Ns mainGlobals mg → (∀ p ∈ cs, TabB base mg p.1 p.2) → FnG l.prog w K mg base lv fa fd [x] sp) :
    PySem.W.WalkO q loose XP YP l.row.toRowW d [] (fun f vs => PySem.call f vs) := by
  refine Att.attach_call most nodef ?_
  intro w z0 z mg mb fa o pm cd doc a us ns G Y ho hd hcd hmg obj isn len gens
  obtain ⟨K, fd, sp, cs, KZ, te, tk, tc, bind, goal, hF⟩ := F w mg fa _ Y G.T.g hmg
  exact callT_goes KZ G.T.g G.T.b G.T.builtins G.T.nolimit gens te tk tc G.T.bmain obj isn (Nat.le_trans len small) room hF bind fun G' h1 h2 => goal G' a ns len h1 h2
/-! ### a def whose code object is known -/
section
variable {P : Program} {w : World} {K : PySem.W.Frag} {mg : Str → Option Value} {base : Heap} {x : Str} {st : Stmt} {N ps : List Str} {k : Nat} {sp : Sp}
theorem calT (F : ∃ fd, FunD K x x (defArgs st) (defBody st) (defScope st) [] [] (He.ga K x) fd) (hm : mg x = some (.ref (He.ga K x))) (hb : BindOk x x st ps) (S : FnScope N ps (defScope st)) (len : ∀ vs H Q E, sp vs H Q E → vs.length = ps.length)
    (b : ∀ (A : Around) (outer : List Env) (s : Shared) (H : Hp) (vs : List V) (Q : VK) (E : XK), Room k (A.deeper (envOfC x (defScope st) s.heap.objs.size (He.ga K x) (.ref (He.codeOf K (x, none))))) → sp vs H Q E →
      ∃ t, PSs (cxOf CX0 P w K mg base N x (defScope st) (He.ga K x) (.ref (He.codeOf K (x, none))) A outer s H E).nox (defBody st) t ∧ t { nx := fun _ H' => Q .non H', rt := Q } (start N vs) H) : C8.Cal P w K mg base (k + 1) x sp [] := by
  obtain ⟨fd, F⟩ := F
  refine ⟨He.ga K x, fd, ps, [], ?_, hm, F.kp, F.bindsN hb, .nil⟩
  obtain ⟨oc, od, dV, kV, doc, pm, an, cv, ct, sl, rfl, lk, hc, -, -⟩ := F.ex
  obtain ⟨c, rfl⟩ := He.codeIn_ref hc
  have ec : He.codeOf K (x, none) = c := He.codeOf_eq lk rfl
  constructor
  · exact len
  · intro A outer s H ar us vs Q E hr e0 hbd r hs
    refine LamX.run_ofS (N := N) (ps := ps) lk hc S hr e0 hbd r (len _ _ _ _ hs) fun hr' => ?_
    rw [← ec] at hr' ⊢
    obtain ⟨t, h1, h2⟩ := b A outer s H vs Q E hr' hs
    exact ⟨t, h1.nox, h2⟩
end
end PD

/-! Phrasedesk: filling, one behind another, as at once -/
namespace PD
open PySem PySem.Spec PyProof.Rows L2
theorem chain_eq {fr : List Int} {r r' : List Cell} (fo : FrOk fr) : ∀ t, t ≤ fr.length → (∀ u, u ≤ t → r.getD u Option.none = r'.getD u Option.none) → chain fr r t = chain fr r' t := by
  intro t
  induction t using Nat.strongRecOn with
  | _ t ih =>
    intro ht h
    by_cases t0 : t = 0
    · subst t0
      rfl
    · have hu := up_lt fo (by omega : 0 < t) ht
      rw [chain_step fo (by omega) ht, chain_step fo (by omega) ht, ih (up fr t) hu (by omega) fun u hu' => h u (by omega)]
      have e : brk fr r t = brk fr r' t := by
        unfold brk
        rw [h t (Nat.le_refl _), h (up fr t) (by omega)]
      rw [e]
/-- the same stands at a place -/
structure SameAt (A S : De) (q u : Nat) : Prop where
  now : A.now q u = S.now q u
  cell : A.cell q u = S.cell q u
  tx : A.tx q u = S.tx q u
theorem SameAt.refl {S : De} {q u : Nat} : SameAt S S q u := ⟨rfl, rfl, rfl⟩
theorem SameAt.trans {A B S : De} {q u : Nat} (h : SameAt A B q u) (k : SameAt B S q u) : SameAt A S q u := ⟨h.now.trans k.now, h.cell.trans k.cell, h.tx.trans k.tx⟩
section
variable {fr : List Int} {S A : De} {p q t : Nat}
theorem row_getD' {p t : Nat} (h : t ≤ fr.length) : (S.row (fr.length + 1) p).getD t Option.none = S.cell p t := by
  rw [List.getD_eq_getElem?_getD, De.row_at (by omega)]
  rfl
theorem chain_same (fo : FrOk fr) (ht : t ≤ fr.length) (h : ∀ u, u ≤ t → SameAt A S q u) : chain fr (A.row (fr.length + 1) q) t = chain fr (S.row (fr.length + 1) q) t :=
  chain_eq fo t ht fun u hu => by rw [row_getD' (by omega), row_getD' (by omega), (h u hu).cell]
theorem lay_at {x : Str} {s : Option Int} (ok : S.Ok fr) {p' u : Nat} (h : ¬ (p' = p ∧ u = t)) : SameAt (S.lay p t x s) S p' u := by
  have e : (S.lay p t x s).now p' u = S.now p' u := by
    show (setL S.lie p t _ p' u).getLast? = _
    unfold setL
    rw [if_neg h]
    rfl
  have pt : ∀ k, S.now p' u = some k → (S.lay p t x s).pt k = S.pt k := by
    intro k ek
    obtain ⟨k0, v, ev, _⟩ := ok.num.now ek
    rw [De.pt_at ev, De.pt_at (S := S.lay p t x s) (at_snoc ev)]
  refine ⟨e, ?_, ?_⟩
  · unfold De.cell
    rw [e]
    cases ek : S.now p' u with
    | none => rfl
    | some k => rw [Option.map_some, Option.map_some, pt k ek]
  · unfold De.tx
    rw [e]
    cases ek : S.now p' u with
    | none => rfl
    | some k =>
      show ((S.lay p t x s).pt k).x = (S.pt k).x
      rw [pt k ek]
theorem lay_here {x : Str} {s : Option Int} : (S.lay p t x s).now p t = some (S.puts.length : Int) ∧ (S.lay p t x s).cell p t = some ((S.puts.length : Int), s) ∧ (S.lay p t x s).tx p t = x := by
  have e : (S.lay p t x s).now p t = some (S.puts.length : Int) := by
    show (setL S.lie p t _ p t).getLast? = _
    unfold setL
    rw [if_pos ⟨rfl, rfl⟩]
    simp
  have e2 : (S.lay p t x s).pt (S.puts.length : Int) = ⟨p, t, x, s⟩ := De.pt_at (by
    show (S.puts ++ [_])[_]? = _
    rw [show ((S.puts.length : Int)).toNat = S.puts.length by omega, List.getElem?_append_right (Nat.le_refl _), Nat.sub_self]
    rfl)
  refine ⟨e, ?_, ?_⟩
  · unfold De.cell
    rw [e, Option.map_some, e2]
  · unfold De.tx
    rw [e]
    show ((S.lay p t x s).pt _).x = x
    rw [e2]
theorem found_mem {y : Str} {n : Nat} : y ∈ S.found fr p t n ↔ ∃ r, r < n ∧ S.like fr p t r = true ∧ y = S.tx r t := by
  unfold De.found
  rw [List.mem_map]
  constructor
  · rintro ⟨r, h, rfl⟩
    obtain ⟨h1, h2⟩ := List.mem_filter.mp h
    exact ⟨r, List.mem_range.mp h1, h2, rfl⟩
  · rintro ⟨r, h1, h2, rfl⟩
    exact ⟨r, List.mem_filter.mpr ⟨List.mem_range.mpr h1, h2⟩, rfl⟩
theorem like_iff {r : Nat} : S.like fr p t r = true ↔ r ≠ p ∧ (S.now p (up fr t)).isSome = true ∧ (S.now r (up fr t)).isSome = true ∧ S.tx p (up fr t) = S.tx r (up fr t) ∧ chain fr (S.row (fr.length + 1) r) t = Option.none := by
  unfold De.like
  simp only [Bool.and_eq_true, decide_eq_true_eq, Option.isNone_iff_eq_none]
theorem onlyOf_congr {l l' : List Str} (h : ∀ y, y ∈ l ↔ y ∈ l') : onlyOf l = onlyOf l' := by
  cases e : onlyOf l with
  | some x => exact (onlyOf_of fun y => (h y).symm.trans (onlyOf_some e y)).symm
  | none =>
    cases e' : onlyOf l' with
    | none => rfl
    | some x =>
      rw [onlyOf_of fun y => (h y).trans (onlyOf_some e' y)] at e
      cases e
/-- one that is to be filled with this text -/
structure Due (fr : List Int) (S : De) (t q : Nat) (x : Str) : Prop where
  up : chain fr (S.row (fr.length + 1) q) (up fr t) = Option.none
  brk : chain fr (S.row (fr.length + 1) q) t ≠ Option.none
  one : onlyOf (S.found fr q t S.n) = some x
structure Fil (fr : List Int) (t : Nat) (S A : De) (i : Nat) : Prop where
  n : A.n = S.n
  ok : A.Ok fr
  oth : ∀ q u, u ≠ t → SameAt A S q u
  late : ∀ q, i ≤ q → SameAt A S q t
  yes : ∀ q x, q < i → Due fr S t q x → chain fr (A.row (fr.length + 1) q) t = Option.none ∧ A.tx q t = x
  no : ∀ q, q < i → (¬ ∃ x, Due fr S t q x) → SameAt A S q t
theorem Fil.all {i : Nat} (h : Fil fr t S A i) {q : Nat} (s : SameAt A S q t) (u : Nat) : SameAt A S q u := by
  by_cases c : u = t
  · rw [c]
    exact s
  · exact h.oth q u c
theorem Fil.at {i : Nat} (h : Fil fr t S A i) (q : Nat) : (q < i ∧ ∃ x, Due fr S t q x) ∨ SameAt A S q t := by
  by_cases c : q < i
  · by_cases d : ∃ x, Due fr S t q x
    · exact .inl ⟨c, d⟩
    · exact .inr (h.no q c d)
  · exact .inr (h.late q (by omega))
theorem Fil.upc {i : Nat} (fo : FrOk fr) (t0 : 0 < t) (t1 : t ≤ fr.length) (h : Fil fr t S A i) (q : Nat) : chain fr (A.row (fr.length + 1) q) (up fr t) = chain fr (S.row (fr.length + 1) q) (up fr t) := by
  have hu := up_lt fo t0 t1
  exact chain_same fo (by omega) fun u hu' => h.oth q u (by omega)
theorem Fil.same {i : Nat} (fo : FrOk fr) (t1 : t ≤ fr.length) (h : Fil fr t S A i) {q : Nat} (s : SameAt A S q t) : chain fr (A.row (fr.length + 1) q) t = chain fr (S.row (fr.length + 1) q) t :=
  chain_same fo t1 fun u _ => h.all s u
/-- like texts of one that is broken stay -/
theorem Fil.found {i : Nat} (fo : FrOk fr) (t0 : 0 < t) (t1 : t ≤ fr.length) (h : Fil fr t S A i) {q : Nat} (hb : chain fr (S.row (fr.length + 1) q) t ≠ Option.none) (y : Str) : y ∈ A.found fr q t A.n ↔ y ∈ S.found fr q t S.n := by
  have hu := up_lt fo t0 t1
  have un : up fr t ≠ t := by omega
  rw [h.n]
  constructor
  · intro hy
    obtain ⟨r, hr, hl, rfl⟩ := found_mem.mp hy
    obtain ⟨l1, l2, l3, l4, l5⟩ := like_iff.mp hl
    rw [(h.oth q _ un).now] at l2
    rw [(h.oth r _ un).now] at l3
    rw [(h.oth q _ un).tx, (h.oth r _ un).tx] at l4
    rcases h.at r with ⟨c, x, d⟩ | s
    · rw [(h.yes r x c d).2]
      obtain ⟨r', hr', hl', ex⟩ := found_mem.mp ((onlyOf_some d.one x).mpr rfl)
      obtain ⟨m1, m2, m3, m4, m5⟩ := like_iff.mp hl'
      rw [ex]
      exact found_mem.mpr ⟨r', hr', like_iff.mpr ⟨fun z => hb (by rw [← z]; exact m5), l2, m3, l4.trans m4, m5⟩, rfl⟩
    · rw [h.same fo t1 s] at l5
      exact found_mem.mpr ⟨r, hr, like_iff.mpr ⟨l1, l2, l3, l4, l5⟩, s.tx⟩
  · intro hy
    obtain ⟨r, hr, hl, rfl⟩ := found_mem.mp hy
    obtain ⟨l1, l2, l3, l4, l5⟩ := like_iff.mp hl
    rcases h.at r with ⟨c, x, d⟩ | s
    · exact absurd l5 d.brk
    · rw [← (h.oth q _ un).now] at l2
      rw [← (h.oth r _ un).now] at l3
      rw [← (h.oth q _ un).tx, ← (h.oth r _ un).tx] at l4
      rw [← h.same fo t1 s] at l5
      exact found_mem.mpr ⟨r, hr, like_iff.mpr ⟨l1, l2, l3, l4, l5⟩, s.tx.symm⟩
/-- whether one is to be filled, then and now -/
theorem Fil.due {i : Nat} (fo : FrOk fr) (t0 : 0 < t) (t1 : t ≤ fr.length) (h : Fil fr t S A i) {q : Nat} (s : SameAt A S q t) {x : Str} : Due fr A t q x ↔ Due fr S t q x := by
  have e1 := h.upc fo t0 t1 q
  have e2 := h.same fo t1 s
  constructor
  · intro d
    have b : chain fr (S.row (fr.length + 1) q) t ≠ Option.none := by rw [← e2]; exact d.brk
    exact ⟨by rw [← e1]; exact d.up, b, by rw [← onlyOf_congr (h.found fo t0 t1 b)]; exact d.one⟩
  · intro d
    exact ⟨by rw [e1]; exact d.up, by rw [e2]; exact d.brk, by rw [onlyOf_congr (h.found fo t0 t1 d.brk)]; exact d.one⟩
/-- a text put from what stands above, that is fresh, is fresh -/
theorem fresh_laid (fo : FrOk fr) (ok : S.Ok fr) (t0 : 0 < t) (t1 : t ≤ fr.length) (hq : q < S.n) {x : Str} (hc : chain fr (S.row (fr.length + 1) q) (up fr t) = Option.none) : chain fr ((S.lay q t x (S.now q (up fr t))).row (fr.length + 1) q) t = Option.none := by
  have hu := up_lt fo t0 t1
  obtain ⟨k, ek⟩ := ok.above fo hq (by omega) hc
  have s : ∀ u, u ≠ t → SameAt (S.lay q t x (S.now q (up fr t))) S q u := fun u hu => lay_at ok fun z => hu z.2
  rw [chain_step fo t0 t1]
  have b : brk fr ((S.lay q t x (S.now q (up fr t))).row (fr.length + 1) q) t = false := by
    unfold brk
    rw [row_getD' t1, row_getD' (by omega), lay_here.2.1, (s (up fr t) (by omega)).cell]
    unfold De.cell
    rw [ek]
    simp
  rw [b, if_neg (by decide), chain_same fo (by omega) fun u hu' => s u (by omega), hc]
  rfl
/-- the phrases that are to be filled, with their texts -/
def De.dueTo (fr : List Int) (t : Nat) (S : De) (i : Nat) : List (Int × Str) := (List.range i).flatMap fun q =>
  if (chain fr (S.row (fr.length + 1) q) (up fr t)).isNone && (chain fr (S.row (fr.length + 1) q) t).isSome then
    match onlyOf (S.found fr q t S.n) with
    | some x => [((q : Int), x)]
    | Option.none => []
  else []
theorem dueTo_yes {x : Str} {i : Nat} (d : Due fr S t i x) : S.dueTo fr t (i + 1) = S.dueTo fr t i ++ [((i : Int), x)] := by
  unfold De.dueTo
  rw [List.range_succ, List.flatMap_append, List.flatMap_cons, List.flatMap_nil, List.append_nil, if_pos (by rw [d.up, Option.isSome_iff_ne_none.mpr d.brk]; rfl), d.one]
theorem dueTo_no {i : Nat} (d : ¬ ∃ x, Due fr S t i x) : S.dueTo fr t (i + 1) = S.dueTo fr t i := by
  unfold De.dueTo
  rw [List.range_succ, List.flatMap_append, List.flatMap_cons, List.flatMap_nil, List.append_nil]
  by_cases c : ((chain fr (S.row (fr.length + 1) i) (up fr t)).isNone && (chain fr (S.row (fr.length + 1) i) t).isSome) = true
  · rw [if_pos c]
    rw [Bool.and_eq_true] at c
    cases e : onlyOf (S.found fr i t S.n) with
    | none => rw [List.append_nil]
    | some x => exact absurd ⟨x, Option.isNone_iff_eq_none.mp c.1, Option.isSome_iff_ne_none.mp c.2, e⟩ d
  · rw [if_neg c, List.append_nil]
theorem dueTo_mem {i : Nat} {e : Int × Str} (h : e ∈ S.dueTo fr t i) : ∃ q : Nat, q < i ∧ e.1 = (q : Int) ∧ Due fr S t q e.2 := by
  induction i with
  | zero => cases h
  | succ i ih =>
    by_cases d : ∃ x, Due fr S t i x
    · obtain ⟨x, d⟩ := d
      rw [dueTo_yes d] at h
      rcases List.mem_append.mp h with z | z
      · obtain ⟨q, a, b⟩ := ih z
        exact ⟨q, by omega, b⟩
      · rw [List.mem_singleton.mp z]
        exact ⟨i, by omega, rfl, d⟩
    · rw [dueTo_no d] at h
      obtain ⟨q, a, b⟩ := ih h
      exact ⟨q, by omega, b⟩
theorem dueTo_len {i : Nat} : (S.dueTo fr t i).length ≤ i := by
  induction i with
  | zero => exact Nat.le_refl _
  | succ i ih =>
    by_cases d : ∃ x, Due fr S t i x
    · obtain ⟨x, d⟩ := d
      rw [dueTo_yes d, List.length_append, List.length_singleton]
      omega
    · rw [dueTo_no d]
      omega
theorem fill_due {B : De × List Int × List Line} {x : Str} (d : Due fr B.1 t q x) : De.fillOne fr t B q = (B.1.lay q t x (B.1.now q (up fr t)), B.2.1 ++ [(q : Int)], B.2.2 ++ [.put q t x (B.1.now q (up fr t)) (B.1.now q t) (B.1.puts.length : Int)]) := De.fill_yes d.up d.brk d.one
theorem fill_not {B : De × List Int × List Line} (d : ¬ ∃ x, Due fr B.1 t q x) : De.fillOne fr t B q = B := by
  by_cases c1 : chain fr (B.1.row (fr.length + 1) q) (up fr t) = Option.none
  · by_cases c2 : chain fr (B.1.row (fr.length + 1) q) t = Option.none
    · exact De.fill_no (.inr (.inl c2))
    · cases c3 : onlyOf (B.1.found fr q t B.1.n) with
      | none => exact De.fill_no (.inr (.inr c3))
      | some x => exact absurd ⟨x, c1, c2, c3⟩ d
  · exact De.fill_no (.inl c1)
/-- filled one behind another, as at once -/
theorem fil_to (fo : FrOk fr) (ok : S.Ok fr) (t0 : 0 < t) (t1 : t ≤ fr.length) : ∀ i, i ≤ S.n → Fil fr t S (S.fillTo fr t i).1 i ∧ (S.fillTo fr t i).2.1 = (S.dueTo fr t i).map (·.1)
  | 0, _ => ⟨⟨rfl, ok, fun _ _ _ => .refl, fun _ _ => .refl, fun _ _ z => absurd z (Nat.not_lt_zero _), fun _ z => absurd z (Nat.not_lt_zero _)⟩, rfl⟩
  | i + 1, hi => by
    obtain ⟨F, e⟩ := fil_to fo ok t0 t1 i (by omega)
    have hu := up_lt fo t0 t1
    have n6 := F.n
    rw [De.fillTo_succ]
    generalize S.fillTo fr t i = B at F e n6 ⊢
    have si := F.late i (Nat.le_refl _)
    by_cases d : ∃ x, Due fr S t i x
    · obtain ⟨x, d⟩ := d
      have dB := (F.due fo t0 t1 si).mpr d
      rw [fill_due dB, dueTo_yes d, List.map_append, ← e]
      obtain ⟨k, ek⟩ := F.ok.above fo (p := i) (by omega) (by omega) dB.up
      have sn : B.1.Seen fr i t (B.1.now i (up fr t)) := ⟨fun z => by omega, fun _ => by
        obtain ⟨j, ej, v, e1, e2, e3⟩ := F.ok.seen_now ek
        exact ⟨j, by rw [ek, ej], v, e1, e2, e3⟩⟩
      have tx : TxOk x := F.ok.found fo t0 t1 ((onlyOf_some dB.one x).mpr rfl)
      have away : ∀ p' u, ¬ (p' = i ∧ u = t) → SameAt (B.1.lay i t x (B.1.now i (up fr t))) B.1 p' u := fun p' u z => lay_at F.ok z
      refine ⟨⟨F.n, F.ok.lay (by omega) t1 tx sn, fun q u h => (away q u fun z => h z.2).trans (F.oth q u h), fun q h => (away q t fun z => by omega).trans (F.late q (by omega)), fun q y hq dq => ?_, fun q hq dq => ?_⟩, rfl⟩
      · by_cases c : q = i
        · subst c
          have ey : y = x := Option.some.inj (dq.one.symm.trans d.one)
          exact ⟨fresh_laid fo F.ok t0 t1 (by omega) dB.up, by rw [ey]; exact lay_here.2.2⟩
        · obtain ⟨h1, h2⟩ := F.yes q y (by omega) dq
          exact ⟨(chain_same fo t1 fun u _ => away q u fun z => c z.1).trans h1, (away q t fun z => c z.1).tx.trans h2⟩
      · have c : q ≠ i := fun z => dq ⟨x, by rw [z]; exact d⟩
        exact (away q t fun z => c z.1).trans (F.no q (by omega) dq)
    · have dB : ¬ ∃ x, Due fr B.1 t i x := fun ⟨x, z⟩ => d ⟨x, (F.due fo t0 t1 si).mp z⟩
      rw [fill_not dB, dueTo_no d]
      refine ⟨⟨F.n, F.ok, F.oth, fun q h => F.late q (by omega), fun q y hq dq => ?_, fun q hq dq => ?_⟩, e⟩
      · by_cases c : q = i
        · exact absurd ⟨y, by rw [← c]; exact dq⟩ d
        · exact F.yes q y (by omega) dq
      · by_cases c : q = i
        · rw [c]
          exact si
        · exact F.no q (by omega) dq
/-- filled again: none -/
theorem fil_again (fo : FrOk fr) (t0 : 0 < t) (t1 : t ≤ fr.length) (F : Fil fr t S A S.n) : ∀ i, i ≤ A.n → A.fillTo fr t i = (A, [], [])
  | 0, _ => rfl
  | i + 1, hi => by
    rw [De.fillTo_succ, fil_again fo t0 t1 F i (by omega)]
    have n6 := F.n
    refine fill_not fun ⟨x, d⟩ => ?_
    rcases F.at i with ⟨c, y, dy⟩ | s
    · exact d.brk (F.yes i y c dy).1
    · have dS := (F.due fo t0 t1 s).mp d
      exact d.brk (F.yes i x (by omega) dS).1
end
end PD

/-! Phrasedesk: sorted texts, each once, are told by their members -/
namespace PD
open PySem PySem.Spec PyProof.Rows L2
def leS (a b : Str) : Prop := a.cps.toList ≤ b.cps.toList
theorem leS_of {a b : Str} (h : ltCps b.cps.toList a.cps.toList = false) : leS a b := by
  rw [ltCps_eq] at h
  exact List.not_lt.mp (of_decide_eq_false h)
theorem leS_trans {a b c : Str} (h : leS a b) (k : leS b c) : leS a c := List.le_trans h k
theorem leS_anti {a b : Str} (h : leS a b) (k : leS b a) : a = b := by
  have e : a.cps.toList = b.cps.toList := List.le_antisymm h k
  cases a
  cases b
  congr 1
  exact Array.toList_inj.mp e
theorem rising_pw : ∀ (l : List Str) (p : Str), risingS p l = true → (∀ x ∈ l, leS p x) ∧ l.Pairwise leS
  | [], _, _ => ⟨fun _ h => (nomatch h), .nil⟩
  | y :: r, p, h => by
    have h' : (!ltCps y.cps.toList p.cps.toList && risingS y r) = true := h
    rw [Bool.and_eq_true] at h'
    obtain ⟨h1, h2⟩ := h'
    obtain ⟨a, b⟩ := rising_pw r y h2
    have py : leS p y := leS_of (by simpa using h1)
    refine ⟨fun x hx => ?_, List.pairwise_cons.mpr ⟨a, b⟩⟩
    rcases List.mem_cons.mp hx with rfl | hx
    · exact py
    · exact leS_trans py (a x hx)
theorem sorted_pw : ∀ {l : List Str}, sortedS l = true → l.Pairwise leS
  | [], _ => .nil
  | x :: r, h => List.pairwise_cons.mpr (rising_pw r x h)
theorem sorted_one : ∀ {l m : List Str}, l.Pairwise leS → m.Pairwise leS → l.Nodup → m.Nodup → (∀ y, y ∈ l ↔ y ∈ m) → l = m
  | [], [], _, _, _, _, _ => rfl
  | [], b :: m, _, _, _, _, h => absurd ((h b).mpr List.mem_cons_self) (fun z => nomatch z)
  | a :: l, [], _, _, _, _, h => absurd ((h a).mp List.mem_cons_self) (fun z => nomatch z)
  | a :: l, b :: m, p, q, n, k, h => by
    obtain ⟨p1, p2⟩ := List.pairwise_cons.mp p
    obtain ⟨q1, q2⟩ := List.pairwise_cons.mp q
    obtain ⟨n1, n2⟩ := List.nodup_cons.mp n
    obtain ⟨k1, k2⟩ := List.nodup_cons.mp k
    have e : a = b := by
      rcases List.mem_cons.mp ((h a).mp List.mem_cons_self) with z | z
      · exact z
      · rcases List.mem_cons.mp ((h b).mpr List.mem_cons_self) with w | w
        · exact w.symm
        · exact leS_anti (p1 b w) (q1 a z)
    subst e
    rw [sorted_one p2 q2 n2 k2 fun y => ⟨fun hy => ?_, fun hy => ?_⟩]
    · rcases List.mem_cons.mp ((h y).mp (List.mem_cons_of_mem _ hy)) with z | z
      · exact absurd (z ▸ hy) n1
      · exact z
    · rcases List.mem_cons.mp ((h y).mpr (List.mem_cons_of_mem _ hy)) with z | z
      · exact absurd (z ▸ hy) k1
      · exact z
theorem sorted_same {l m : List Str} (s1 : sortedS l = true) (s2 : sortedS m = true) (n1 : l.Nodup) (n2 : m.Nodup) (h : ∀ y, y ∈ l ↔ y ∈ m) : l = m := sorted_one (sorted_pw s1) (sorted_pw s2) n1 n2 h
/-- texts as data -/
def dSs (ts : List Str) : PyData := .list (ts.map .str)
section
variable {K : PySem.W.Frag} {H : Hp}
theorem dpa_strs : ∀ ts : List Str, DpAll K H (ts.map V.str) (ts.map PyData.str)
  | [] => .nil
  | x :: r => .cons (.str x) (dpa_strs r)
theorem dp_strs {a : Addr} {ts : List Str} (h : H a = some (.lst (ts.map V.str))) : Dp K H (.ref a) (dSs ts) := .lst (SqL.of h) (dpa_strs ts)
end
theorem lay_strs : ∀ {ts : List Str}, (∀ x ∈ ts, PyData.strOk x = true) → PyData.canLayAll0 (ts.map PyData.str) = true
  | [], _ => rfl
  | x :: r, h => by
    rw [List.map_cons]
    simp only [PyData.canLayAll0, PyData.canLay0, h x List.mem_cons_self, Bool.true_and]
    exact lay_strs fun y hy => h y (List.mem_cons_of_mem _ hy)
theorem depth_strs : ∀ ts : List Str, PyData.depthAll (ts.map PyData.str) = 0
  | [] => rfl
  | x :: r => by
    rw [List.map_cons]
    simp only [PyData.depthAll, PyData.depth, depth_strs r, Nat.max_self]
theorem shaped_dSs {ts : List Str} (h : ∀ x ∈ ts, PyData.strOk x = true) : SeqAt.shaped (dSs ts) = true := by
  unfold SeqAt.shaped dSs
  simp only [PyData.canLay0, PyData.depth, lay_strs h, depth_strs]
  rfl
end PD

/-! Phrasedesk: loops over few things, turn by turn -/
namespace PD
open PySem PySem.Spec PyProof.Rows L2
def runF (g : TG) (tb : TS) (D : Ends) (G : Hp → Prop) : List V → L2.St → Hp → Prop
  | [] => fun σ H => G H ∧ D.nx σ H
  | x :: r => fun σ H => G H ∧ g x σ H fun σ2 H2 => tb { D with nx := runF g tb D G r, ct := runF g tb D G r, bk := D.nx } σ2 H2
def runL (g : TG) (tt : TT) (te : TE) (vs : List Nat) (σ : L2.St) (D : Addr) (Qd G : Hp → Prop) : List V → Hp → Prop
  | [] => fun H => G H ∧ Qd H
  | x :: r => fun H => G H ∧ g x (wipe σ vs) H fun σ2 H2 => wipe σ2 vs = wipe σ vs ∧ tt σ2 H2 fun b H3 =>
      if b = true then te σ2 H3 fun y H4 => ∃ acc, H4 D = some (.lst acc) ∧ acc.length < sizeLine ∧ runL g tt te vs σ D Qd G r (upd H4 D (.lst (acc ++ [y]))) else runL g tt te vs σ D Qd G r H3
section
variable {J : It} {xs : List V} {G : Hp → Prop} {g : TG} {tb : TS} {tt : TT} {te : TE} {vs : List Nat} {D : Ends} {σ : L2.St} {H : Hp} {A : Addr} {Qd : Hp → Prop}
theorem runF_G : ∀ (l : List V) (σ : L2.St) (H : Hp), runF g tb D G l σ H → G H
  | [], _, _, h => h.1
  | _ :: _, _, _, h => h.1
theorem runL_G : ∀ (l : List V) (H : Hp), runL g tt te vs σ A Qd G l H → G H
  | [], _, h => h.1
  | _ :: _, _, h => h.1
theorem drop_atU {i : Nat} {x : V} (h : xs[i]? = some x) : xs.drop i = x :: xs.drop (i + 1) := by
  obtain ⟨hi, e⟩ := List.getElem?_eq_some_iff.mp h
  rw [List.drop_eq_getElem_cons hi, e]
theorem for_un (w : Walk J xs.length G (YAt xs)) (h : runF g tb D G xs σ H) :
    ∃ W : Nat → Nat → L2.St → Hp → Prop, (∃ m, W 0 m σ H) ∧ ∀ i m σ H, W i m σ H →
      (J.stop i H ∧ D.nx σ H) ∨ (J.go i H ∧ ∃ N : L2.St → Hp → Prop, (∀ σ' H', N σ' H' → ∃ m', m' < m ∧ W (i + 1) m' σ' H') ∧ ∀ x H', J.yld i H x H' → g x σ H' fun σ2 H2 => tb { D with nx := N, ct := N, bk := D.nx } σ2 H2) := by
  refine for_it w (fun i σ H => runF g tb D G (xs.drop i) σ H) h (fun i σ H _ q => runF_G _ _ _ q) (fun i x σ H H' hi q y => ?_) (fun σ H q => ?_)
  · obtain ⟨rfl, e⟩ := y
    rw [drop_atU e] at q
    exact q.2
  · rw [List.drop_length] at q
    exact q.2
theorem lc_un (w : Walk J xs.length G (YAt xs)) {H1 : Hp} (h : runL g tt te vs σ A Qd G xs (upd H1 A (.lst []))) :
    ∃ W : Nat → Nat → Hp → Prop, (∃ m, W 0 m (upd H1 A (.lst []))) ∧ ∀ i m H, W i m H →
      (J.stop i H ∧ Qd H) ∨ (J.go i H ∧ ∃ Nx : Hp → Prop, (∀ H', Nx H' → ∃ m', m' < m ∧ W (i + 1) m' H') ∧ ∀ x H', J.yld i H x H' → g x (wipe σ vs) H' fun σ2 H2 => wipe σ2 vs = wipe σ vs ∧ tt σ2 H2 fun b H3 =>
        if b = true then te σ2 H3 fun y H4 => ∃ acc, H4 A = some (.lst acc) ∧ acc.length < sizeLine ∧ Nx (upd H4 A (.lst (acc ++ [y]))) else Nx H3) := by
  refine lc_it w (fun i H => runL g tt te vs σ A Qd G (xs.drop i) H) h (fun i H _ q => runL_G _ _ q) (fun i x H H' hi q y => ?_) (fun H q => ?_)
  · obtain ⟨rfl, e⟩ := y
    rw [drop_atU e] at q
    exact q.2
  · rw [List.drop_length] at q
    exact q.2
end
/-- the numbers of a range -/
def rngV (lo : Int) (n : Nat) : List V := (List.range n).map fun i => V.int (lo + (i : Nat))
theorem walk_rng {lo : Int} {n : Nat} : Walk (Itr lo n) (rngV lo n).length (fun _ => True) (YAt (rngV lo n)) := by
  have e : (rngV lo n).length = n := by unfold rngV; rw [List.length_map, List.length_range]
  refine ⟨fun i H hi h => walk_range.goes i H (by omega) h, fun H h => by rw [e]; exact walk_range.stops H h, fun i H x H' hi h y => ?_⟩
  obtain ⟨e1, e2⟩ := walk_range.yields i H x H' (by omega) h y
  refine ⟨e1, ?_⟩
  unfold rngV
  rw [List.getElem?_map, List.getElem?_range (by omega), e2]
  rfl
end PD

/-! Phrasedesk: methods that raise, and lambdas that let it out -/
namespace PD
open PySem PySem.Spec PyProof.Rows L2
/-- a method that may raise -/
structure MetX (P : Program) (w : World) (K : PySem.W.Frag) (mg : Str → Option Value) (base : Heap) (k : Nat) (C : Addr) (m : Str) (sp : Sp) : Prop where
  ex : ∃ (f : Addr) (fd : FuncData) (ps : List Str), Cls K C ∧ Meth K C m f ∧ FnOk P w K mg base (L2.CX P w) k f fd ps sp ∧ Binds K fd ps []
section
variable {P : Program} {w : World} {K : PySem.W.Frag} {mg : Str → Option Value} {base : Heap} {x qual : Str} {st : Stmt} {f : Addr} {N ps : List Str} {k : Nat} {sp : Sp}
abbrev BodyX (P : Program) (w : World) (K : PySem.W.Frag) (mg : Str → Option Value) (base : Heap) (qual : Str) (st : Stmt) (f : Addr) (N : List Str) (k : Nat) (sp : Sp) : Prop :=
  ∀ (cdv : Value) (A : Around) (outer : List Env) (s : Shared) (H : Hp) (vs : List V) (Q : VK) (E : XK), Room k (A.deeper (envOfC qual (defScope st) s.heap.objs.size f cdv)) → sp vs H Q E →
    ∃ t, PSs (cxOf (L2.CX P w) P w K mg base N qual (defScope st) f cdv A outer s H E) (defBody st) t ∧ t { nx := fun _ H' => Q .non H', rt := Q } (start N vs) H
theorem metX {C : Addr} {m : Str} (F : ∃ fd, FunD K m qual (defArgs st) (defBody st) (defScope st) [] [] f fd) (c : Cls K C) (hm : Meth K C m f) (hb : BindOk m qual st ps) (S : FnScope N ps (defScope st)) (len : ∀ vs H Q E, sp vs H Q E → vs.length = ps.length)
    (b : BodyX P w K mg base qual st f N k sp) : MetX P w K mg base (k + 1) C m sp := by
  obtain ⟨fd, F⟩ := F
  exact ⟨f, fd, ps, c, hm, F.ok S len b, F.bindsN hb⟩
end
section
variable {X : Cx} {k j : Nat} {C : Addr} {x m : Str} {sp : Sp} {E : XK} {p pos apos : Pos} {e o : Expr} {es : List Expr} {ta : TE} {t : TA}
/-- o.m(e, ..), what it raises goes out -/
theorem pe_mtX {pl : Sem Bool} (c : MetX X.prog X.w X.K X.mg X.base k C m sp) (hr : Room j X.A) (hk : k ≤ j) (tk : Takes X (fun cls d _ H => E cls d H)) (he : PE X o ta) (ha : L2.PA X (e :: es) t)
    (hst : starEach (e :: es) X.env = (false, eval e X.env) :: starEach es X.env := by rfl) (hpl : (backTo pos (starEach es X.env)).any (·.1) = false := by rfl)
    (ht : eval (.Call (.Attribute o m apos) (e :: es) [] pos) X.env = (do
      let ov ← eval o X.env
      standAt apos.atName
      let (f, first) ← holding [ov] (getMethod ov m pl)
      callWith pos f first (backTo pos (starEach (e :: es) X.env)) (backToKw pos (keywordEach [] X.env))) := by rfl) :
    PE X (.Call (.Attribute o m apos) (e :: es) [] pos) (tMeth C m sp [] E ta t) := by
  obtain ⟨f, fd, ps, hc, hm, F, b⟩ := c.ex
  exact pe_meth (pl := pl) he hc hm F (hr.mono hk) b .nil (passes_call tk fun _ _ _ _ h => h) ha hst hpl ht
/-- raise C('m') of an own class -/
theorem ps_own {C : Addr} {c msg : Str} {i : Nat} {q1 q2 q3 q4 : Pos} (fx : PySem.W.excIn X.K C He.veBase "ValueError.__new__" = true ∧ PySem.W.keepIn X.K (.ref C) = true ∧ PySem.W.subIn X.K (.ref C) (.type "BaseException") = some true ∧ PySem.W.typeIn X.K (.ref C) = some (.type "type"))
    (gC : X.mg c = some (.ref C)) (hc : X.calm = true) (tk : Takes X (fun cls d _ H => E cls d H)) (hg : Gl X c) (hdb : (c == ("__debug__" : Str)) = false := by decide) :
    PS X (.Raise (some (.Call (.Name c q1) [.Constant (.str msg) i q2] [] q3)) none q4) (fun _ σ H => E (.ref C) none H) :=
  ps_raise hc tk (pmk_own PySem.F.excBase_ValueError fx.1 gC fx.2.1 (raises_own fx.2.2.1 fx.2.2.2) hg hdb)
end
/-! ### the law itself makes lambdas -/
section
variable {P : Program} {w : World} {K : PySem.W.Frag} {mg : Str → Option Value} {base : Heap}
theorem okGT {x : Str} {params : Arguments} {body : List Stmt} {scope : Scope} {dvs : List V} {kws : List (Str × V)} {fd : FuncData} {N ps : List Str} {lv : Nat} {sp : Sp}
    (F : FunD K x x params body scope dvs kws (He.ga K x) fd) (S : FnScope N ps scope) (len : ∀ xs G Q E, sp xs G Q E → xs.length = ps.length)
    (bd : ∀ (B : Around) (fr : List Env) (z : Shared) (G : Hp) (xs : List V) (Q : VK) (E : XK), (B.deeper (envOfC x scope z.heap.objs.size (He.ga K x) (.ref (He.codeOf K (x, none))))).guards = some [] →
      Room lv (B.deeper (envOfC x scope z.heap.objs.size (He.ga K x) (.ref (He.codeOf K (x, none))))) → sp xs G Q E →
      ∃ t, PSs (cxOf CX0 P w K mg base N x scope (He.ga K x) (.ref (He.codeOf K (x, none))) B fr z G E).nox body t ∧ t { nx := fun _ G' => Q .non G', rt := Q } (start N xs) G) :
    FnG P w K mg base (lv + 1) (He.ga K x) fd ps sp := by
  obtain ⟨oc, od, dV, kV, doc, pm, an, cv, ct, sl, rfl, lk, hc, -, -⟩ := F.ex
  obtain ⟨c, rfl⟩ := He.codeIn_ref hc
  have ec : He.codeOf K (x, none) = c := He.codeOf_eq lk rfl
  rw [ec] at bd
  constructor
  · exact len
  · intro B fr z G ar us xs Q E hg hr e0 hb hv hs
    have hl := len xs G Q E hs
    have st : ∀ b o, base.get? b = some o → z.heap.get? b = some o := fun b o e => (e0.bs b o e).1
    have KZ : K.In z.heap := e0.mod.kin.keeps st
    have kinds : ∀ y ∈ ps.zip us, scope.names.lookup y.1 = some .local ∨
        (scope.names.lookup y.1 = some .cell ∧ ((cellsFrom (z.heap.objs.size + 1) scope.names []).lookup y.1).isSome = true) := by
      rintro ⟨n, v⟩ hy
      cases S.par n (List.of_mem_zip hy).1 with
      | inl q => exact .inl q
      | inr q => exact .inr ⟨q, PySem.W.cellsFrom_some _ _ _ (.inl q)⟩
    refine codeAny_call_function hr.depth (KZ _ _ lk) rfl S.co S.gen rfl (PySem.W.codeRec_of KZ hc) (hb _ _ _ _ ?_)
    refine wpAny_newFunctionEnv_cells S.kind kinds ?_
    intro env ee z1 ic
    cases ee
    refine ⟨(e0.mod.nolimit.keeps st).keeps ic.toInCall.keep, codeAny_func ?_⟩
    obtain ⟨t, ht, q⟩ := bd B fr z G xs Q E hg (hr.deeper _) hs
    have I : Inv (cxOf CX0 P w K mg base N x scope (He.ga K x) (.ref c) B fr z G E) [] (start N xs) G z1 := inv_start S hr.hd e0 hl hv ic
    refine wpAny_mono (ht.nox.run [] z1 (start N xs) G _ I q) ?_ fun e z2 h2 => h2
    intro fl z2 h2
    cases fl with
    | ret u =>
      obtain ⟨v, σ', G', J, rv, q2⟩ := h2
      exact ⟨v, G', J.os, J.bare, J.base, J.hok, rv, q2⟩
    | next =>
      obtain ⟨σ', G', J, q2⟩ := h2
      exact ⟨V.non, G', J.os, J.bare, J.base, J.hok, rfl, q2⟩
    | brk => exact h2.elim fun _ h3 => h3.elim fun _ h4 => False.elim h4.2
    | cont => exact h2.elim fun _ h3 => h3.elim fun _ h4 => False.elim h4.2
end
/-! ### try: a() / except x: return .. / except y: return .. -/
def TTried (K : PySem.W.Frag) (C1 : Addr) (r1 : Str) (C2 : Addr) (r2 : Str) : (XK → Hp → VK → Prop) → Hp → VK → Prop := fun tl H Q =>
  tl (fun cls _ H' => ∃ b, PySem.W.exmOne K cls (.ref C1) = some b ∧ (b = true → Q (.str r1) H') ∧ (b = false → ∃ b', PySem.W.exmOne K cls (.ref C2) = some b' ∧ (b' = true → Q (.str r2) H') ∧ (b' = false → False))) H fun _ H' => Q .non H'
section
variable {X : Cx}
theorem tried_gives {Ng : List Str} {x a e1 e2 q r1 r2 : Str} {sg : Scope} {g C1 C2 : Addr} {cdg : Value} {j1 j2 j3 : Nat} {p1 p2 p3 p4 p5 p6 p7 p8 p9 p10 p11 p12 p13 p14 : Pos} (hg1 : sg.names.lookup e1 = some .globalImplicit) (hm1 : X.mg e1 = some (.ref C1)) (hd1 : (e1 == ("__debug__" : Str)) = false)
    (hg2 : sg.names.lookup e2 = some .globalImplicit) (hm2 : X.mg e2 = some (.ref C2)) (hd2 : (e2 == ("__debug__" : Str)) = false) (h0 : ∀ f : Addr, (L2.start Ng [V.ref f])[0]? = some (some (V.ref f))) :
    LamX.GivesTo X Ng x sg g cdg [.Try [.Expr (.Call (.Name a p1) [] [] p2) p3] [.ExceptHandler (some (.Name e1 p4)) none [.Return (some (.Constant (.str r1) j1 p5)) p6] p7, .ExceptHandler (some (.Name e2 p8)) none [.Return (some (.Constant (.str r2) j2 p9)) p10] p11] [] [] p12, .Return (some (.Constant .none j3 p13)) p14] a q (TTried X.K C1 r1 C2 r2) := by
  intro f c' s H Q tl act hc h
  have gl1 : Gl (cxOf C8.CX0 X.prog X.w X.K X.mg X.base Ng x sg g cdg X.A X.stack s H C8.E0).nox e1 := hg1
  have gl2 : Gl (cxOf C8.CX0 X.prog X.w X.K X.mg X.base Ng x sg g cdg X.A X.stack s H C8.E0).nox e2 := hg2
  refine ⟨_, pss_cons (ps_try_many (X := (cxOf C8.CX0 X.prog X.w X.K X.mg X.base Ng x sg g cdg X.A X.stack s H C8.E0).nox)
      (tb := fun W D σ H => ∃ Ech : XK, (∀ cls d σ' H', Ech cls d H' → W cls d σ' H') ∧ σ[0]? = some (some (.ref f)) ∧ H c' = some (LamX.CodeO c' q) ∧ tl Ech H fun _ H1 => D.nx σ H1)
      rfl rfl takes_none5 (fun W pn xe tk _ => ?_) (.cons ⟨gl1, hd1, .inl hm1⟩ (fun a oe cls d pn _ _ => pss_one (ps_ret pe_str)) (.cons ⟨gl2, hd2, .inl hm2⟩ (fun a oe cls d pn _ _ => pss_one (ps_ret pe_str)) .nil))) (pss_one (ps_ret pe_non)), ?_⟩
  · refine ⟨fun pins s' σ H' D I h' => ?_⟩
    obtain ⟨Ech, hW, h1, h2, h3⟩ := h'
    have hp := act W pn xe Ech p1 p2 tk hW
    have hq := pss_one (ps_expr (pos := p3) hp)
    exact hq.run pins s' σ H' D I ⟨h1, h2, h3⟩
  · refine ⟨_, fun cls d σ' H' z => ?_, h0 f, hc, h⟩
    obtain ⟨b, e1, e2, e3⟩ := z
    refine ⟨b, e1, fun hb a _ => e2 hb, fun hb => ?_⟩
    obtain ⟨b', e4, e5, e6⟩ := e3 hb
    exact ⟨b', e4, fun hb a _ => e5 hb, fun hb => e6 hb⟩
/-- x(lambda: body), x a def of the text -/
theorem pe_lamdef {T : List (Addr × Str)} {TT : (XK → Hp → VK → Prop) → Hp → VK → Prop} {x a : Str} {g c Pt_ : Addr} {k : Nat} {st : Stmt} {Ng : List Str} {params : Arguments} {body : Expr} {scope : Scope} {t : XK → TE} {p lpos pos : Pos}
    (F : ∃ fd, FunD X.K x x (defArgs st) (defBody st) (defScope st) [] [] g fd) (hm : X.mg x = some (.ref g)) (hg : Gl X x) (hb : BindOk x x st [a]) (Sg : FnScope Ng [a] (defScope st)) (hNg : Ng[0]? = some a) (hva : Vis (defScope st) a)
    (hG : ∀ cdv : Value, LamX.GivesTo X Ng x (defScope st) g cdv (defBody st) a (X.env.qual ++ "<lambda>") TT)
    (TB : LamX.TabB X.base X.mg c Pt_) (hcode : X.env.code = .ref c) (hmT : (Pt_, X.env.qual ++ "<lambda>") ∈ T) (hu : ∀ p ∈ T, p.1 = Pt_ → p.2 = X.env.qual ++ "<lambda>") (hr : Room (k + 2) X.A) (L : LamX.LamS X.env.scope scope) (hdef : defaultsOf params X.env = ([], []))
    (hbind : ∀ (q : Str) (cl : List (Str × Addr)) (pm cv ctv : Value), bindArgs (PySem.W.kla_fn "<lambda>" q params body scope cl pm cv ctv) ⟨[], []⟩ = pure [])
    (hbody : ∀ (A : Around) (outer : List Env) (s : Shared) (H : Hp) (E : XK) (f c' : Addr), Room k (A.deeper (LamX.lamEnv X scope s.heap.objs.size f c')) → PE (LamX.lamCx X A outer s H E scope f c') body (t E))
    (hdb : (x == ("__debug__" : Str)) = false := by decide) (hd : (a == ("__debug__" : Str)) = false := by decide) (hcd : (a == ("__classdict__" : Str)) = false := by decide) :
    PE X (.Call (.Name x p) [.Lambda params body scope lpos] [] pos) (LamX.tLam T TT t) := by
  obtain ⟨fd, F⟩ := F
  have hk := F.kp
  have hbn := F.bindsN hb
  obtain ⟨oc, od, dV, kV, doc, pm, an, cv, ct, sl, rfl, lk, hc, -, -⟩ := F.ex
  exact LamX.pe_lamcall hg hm hk lk hc hbn Sg hNg hva (hG cv) TB hcode hmT hu hr L hdef hbind hbody hdb hd hcd
end
end PD

/-! Phrasedesk: lambdas of one parameter as things: made, kept in lists, handed on, called elsewhere -/
namespace PD
open PySem PySem.Spec PyProof.Rows L2 LamX NdefX
/-- the words of a lambda -/
structure LF where
  qual : Str
  params : Arguments
  body : Expr
  scope : Scope
  cl : List (Str × Addr)
  c : Addr
abbrev LF.nf (F : LF) : NF := ⟨"<lambda>", F.qual, F.params, [], F.scope, F.cl, F.c⟩
/-- it stands at f -/
def LmO (f : Addr) (F : LF) : HO := .ext fun h => ∃ pm ctv : Value, h.get? f = some (PySem.W.kla_obj "<lambda>" F.qual F.params F.body F.scope F.cl pm F.c ctv)
theorem lmO_ne {f : Addr} {F : LF} (ps : Array Value) : LmO f F ≠ .tbl ps := fun z => by
  unfold LmO at z
  cases z
def mkLF (X : Cx) (params : Arguments) (body : Expr) (scope : Scope) (c : Addr) : LF := ⟨X.env.qual ++ "<lambda>", params, body, scope, cloFrom X.env.cells scope.names [], c⟩
/-- a lambda is made -/
def tLm (T : List (Addr × Str)) (mk : Addr → LF) : TE := fun σ H Q => Tabs T H ∧ ∀ (f c : Addr) (H1 : Hp), ExtN H H1 → Tabs T H1 → H f = none → H1 f = some (LmO f (mk c)) → H1 c = some (CodeO c (mk c).qual) → Q (.ref f) H1
section
variable {X : Cx} {T : List (Addr × Str)} {c P : Addr} {params : Arguments} {body : Expr} {scope : Scope} {pos : Pos}
theorem lay_lm {pins : List (Addr × Obj)} {σ : L2.St} {H : Hp} {z : Shared} {F : LF} {pm ctv : Value} {tk : Nat} (I : Inv X pins σ H z) :
    Inv X pins σ (upd H z.heap.objs.size (LmO z.heap.objs.size F)) { z with heap := z.heap.push (PySem.W.kla_obj "<lambda>" F.qual F.params F.body F.scope F.cl pm F.c ctv), toks := tk } := by
  refine I.laid (fun b o e => Heap.get?_push_of_some _ e) (Nat.le_refl _) ?_
  have at1 := Heap.get?_push_size z.heap (o := PySem.W.kla_obj "<lambda>" F.qual F.params F.body F.scope F.cl pm F.c ctv) rfl
  exact ⟨⟨pm, ctv, at1⟩, ⟨_, at1⟩, fun g1 g2 ⟨p, q, e⟩ st => ⟨p, q, st _ e⟩⟩
theorem tabs_up {H : Hp} {f : Addr} {o : HO} (t : Tabs T H) (n : H f = none) : Tabs T (upd H f o) := t.ext fun b u e => by
  rw [upd_ne (ne_of_none e n)]
  exact e
theorem pe_lam (TB : TabB X.base X.mg c P) (hcode : X.env.code = .ref c) (hm : (P, X.env.qual ++ "<lambda>") ∈ T) (hu : ∀ p ∈ T, p.1 = P → p.2 = X.env.qual ++ "<lambda>") (hdef : defaultsOf params X.env = ([], []))
    (hfree : ∀ y ∈ scope.names, y.2 = .free → X.env.scope.names.lookup y.1 = some .cell ∨ X.env.scope.names.lookup y.1 = some .free) : PE X (.Lambda params body scope pos) (tLm T (mkLF X params body scope)) := by
  constructor
  intro pins z σ G Q I h
  obtain ⟨tabs, h⟩ := h
  obtain ⟨ps, atP, tr, among⟩ := tabs _ hm
  have caps : ∀ y ∈ scope.names, y.2 = .free → ∃ a, X.env.cells.lookup y.1 = some a := fun y hy e => (hfree y hy e).elim (fun t => I.ok.has _ (.inl t)) fun t => I.ok.has _ (.inr t)
  have bP : z.heap.BuiltinsAt X.mg P := TB.bm.keeps I.bk
  have oP : z.heap.get? P = some { cls := .none, data := .fields ps } := I.hok P _ atP
  refine PySem.W.kla_eval hdef ?_
  cases fnd : codeAmong pos ps.toList with
  | some cv =>
    obtain ⟨d, rfl, atd⟩ := among pos cv fnd
    refine PySem.W.kla_makeFunctionHit (mg := X.mg) (c := c) (P := P) (ps := ps) (closure_ok caps) I.ok.glob (I.mod.glob.keeps I.bk) hcode (TB.code.keeps I.bk) oP tr fnd bP ?_
    intro ctv g tk kp sz
    have J : Inv X pins σ G { z with heap := g, toks := tk } := I.kept kp
    have nf : G g.objs.size = none := J.hok.fresh (Nat.le_refl _)
    have J2 := lay_lm (F := mkLF X params body scope d) (pm := (X.mg "__name__").getD .none) (ctv := ctv) (tk := tk) J
    refine ⟨.ref g.objs.size, _, J2, rfl, h _ d _ (ExtN.of (same_upd nf)) (tabs_up tabs nf) nf upd_same ?_⟩
    rw [upd_ne (ne_of_none atd nf)]
    exact atd
  | none =>
    refine PySem.W.kla_makeFunction (mg := X.mg) (c := c) (P := P) (ps := ps) (closure_ok caps) I.ok.glob (I.mod.glob.keeps I.bk) hcode (TB.code.keeps I.bk) oP tr fnd TB.gP bP ?_
    intro d ctv g tk kp lo hi rec nt
    obtain ⟨d2, od, vs, t, e2, hod, hdt, hv⟩ := rec
    cases e2
    have nd : G d = none := I.hok.fresh lo
    have nPd : P ≠ d := ne_of_none atP nd
    have J := inv_table (t' := tk) (more := #[rawInt pos.line, rawInt pos.col, .ref d]) (q := X.env.qual ++ "<lambda>") I atP kp nt lo ⟨od, vs, t, hod, hdt, hv⟩
    have ex1 : ExtN G (upd (upd G P (.tbl (ps ++ #[rawInt pos.line, rawInt pos.col, .ref d]))) d (CodeO d (X.env.qual ++ "<lambda>"))) := by
      intro b o e n
      rw [upd_ne (ne_of_none e nd), upd_ne]
      · exact e
      · rintro rfl
        rw [atP] at e
        exact n ps (Option.some.inj e).symm
    have tabs1 : Tabs T (upd (upd G P (.tbl (ps ++ #[rawInt pos.line, rawInt pos.col, .ref d]))) d (CodeO d (X.env.qual ++ "<lambda>"))) := by
      intro p hp
      have el : (ps ++ #[rawInt pos.line, rawInt pos.col, .ref d]).toList = ps.toList ++ [rawInt pos.line, rawInt pos.col, .ref d] := by simp
      by_cases hb : p.1 = P
      · rw [hu p hp hb, hb]
        refine ⟨_, (upd_ne nPd).trans upd_same, ?_, ?_⟩
        · rw [el]
          exact PySem.TriplesOk_snoc _ _ _ _ tr
        · intro p2 cv hcv
          rw [el] at hcv
          rcases among_app _ tr hcv with w | w
          · obtain ⟨d0, a1, a2⟩ := among p2 cv w
            exact ⟨d0, a1, ex1 _ _ a2 codeO_ne⟩
          · exact ⟨d, w, upd_same⟩
      · obtain ⟨qs, a1, a2, a3⟩ := tabs p hp
        refine ⟨qs, ?_, a2, ?_⟩
        · rw [upd_ne (ne_of_none a1 nd), upd_ne hb]
          exact a1
        · intro p2 cv hcv
          obtain ⟨d0, b1, b2⟩ := a3 p2 cv hcv
          exact ⟨d0, b1, ex1 _ _ b2 codeO_ne⟩
    have nf := J.hok.fresh (Nat.le_refl _)
    have J2 := lay_lm (F := mkLF X params body scope d) (pm := (X.mg "__name__").getD .none) (ctv := ctv) (tk := tk) J
    have nG : G g.objs.size = none := I.hok.fresh (Nat.le_trans lo (Nat.le_of_lt hi))
    refine ⟨.ref g.objs.size, _, J2, rfl, h _ d _ (ex1.trans (ExtN.of (same_upd nf))) (tabs_up tabs1 nf) nG upd_same ?_⟩
    rw [upd_ne (Nat.ne_of_lt hi)]
    exact upd_same
end
/-! ### the cells of a running def, shown while a def is called that may call its lambdas -/
def CelO (c : Addr) (o : Obj) (v : V) : HO := .ext fun h => h.get? c = some o ∧ ∃ u, o.data = .cell (some u) ∧ RelV v u
abbrev Zs := List (Addr × Obj × V)
def showL : Zs → Hp → Hp
  | [], H => H
  | z :: r, H => upd (showL r H) z.1 (CelO z.1 z.2.1 z.2.2)
def hidL (as : List Addr) (H : Hp) : Hp := fun b => if b ∈ as then none else H b
def Shown (zs : Zs) (H : Hp) : Prop := ∀ z ∈ zs, H z.1 = some (CelO z.1 z.2.1 z.2.2)
abbrev adrs (zs : Zs) : List Addr := zs.map (·.1)
section
variable {P : Program} {w : World} {H H' : Hp} {h h' : Heap} {zs : Zs}
theorem showL_ne {b : Addr} : ∀ {zs : Zs}, b ∉ adrs zs → showL zs H b = H b
  | [], _ => rfl
  | z :: r, n => by
    have n1 : b ≠ z.1 := fun e => n (by rw [e]; exact List.mem_cons_self)
    have n2 : b ∉ adrs r := fun e => n (List.mem_cons_of_mem _ e)
    exact (upd_ne n1).trans (showL_ne n2)
theorem showL_at : ∀ {zs : Zs}, (adrs zs).Nodup → Shown zs (showL zs H)
  | [], _, z, hz => absurd hz (by simp)
  | y :: r, nd, z, hz => by
    have nd' := List.nodup_cons.mp nd
    rcases List.mem_cons.mp hz with e | hz
    · rw [e]
      exact upd_same
    · have n1 : z.1 ≠ y.1 := fun e => nd'.1 (List.mem_map.mpr ⟨z, hz, e⟩)
      exact (upd_ne n1).trans (showL_at nd'.2 z hz)
theorem hidL_in {as : List Addr} {b : Addr} (n : b ∈ as) : hidL as H b = none := if_pos n
theorem hidL_ne {as : List Addr} {b : Addr} (n : b ∉ as) : hidL as H b = H b := if_neg n
theorem hidL_some {as : List Addr} {b : Addr} {o : HO} (e : hidL as H b = some o) : H b = some o ∧ b ∉ as := by
  by_cases n : b ∈ as
  · rw [hidL_in n] at e
    cases e
  · rw [hidL_ne n] at e
    exact ⟨e, n⟩
theorem hid_show (n : ∀ a ∈ adrs zs, H a = none) : hidL (adrs zs) (showL zs H) = H := by
  funext b
  by_cases m : b ∈ adrs zs
  · rw [hidL_in m, n b m]
  · rw [hidL_ne m, showL_ne m]
theorem show_hid (nd : (adrs zs).Nodup) (s : Shown zs H) : showL zs (hidL (adrs zs) H) = H := by
  funext b
  by_cases m : b ∈ adrs zs
  · obtain ⟨z, hz, rfl⟩ := List.mem_map.mp m
    rw [showL_at nd z hz, s z hz]
  · rw [showL_ne m, hidL_ne m]
theorem cel_obj (ok : HOk P w H h) {z : Addr × Obj × V} (e : H z.1 = some (CelO z.1 z.2.1 z.2.2)) : h.get? z.1 = some z.2.1 ∧ ∃ u, z.2.1.data = .cell (some u) ∧ RelV z.2.2 u := (ok _ _ e).1
theorem hid_ok {as : List Addr} (ok : HOk P w H h) (ext : ∀ a ∈ as, ∀ o, H a = some o → ∃ φ, o = .ext φ) : HOk P w (hidL as H) h := fun a o e => by
  obtain ⟨e1, n⟩ := hidL_some e
  refine (ok a o e1).stay (fun b u _ q => q) (fun b q => ?_) fun b xs q => ?_
  · by_cases m : b ∈ as
    · obtain ⟨φ, z⟩ := ext b m _ q
      cases z
    · rw [hidL_ne m]
      exact q
  · by_cases m : b ∈ as
    · obtain ⟨φ, z⟩ := ext b m _ q
      cases z
    · rw [hidL_ne m]
      exact q
theorem show_ok1 {c : Addr} {o : Obj} {v : V} (ok : HOk P w H h) (n : H c = none) (hc : h.get? c = some o) (hv : ∃ u, o.data = .cell (some u) ∧ RelV v u) : HOk P w (upd H c (CelO c o v)) h := fun b u e => by
  by_cases m : b = c
  · rw [m] at e ⊢
    rw [upd_same] at e
    cases e
    exact ⟨⟨hc, hv⟩, ⟨_, hc⟩, fun h1 h2 ⟨p, q⟩ st => ⟨st _ p, q⟩⟩
  · rw [upd_ne m] at e
    exact (ok b u e).stay (fun b u _ q => q) (fun d q => by rw [upd_ne (ne_of_none q n)]; exact q) fun d xs q => by rw [upd_ne (ne_of_none q n)]; exact q
theorem show_ok : ∀ {zs : Zs}, HOk P w H h → (adrs zs).Nodup → (∀ a ∈ adrs zs, H a = none) → (∀ z ∈ zs, h.get? z.1 = some z.2.1 ∧ ∃ u, z.2.1.data = .cell (some u) ∧ RelV z.2.2 u) → HOk P w (showL zs H) h
  | [], ok, _, _, _ => ok
  | z :: r, ok, nd, n, hz => by
    have nd' := List.nodup_cons.mp nd
    have i := show_ok (zs := r) ok nd'.2 (fun a ha => n a (List.mem_cons_of_mem _ ha)) fun y hy => hz y (List.mem_cons_of_mem _ hy)
    refine show_ok1 i ?_ (hz z List.mem_cons_self).1 (hz z List.mem_cons_self).2
    rw [showL_ne nd'.1]
    exact n z.1 List.mem_cons_self
/-- from what runs with the cells shown to what runs without -/
theorem un_hid {fs : List Addr} (nd : (adrs zs).Nodup) (n : ∀ a ∈ adrs zs, H a = none) (ok : HOk P w (showL zs H) h) (ok' : HOk P w H' h') (s' : Shown zs H') (u : Un fs [] (showL zs H) H' h h') : Un fs [] H (hidL (adrs zs) H') h h' := by
  have at0 : ∀ z ∈ zs, h.get? z.1 = some z.2.1 := fun z hz => (cel_obj ok (showL_at nd z hz)).1
  have at1 : ∀ z ∈ zs, h'.get? z.1 = some z.2.1 := fun z hz => (cel_obj ok' (s' z hz)).1
  have cell : ∀ b ∈ adrs zs, ∀ o, h.get? b = some o → h'.get? b = some o := fun b hb o e => by
    obtain ⟨z, hz, rfl⟩ := List.mem_map.mp hb
    rw [at0 z hz] at e
    rw [at1 z hz, ← e]
  have ne : ∀ b u, H b = some u → b ∉ adrs zs := fun b u e m => by
    rw [n b m] at e
    cases e
  refine ⟨fun b o e hn hf hx => ?_, fun b o e hn hf hx => ?_, fun b o e hn hx => ?_, u.there, fun b xs e => ?_, fun b o x e => ?_, fun b ps e => ?_⟩
  · by_cases m : b ∈ adrs zs
    · exact cell b m o e
    · exact u.keep b o e (by rw [showL_ne m]; exact hn) hf hx
  · by_cases m : b ∈ adrs zs
    · exact ⟨o.slots, cell b m o e⟩
    · exact u.slot b o e (by rw [showL_ne m]; exact hn) hf hx
  · by_cases m : b ∈ adrs zs
    · exact hidL_in m
    · rw [hidL_ne m]
      exact u.free b o e (by rw [showL_ne m]; exact hn) hx
  · have m := ne b _ e
    rw [hidL_ne m]
    exact u.tups b xs (by rw [showL_ne m]; exact e)
  · have m := ne b _ e
    rw [hidL_ne m]
    exact u.frzs b o x (by rw [showL_ne m]; exact e)
  · have m := ne b _ e
    rw [hidL_ne m]
    exact u.tbls b ps (by rw [showL_ne m]; exact e)
/-- from what runs with the cells hidden to what runs with them -/
theorem un_show {fs : List Addr} (nd : (adrs zs).Nodup) (s : Shown zs H) (ok : HOk P w H h) (nf : ∀ a ∈ adrs zs, a ∉ fs) (ok' : HOk P w H' h') (u : Un fs [] (hidL (adrs zs) H) H' h h') :
    HOk P w (showL zs H') h' ∧ Un fs [] H (showL zs H') h h' := by
  have at0 : ∀ z ∈ zs, h.get? z.1 = some z.2.1 := fun z hz => (cel_obj ok (s z hz)).1
  have n' : ∀ a ∈ adrs zs, H' a = none := fun a ha => by
    obtain ⟨z, hz, rfl⟩ := List.mem_map.mp ha
    exact u.free _ _ (at0 z hz) (hidL_in ha) (by simp)
  have at1 : ∀ z ∈ zs, h'.get? z.1 = some z.2.1 := fun z hz => by
    have ha : z.1 ∈ adrs zs := List.mem_map.mpr ⟨z, hz, rfl⟩
    exact u.keep _ _ (at0 z hz) (hidL_in ha) (nf _ ha) (by simp)
  have ne : ∀ b, b ∈ adrs zs → ∃ φ, H b = some (.ext φ) := fun b hb => by
    obtain ⟨z, hz, rfl⟩ := List.mem_map.mp hb
    exact ⟨_, s z hz⟩
  refine ⟨show_ok ok' nd n' fun z hz => ⟨at1 z hz, (cel_obj ok (s z hz)).2⟩, fun b o e hn hf hx => ?_, fun b o e hn hf hx => ?_, fun b o e hn hx => ?_, u.there, fun b xs e => ?_, fun b o x e => ?_, fun b ps e => ?_⟩
  · by_cases m : b ∈ adrs zs
    · obtain ⟨φ, q⟩ := ne b m
      rw [q] at hn
      cases hn
    · exact u.keep b o e (by rw [hidL_ne m]; exact hn) hf hx
  · by_cases m : b ∈ adrs zs
    · obtain ⟨φ, q⟩ := ne b m
      rw [q] at hn
      cases hn
    · exact u.slot b o e (by rw [hidL_ne m]; exact hn) hf hx
  · by_cases m : b ∈ adrs zs
    · obtain ⟨φ, q⟩ := ne b m
      rw [q] at hn
      cases hn
    · rw [showL_ne m]
      exact u.free b o e (by rw [hidL_ne m]; exact hn) hx
  · by_cases m : b ∈ adrs zs
    · obtain ⟨φ, q⟩ := ne b m
      rw [q] at e
      cases e
    · rw [showL_ne m]
      exact u.tups b xs (by rw [hidL_ne m]; exact e)
  · by_cases m : b ∈ adrs zs
    · obtain ⟨φ, q⟩ := ne b m
      rw [q] at e
      cases e
    · rw [showL_ne m]
      exact u.frzs b o x (by rw [hidL_ne m]; exact e)
  · by_cases m : b ∈ adrs zs
    · obtain ⟨φ, q⟩ := ne b m
      rw [q] at e
      cases e
    · rw [showL_ne m]
      exact u.tbls b ps (by rw [hidL_ne m]; exact e)
/-- the same for an exception that flies -/
theorem ub_show {fs : List Addr} {B : Heap} (nd : (adrs zs).Nodup) (s : Shown zs H) (ok : HOk P w H h) (nf : ∀ a ∈ adrs zs, a ∉ fs) (ok' : HOk P w H' B) (u : UB fs (hidL (adrs zs) H) H' h B h') :
    HOk P w (showL zs H') B ∧ UB fs H (showL zs H') h B h' ∧ ∀ z ∈ zs, B.get? z.1 = some z.2.1 := by
  have at0 : ∀ z ∈ zs, h.get? z.1 = some z.2.1 := fun z hz => (cel_obj ok (s z hz)).1
  have n' : ∀ a ∈ adrs zs, H' a = none := fun a ha => by
    obtain ⟨z, hz, rfl⟩ := List.mem_map.mp ha
    exact u.free _ _ (at0 z hz) (hidL_in ha)
  have at1 : ∀ z ∈ zs, B.get? z.1 = some z.2.1 := fun z hz => by
    have ha : z.1 ∈ adrs zs := List.mem_map.mpr ⟨z, hz, rfl⟩
    exact u.keep _ _ (at0 z hz) (hidL_in ha) (nf _ ha)
  have ne : ∀ b, b ∈ adrs zs → ∃ φ, H b = some (.ext φ) := fun b hb => by
    obtain ⟨z, hz, rfl⟩ := List.mem_map.mp hb
    exact ⟨_, s z hz⟩
  refine ⟨show_ok ok' nd n' fun z hz => ⟨at1 z hz, (cel_obj ok (s z hz)).2⟩, ⟨fun b o e hn hf => ?_, u.slot, fun b o e hn => ?_, u.there, fun b xs e => ?_, fun b o x e => ?_, fun b ps e => ?_⟩, at1⟩
  · by_cases m : b ∈ adrs zs
    · obtain ⟨φ, q⟩ := ne b m
      rw [q] at hn
      cases hn
    · exact u.keep b o e (by rw [hidL_ne m]; exact hn) hf
  · by_cases m : b ∈ adrs zs
    · obtain ⟨φ, q⟩ := ne b m
      rw [q] at hn
      cases hn
    · rw [showL_ne m]
      exact u.free b o e (by rw [hidL_ne m]; exact hn)
  · by_cases m : b ∈ adrs zs
    · obtain ⟨φ, q⟩ := ne b m
      rw [q] at e
      cases e
    · rw [showL_ne m]
      exact u.tups b xs (by rw [hidL_ne m]; exact e)
  · by_cases m : b ∈ adrs zs
    · obtain ⟨φ, q⟩ := ne b m
      rw [q] at e
      cases e
    · rw [showL_ne m]
      exact u.frzs b o x (by rw [hidL_ne m]; exact e)
  · by_cases m : b ∈ adrs zs
    · obtain ⟨φ, q⟩ := ne b m
      rw [q] at e
      cases e
    · rw [showL_ne m]
      exact u.tbls b ps (by rw [hidL_ne m]; exact e)
end
/-! ### what may be called: a lambda of one parameter, by its body -/
structure Calls (P : Program) (w : World) (K : PySem.W.Frag) (mg : Str → Option Value) (base : Heap) (k : Nat) (f : Addr) (sp : Sp) : Prop where
  run : ∀ (A : Around) (outer : List Env) (s : Shared) (H : Hp) (us : List Value) (vs : List V) (Q : VK) (E : XK), Room k A → Env0 P w K mg base A outer s H → Vals vs us → sp vs H Q E →
    codeAny (model P w) A (.call (.ref f) ⟨us, []⟩) (CR (L2.CX P w) outer P w H s Q E) s
theorem Calls.up {P : Program} {w : World} {K : PySem.W.Frag} {mg : Str → Option Value} {base : Heap} {j k : Nat} {f : Addr} {sp : Sp} (c : Calls P w K mg base j f sp) (h : j ≤ k) : Calls P w K mg base k f sp :=
  ⟨fun A outer s H us vs Q E hr => c.run A outer s H us vs Q E (hr.mono h)⟩
/-- the lambda's promise: tb is its body's reading -/
def spLam (f : Addr) (F : LF) (N : List Str) (as : List Addr) (tb : XK → TE) : Sp := fun vs H Q E => H f = some (LmO f F) ∧ H F.c = some (CodeO F.c F.qual) ∧ ∃ (v : V) (zs : Zs), vs = [v] ∧ adrs zs = as ∧ Shown zs H ∧
  tb (fun cls d H' => (∀ a ∈ as, H' a = none) → E cls d (showL zs H')) (startF N [v] (zs.map fun z => some z.2.2)) (hidL as H) fun u H' => (∀ a ∈ as, H' a = none) → Q u (showL zs H')
structure LamA (F : LF) (fr : List Str) (as : List Addr) : Prop where
  has : ∀ (i : Nat) (y : Str), fr[i]? = some y → ∃ c, as[i]? = some c ∧ F.cl.lookup y = some c
  sub : ∀ (y : Str) (c : Addr), F.cl.lookup y = some c → ∃ i : Nat, fr[i]? = some y ∧ as[i]? = some c
  len : as.length = fr.length
  nd : as.Nodup
theorem lamA_inj {F : LF} {fr : List Str} {as : List Addr} (L : LamA F fr as) : ∀ x y c, F.cl.lookup x = some c → F.cl.lookup y = some c → x = y := fun x y c h1 h2 => by
  obtain ⟨i, a1, a2⟩ := L.sub x c h1
  obtain ⟨j, b1, b2⟩ := L.sub y c h2
  have e : i = j := by
    obtain ⟨hi, ei⟩ := List.getElem?_eq_some_iff.mp a2
    obtain ⟨hj, ej⟩ := List.getElem?_eq_some_iff.mp b2
    exact (List.getElem_inj L.nd).mp (ei.trans ej.symm)
  subst e
  rw [a1] at b1
  cases b1
  rfl
section
variable {P : Program} {w : World} {K : PySem.W.Frag} {mg : Str → Option Value} {base : Heap} {k : Nat} {f : Addr} {F : LF} {N fr : List Str} {x : Str} {as : List Addr} {tb : XK → TE}
theorem lmO_at {H : Hp} {h : Heap} (ok : HOk P w H h) (e : H f = some (LmO f F)) : ∃ pm ctv, h.get? f = some (PySem.W.kla_obj "<lambda>" F.qual F.params F.body F.scope F.cl pm F.c ctv) := (ok _ _ e).1
theorem calls_lam (S : NScope N [x] fr F.scope) (hb : ∀ (pm cv ctv u : Value), bindArgs (PySem.W.kla_fn "<lambda>" F.qual F.params F.body F.scope F.cl pm cv ctv) ⟨[u], []⟩ = pure [(x, u)]) (L : LamA F fr as)
    (hbody : ∀ (A : Around) (outer : List Env) (s : Shared) (H : Hp) (E : XK), Room k (A.deeper (envF F.nf f s.heap.objs.size)) → PE (ncx (L2.CX P w) P w K mg base N F.nf f A outer s H E) F.body (tb E)) : Calls P w K mg base (k + 1) f (spLam f F N as tb) := by
  refine ⟨fun A outer s H us vs Q E hr e0 r h => ?_⟩
  obtain ⟨hf, hc, v, zs, rfl, rfl, sh, ht⟩ := h
  obtain ⟨u, rfl, ru⟩ := vals1 r
  obtain ⟨pm, ctv, hfo⟩ := lmO_at e0.hok hf
  have ext : ∀ a ∈ adrs zs, ∀ o, H a = some o → ∃ φ, o = .ext φ := fun a ha o e => by
    obtain ⟨z, hz, rfl⟩ := List.mem_map.mp ha
    rw [sh z hz] at e
    cases e
    exact ⟨_, rfl⟩
  have ok0 := hid_ok e0.hok ext
  have nfr : ∀ a ∈ adrs zs, a ∉ frs outer := fun a ha z => by
    obtain ⟨y, hy, rfl⟩ := List.mem_map.mp ha
    have q := e0.frf _ z
    rw [sh y hy] at q
    cases q
  have e1 : Env0 P w K mg base A outer s (hidL (adrs zs) H) := ⟨e0.frames, e0.mod, fun b o e => ⟨(e0.bs b o e).1, by
      by_cases m : b ∈ adrs zs
      · exact hidL_in m
      · rw [hidL_ne m]
        exact (e0.bs b o e).2⟩, e0.bsz, e0.funs, fun b hb => by
      by_cases m : b ∈ adrs zs
      · exact hidL_in m
      · rw [hidL_ne m]
        exact e0.frf b hb, ok0, e0.bare⟩
  have cells : CellsAt F.cl fr (zs.map fun z => some z.2.2) s.heap (hidL (adrs zs) H) := by
    refine ⟨?_, fun y c e => ?_, lamA_inj L, fun i y e => ?_⟩
    · rw [List.length_map, ← L.len, List.length_map]
    · obtain ⟨i, a1, a2⟩ := L.sub y c e
      have hm : c ∈ adrs zs := List.mem_of_getElem? a2
      obtain ⟨z, hz, rfl⟩ := List.mem_map.mp hm
      obtain ⟨g1, u', g2, _⟩ := cel_obj e0.hok (sh z hz)
      exact ⟨hidL_in hm, some u', _, g1, g2⟩
    · obtain ⟨c, a1, a2⟩ := L.has i y e
      refine ⟨c, a2, fun v' ev => ?_⟩
      rw [List.getElem?_map] at a1 ev
      cases ez : zs[i]? with
      | none =>
        rw [ez] at a1
        cases a1
      | some z =>
        rw [ez] at a1 ev
        have h1 : z.1 = c := Option.some.inj (show some z.1 = some c from a1)
        have h2 : z.2.2 = v' := Option.some.inj (Option.some.inj (show some (some z.2.2) = some (some v') from ev))
        obtain ⟨g1, u', g2, g3⟩ := cel_obj e0.hok (sh z (List.mem_of_getElem? ez))
        rw [h1] at g1
        rw [h2] at g3
        exact ⟨u', g3, _, g1, g2⟩
  have lim : s.heap.NoLimit := e0.mod.nolimit.keeps fun b o e => (e0.bs b o e).1
  refine PySem.W.kla_callFunE hr.depth hfo rfl S.co S.gen rfl (codeO_at e0.hok hc) ?_
  rw [hb]
  refine wpAny_pure (wpAny_newFunctionEnv S.nocell (fun y hy => ?_) (fun h1 ns sb => ⟨lim.fresh _ sb, ?_⟩) S.kind)
  · have ey : y = (x, u) := List.mem_singleton.mp hy
    rw [ey]
    exact S.par x List.mem_cons_self
  · show codeAny _ _ (.expr F.body (envF F.nf f s.heap.objs.size)) _ _
    have kp : ∀ b o, s.heap.get? b = some o → h1.get? b = some o := by
      intro b o e
      exact sb.extBut b o (Nat.ne_of_lt (Heap.lt_size e)) (Heap.get?_push_of_some _ e)
    have J : Inv (ncx (L2.CX P w) P w K mg base N F.nf f A outer s (hidL (adrs zs) H) (fun cls d H' => (∀ a ∈ adrs zs, H' a = none) → E cls d (showL zs H'))) [] (startF N [v] (zs.map fun z => some z.2.2)) (hidL (adrs zs) H) { s with heap := h1, toks := s.toks + ([(x, u)] : List (Str × Value)).length } :=
      inv_startN (ps := [x]) (us := [u]) S hr.hd e1 rfl (.cons ru .nil) cells ns kp
    refine PySem.W.kla_codeExpr (wpAny_mono ((hbody A outer s _ _ (hr.deeper _)).run [] _ _ _ _ J ht) ?_ ?_)
    · rintro y z' ⟨u', G', J', rw', q⟩
      obtain ⟨o1, u1⟩ := un_show L.nd sh e0.hok nfr J'.hok J'.base
      exact ⟨u', _, J'.os, J'.bare, u1, o1, rw', q fun a ha => by
        obtain ⟨z, hz, rfl⟩ := List.mem_map.mp ha
        exact J'.base.free _ _ (cel_obj e0.hok (sh z hz)).1 (hidL_in ha) (fun m => nomatch (show z.1 ∈ ([] : List Addr) from m))⟩
    · intro e z' hq
      refine wpAny_mono hq (fun _ z2 hx => ?_) (fun _ z2 hx => ?_) <;>
      · obtain ⟨a, B, G', cls, d, rfl, fl, ok', ub, na, os, ag, q⟩ := hx
        obtain ⟨o1, u1, b1⟩ := ub_show L.nd sh e0.hok nfr ok' ub
        have nn : ∀ a ∈ adrs zs, G' a = none := fun a ha => by
          obtain ⟨z, hz, rfl⟩ := List.mem_map.mp ha
          exact ub.free _ _ (cel_obj e0.hok (sh z hz)).1 (hidL_in ha)
        refine ⟨a, B, showL zs G', cls, d, rfl, fl, o1, u1, ?_, os, ag, q nn⟩
        rw [showL_ne]
        · exact na
        · intro m
          obtain ⟨z, hz, ea⟩ := List.mem_map.mp m
          have g := fl.2.1
          rw [← ea, b1 z hz] at g
          cases g
end
/-! ### the lambda made, with its promise -/
def cadr (X : Cx) (j : Nat) : Addr := match X.N[j]? with
  | some y => (X.env.cells.lookup y).getD 0
  | none => 0
theorem cadr_of {X : Cx} {j : Nat} {y : Str} {c : Addr} (h : X.N[j]? = some y) (e : X.env.cells.lookup y = some c) : cadr X j = c := by
  unfold cadr
  rw [h]
  show (X.env.cells.lookup y).getD 0 = c
  rw [e]
  rfl
theorem nodup_ix_of {α : Type} {l : List α} (h : ∀ (i j : Nat) (c : α), l[i]? = some c → l[j]? = some c → i = j) : l.Nodup := by
  refine List.pairwise_iff_getElem.mpr fun i j hi hj hij e => ?_
  have := h i j l[i] (List.getElem?_eq_getElem hi) (by rw [e]; exact List.getElem?_eq_getElem hj)
  omega
section
variable {X : Cx} {N fr : List Str} {x : Str} {js : List Nat} {params : Arguments} {body : Expr} {scope : Scope} {c' : Addr}
theorem lamA_mk (ok : X.Ok) (L : LamK X N fr x js params body scope) : LamA (mkLF X params body scope c') fr (js.map (cadr X)) := by
  have hf : ∀ y ∈ scope.names, y.2 = .free → ∃ c, X.env.cells.lookup y.1 = some c := fun y hy e => (L.free y hy e).elim (fun z => ok.has _ (.inl z)) fun z => ok.has _ (.inr z)
  have at_ : ∀ (i : Nat) (y : Str), fr[i]? = some y → ∃ c, (js.map (cadr X))[i]? = some c ∧ X.env.cells.lookup y = some c := by
    intro i y e
    have e2 : (js.map fun j => X.N[j]?)[i]? = some (some y) := by
      rw [L.js, List.getElem?_map, e] <;> rfl
    rw [List.getElem?_map] at e2
    cases ej : js[i]? with
    | none =>
      rw [ej] at e2
      cases e2
    | some j =>
      rw [ej] at e2
      have hj : X.N[j]? = some y := Option.some.inj (show some (X.N[j]?) = some (some y) from e2)
      obtain ⟨c, hc⟩ := hf (y, .free) (L.cap y (List.mem_of_getElem? e)) rfl
      refine ⟨c, ?_, hc⟩
      rw [List.getElem?_map, ej]
      show some (cadr X j) = some c
      rw [cadr_of hj hc]
  have len : (js.map (cadr X)).length = fr.length := by
    have q := congrArg List.length L.js
    rw [List.length_map, List.length_map] at q
    rw [List.length_map]
    exact q
  have ndf : fr.Nodup := by
    have q := L.S.nd.sublist (List.take_sublist ([x].length + fr.length) N)
    rw [L.S.pre] at q
    exact (List.nodup_append.mp q).2.1
  refine ⟨fun i y e => ?_, fun y c e => ?_, len, nodup_ix_of fun i j c h1 h2 => ?_⟩
  · obtain ⟨c, a, b⟩ := at_ i y e
    exact ⟨c, a, clo_has hf (L.cap y (List.mem_of_getElem? e)) b⟩
  · have e1 : X.env.cells.lookup y = some c := clo_cm hf e
    have hy : (y, NameKind.free) ∈ scope.names := by
      rcases cloFrom_mem (PySem.mem_of_lookup e) with z | ⟨z, _⟩
      · cases z
      · exact z
    obtain ⟨i, hi⟩ := List.mem_iff_getElem?.mp (L.S.free _ hy rfl)
    obtain ⟨c2, a, b⟩ := at_ i y hi
    rw [e1] at b
    cases b
    exact ⟨i, hi, a⟩
  · have li : i < fr.length := by
      have := (List.getElem?_eq_some_iff.mp h1).1
      omega
    have lj : j < fr.length := by
      have := (List.getElem?_eq_some_iff.mp h2).1
      omega
    obtain ⟨c1, a1, b1⟩ := at_ i _ (List.getElem?_eq_getElem li)
    obtain ⟨c2, a2, b2⟩ := at_ j _ (List.getElem?_eq_getElem lj)
    rw [h1] at a1
    rw [h2] at a2
    cases a1
    cases a2
    exact (List.getElem_inj ndf).mp (ok.inj _ _ _ b1 b2)
abbrev lamXE (X : Cx) (N : List Str) (params : Arguments) (scope : Scope) (f c' : Addr) (A : Around) (outer : List Env) (z : Shared) (G : Hp) (E : XK) : Cx :=
  ncx (L2.CX X.prog X.w) X.prog X.w X.K X.mg X.base N (lamN X params scope c') f A outer z G E
def tLmC (T : List (Addr × Str)) (P : Program) (w : World) (K : PySem.W.Frag) (mg : Str → Option Value) (base : Heap) (k : Nat) (N : List Str) (as : List Addr) (tb : XK → TE) : TE := fun _ H Q => Tabs T H ∧
  ∀ (f : Addr) (F : LF) (H1 : Hp), ExtN H H1 → Tabs T H1 → H f = none → H1 f = some (LmO f F) → H1 F.c = some (CodeO F.c F.qual) → Calls P w K mg base k f (spLam f F N as tb) → Q (.ref f) H1
variable {T : List (Addr × Str)} {c P : Addr} {pos : Pos} {k : Nat} {tb : XK → TE}
theorem pe_lamC (TB : TabB X.base X.mg c P) (hcode : X.env.code = .ref c) (hm : (P, X.env.qual ++ "<lambda>") ∈ T) (hu : ∀ p ∈ T, p.1 = P → p.2 = X.env.qual ++ "<lambda>") (L : LamK X N fr x js params body scope)
    (hb : ∀ (f c' : Addr) (A : Around) (outer : List Env) (z : Shared) (G : Hp) (E : XK), Room k (A.deeper (envF (lamN X params scope c') f z.heap.objs.size)) → PE (lamXE X N params scope f c' A outer z G E) body (tb E)) :
    PE X (.Lambda params body scope pos) (tLmC T X.prog X.w X.K X.mg X.base (k + 1) N (js.map (cadr X)) tb) := by
  refine ⟨fun pins z σ H Q I h => ?_⟩
  refine (pe_lam (pos := pos) (body := body) TB hcode hm hu L.dflt L.free).run pins z σ H Q I ⟨h.1, fun f cc H1 e1 t1 n1 f1 c1 => ?_⟩
  refine h.2 f (mkLF X params body scope cc) H1 e1 t1 n1 f1 c1 (calls_lam L.S (fun pm cv ctv u => L.bind _ _ pm cv ctv u) (lamA_mk I.ok L) fun A outer s H E hr => ?_)
  exact hb f cc A outer s H E hr
end
/-! ### a def called by one that has such lambdas: its cells are shown meanwhile -/
def tCallC (js : List Nat) (ca : Nat → Addr) (sp : Sp) (t : TA) : TE := fun σ H Q => t σ H fun vs H1 => ∃ ws : List V, js.map (slotAt σ) = ws.map some ∧
  ((∀ a ∈ js.map ca, H1 a = none) → ∀ zs : Zs, adrs zs = js.map ca → zs.map (fun z => z.2.2) = ws → (adrs zs).Nodup → sp vs (showL zs H1) (fun v H2 => Shown zs H2 ∧ Q v (hidL (adrs zs) H2)) C8.E0)
section
variable {X : Cx} {js : List Nat} {pins : List (Addr × Obj)} {σ : L2.St} {H : Hp} {s s' : Shared}
theorem cells_shown (I : Inv X pins σ H s) (hN : X.N.Nodup) (hfn : ∀ y, X.fn y = true) : ∀ {js : List Nat} {ws : List V}, (∀ j ∈ js, ∃ y, X.N[j]? = some y ∧ X.env.scope.names.lookup y = some .cell) → js.Nodup → js.map (slotAt σ) = ws.map some →
    ∃ zs : Zs, adrs zs = js.map (cadr X) ∧ zs.map (fun z => z.2.2) = ws ∧ (adrs zs).Nodup ∧ ∀ z ∈ zs, s.heap.get? z.1 = some z.2.1 ∧ (∃ u, z.2.1.data = .cell (some u) ∧ RelV z.2.2 u) ∧ (∃ y, X.env.cells.lookup y = some z.1 ∧ ∃ j ∈ js, X.N[j]? = some y)
  | [], [], _, _, _ => ⟨[], rfl, rfl, List.nodup_nil, fun z hz => absurd hz (by simp)⟩
  | [], _ :: _, _, _, e => by cases e
  | _ :: _, [], _, _, e => by cases e
  | j :: js, v :: ws, hj, nd, e => by
    injection e with e1 e2
    have nd' := List.nodup_cons.mp nd
    obtain ⟨zs, a1, a2, a3, a4⟩ := cells_shown I hN hfn (fun i hi => hj i (List.mem_cons_of_mem _ hi)) nd'.2 e2
    obtain ⟨y, hy, ky⟩ := hj j List.mem_cons_self
    obtain ⟨c, hc⟩ := I.ok.has y (.inl ky)
    obtain ⟨m, hn, hl⟩ := I.loc
    obtain ⟨u, r, l⟩ := hl j y v hy (slotAt_some e1) (.inr (.inl ky))
    rcases l with ⟨z, _⟩ | ⟨_, c', hc', o, ho, hd⟩
    · have z' : X.env.scope.names.lookup y = some .local := z
      rw [ky] at z'
      cases z'
    rw [hc] at hc'
    cases hc'
    refine ⟨(c, o, v) :: zs, ?_, ?_, ?_, fun z hz => ?_⟩
    · show c :: adrs zs = cadr X j :: js.map (cadr X)
      rw [a1, cadr_of hy hc]
    · show v :: zs.map (fun z => z.2.2) = v :: ws
      rw [a2]
    · refine List.nodup_cons.mpr ⟨fun hm => ?_, a3⟩
      obtain ⟨z, hz, ez⟩ := List.mem_map.mp hm
      obtain ⟨_, _, y2, h2, j2, hj2, hy2⟩ := a4 z hz
      have ez : z.1 = c := ez
      rw [ez] at h2
      have e3 := I.ok.inj _ _ _ h2 hc
      rw [e3] at hy2
      have e4 := nodup_ix hN hy2 hy
      rw [e4] at hj2
      exact nd'.1 hj2
    · rcases List.mem_cons.mp hz with e | hz
      · rw [e]
        exact ⟨ho, ⟨u, hd, r⟩, y, hc, j, List.mem_cons_self, hy⟩
      · obtain ⟨b1, b2, y2, b3, j2, b4, b5⟩ := a4 z hz
        exact ⟨b1, b2, y2, b3, j2, List.mem_cons_of_mem _ b4, b5⟩
theorem env_shown (I : Inv X pins σ H s) (hfn : ∀ y, X.fn y = true) {zs : Zs} (nd : (adrs zs).Nodup) (hz : ∀ z ∈ zs, s.heap.get? z.1 = some z.2.1 ∧ (∃ u, z.2.1.data = .cell (some u) ∧ RelV z.2.2 u) ∧ (∃ y, X.env.cells.lookup y = some z.1 ∧ ∃ j ∈ js, X.N[j]? = some y)) :
    (∀ a ∈ adrs zs, H a = none) ∧ Env0 X.prog X.w X.K X.mg X.base X.A X.stack s (showL zs H) := by
  have nn : ∀ a ∈ adrs zs, H a = none := fun a ha => by
    obtain ⟨z, hz', rfl⟩ := List.mem_map.mp ha
    obtain ⟨_, _, y, hy, _⟩ := hz z hz'
    exact I.freeC y _ hy
  have above : ∀ a ∈ adrs zs, X.s_0.heap.objs.size ≤ a := fun a ha => by
    obtain ⟨z, hz', rfl⟩ := List.mem_map.mp ha
    obtain ⟨_, _, y, hy, _⟩ := hz z hz'
    exact I.ok.cab y _ (hfn y) hy
  have e0 := I.env0
  refine ⟨nn, e0.frames, e0.mod, fun b o e => ⟨(e0.bs b o e).1, ?_⟩, e0.bsz, e0.funs, fun b hb => ?_, show_ok I.hok nd nn fun z h => ⟨(hz z h).1, (hz z h).2.1⟩, e0.bare⟩
  · rw [showL_ne]
    · exact (e0.bs b o e).2
    · intro m
      exact Nat.lt_irrefl _ (Nat.lt_of_lt_of_le (Heap.lt_size e) (Nat.le_trans I.ok.bsz (above b m)))
  · rw [showL_ne]
    · exact e0.frf b hb
    · intro m
      rcases List.mem_cons.mp (I.stkSub b hb) with e | hb2
      · obtain ⟨z, hz', ez⟩ := List.mem_map.mp m
        obtain ⟨_, _, y, hy, _⟩ := hz z hz'
        exact I.cne y _ hy (ez.trans e)
      · obtain ⟨_, o, ho, _⟩ := I.ok.funs.mem hb2
        exact Nat.lt_irrefl _ (Nat.lt_of_lt_of_le (Heap.lt_size ho) (above b m))
theorem after_shown (I : Inv X pins σ H s) {zs : Zs} {Q : VK} {u : Value} (nd : (adrs zs).Nodup) (nn : ∀ a ∈ adrs zs, H a = none) (ok : HOk X.prog X.w (showL zs H) s.heap) (h : CE X.stack X.prog X.w (showL zs H) s (fun v H2 => Shown zs H2 ∧ Q v (hidL (adrs zs) H2)) u s') : EP X pins σ Q u s' := by
  obtain ⟨v, H', os, bare, un, hok, r, sh, q⟩ := h
  refine I.after ⟨v, hidL (adrs zs) H', os, bare, un_hid nd nn ok hok sh un, hid_ok hok fun a ha o e => ?_, r, q⟩
  obtain ⟨z, hz, rfl⟩ := List.mem_map.mp ha
  rw [sh z hz] at e
  cases e
  exact ⟨_, rfl⟩
variable {k j : Nat} {sp : Sp} {x : Str} {p pos : Pos} {e : Expr} {es : List Expr} {t : TA}
theorem pe_cC (c : C8.Cal X.prog X.w X.K X.mg X.base k x sp []) (hr : Room j X.A) (hk : k ≤ j) (hg : Gl X x) (hjs : ∀ j ∈ js, ∃ y, X.N[j]? = some y ∧ X.env.scope.names.lookup y = some .cell) (hnd : js.Nodup) (hN : X.N.Nodup) (hfn : ∀ y, X.fn y = true) (ha : L2.PA X (e :: es) t)
    (hdb : (x == ("__debug__" : Str)) = false := by decide) (he : starEach (e :: es) X.env = (false, eval e X.env) :: starEach es X.env := by rfl) (hpl : (backTo pos (starEach es X.env)).any (·.1) = false := by rfl) :
    PE X (.Call (.Name x p) (e :: es) [] pos) (tCallC js (cadr X) sp t) := by
  obtain ⟨f, fd, ps, ds, F, hm, kp, b, d⟩ := c.ex
  cases d
  refine ⟨fun pins s σ H Q I h => ?_⟩
  refine wpAny_Call_Name_kw (ld_glob I hg hm ?_ hdb)
  refine PySem.W.callWith_K (h₀ := X.base) I.ok.mod.kin kp (thn (ha.run pos pins s σ H _ I h) fun us s1 ⟨vs, H1, I1, r, ws, hw, q⟩ => ⟨I1.kIn, ?_⟩) he hpl
  obtain ⟨zs, z1, z2, z3, z4⟩ := cells_shown I1 hN hfn hjs hnd hw
  obtain ⟨nn, e0⟩ := env_shown I1 hfn z3 z4
  have q1 := q (by rw [← z1]; exact nn) zs z1 z2 z3
  have hl : (us ++ []).length = ps.length := by
    rw [List.append_nil, ← r.length]
    exact F.len _ _ _ _ q1
  have hbd := b s1 us I1.kIn hl
  rw [List.append_nil] at hbd
  refine wpAny_call (codeAny_mono (F.run X.A X.stack s1 _ ⟨us, []⟩ us vs _ C8.E0 (hr.mono hk) e0 hbd r q1) fun r s' hq => ?_)
  cases r with
  | error e => exact False.elim hq
  | ok fl =>
    cases fl with
    | ret u => exact after_shown I1 z3 nn e0.hok hq
    | next => exact False.elim hq
    | brk => exact False.elim hq
    | cont => exact False.elim hq
theorem pe_cGC (c : CalG X.prog X.w X.K X.mg X.base k x sp) (hgd : X.A.guards = some []) (hr : Room j X.A) (hk : k ≤ j) (hg : Gl X x) (hjs : ∀ j ∈ js, ∃ y, X.N[j]? = some y ∧ X.env.scope.names.lookup y = some .cell) (hnd : js.Nodup) (hN : X.N.Nodup) (hfn : ∀ y, X.fn y = true) (ha : L2.PA X (e :: es) t)
    (hdb : (x == ("__debug__" : Str)) = false := by decide) (he : starEach (e :: es) X.env = (false, eval e X.env) :: starEach es X.env := by rfl) (hpl : (backTo pos (starEach es X.env)).any (·.1) = false := by rfl) :
    PE X (.Call (.Name x p) (e :: es) [] pos) (tCallC js (cadr X) sp t) := by
  obtain ⟨f, fd, ps, F, hm, kp, b⟩ := c.ex
  refine ⟨fun pins s σ H Q I h => ?_⟩
  refine wpAny_Call_Name_kw (ld_glob I hg hm ?_ hdb)
  refine PySem.W.callWith_K (h₀ := X.base) I.ok.mod.kin kp (thn (ha.run pos pins s σ H _ I h) fun us s1 ⟨vs, H1, I1, r, ws, hw, q⟩ => ⟨I1.kIn, ?_⟩) he hpl
  obtain ⟨zs, z1, z2, z3, z4⟩ := cells_shown I1 hN hfn hjs hnd hw
  obtain ⟨nn, e0⟩ := env_shown I1 hfn z3 z4
  have q1 := q (by rw [← z1]; exact nn) zs z1 z2 z3
  have hl : (us ++ []).length = ps.length := by
    rw [List.append_nil, ← r.length]
    exact F.many _ _ _ _ q1
  have hbd := b s1 us I1.kIn hl
  rw [List.append_nil] at hbd
  refine wpAny_call (codeAny_mono (F.goes X.A X.stack s1 _ ⟨us, []⟩ us vs _ C8.E0 hgd (hr.mono hk) e0 hbd r q1) fun r s' hq => ?_)
  cases r with
  | error e => exact False.elim hq
  | ok fl =>
    cases fl with
    | ret u => exact after_shown I1 z3 nn e0.hok hq
    | next => exact False.elim hq
    | brk => exact False.elim hq
    | cont => exact False.elim hq
/-! ### what a name holds is called -/
def tCallv (P : Program) (w : World) (K : PySem.W.Frag) (mg : Str → Option Value) (base : Heap) (k i : Nat) (E : XK) (t : TA) : TE := fun σ H Q => ∃ (f : Addr) (F : LF) (sp : Sp), σ[i]? = some (some (.ref f)) ∧ H f = some (LmO f F) ∧ Calls P w K mg base k f sp ∧
  t σ H fun vs H1 => H1 f = some (LmO f F) ∧ sp vs H1 Q E
theorem lam_fnAt (I : Inv X pins σ H s) {f : Addr} {F : LF} (e : H f = some (LmO f F)) : PySem.W.FnAt f s.heap := by
  obtain ⟨pm, ctv, ho⟩ := lmO_at I.hok e
  exact ⟨_, _, _, _, ho⟩
theorem pe_callv {i : Nat} {E : XK} (hr : Room j X.A) (hk : k ≤ j) (hx : Passes (L2.CX X.prog X.w) X E) (hN : X.N[i]? = some x) (hv : Vis X.env.scope x) (ha : L2.PA X (e :: es) t)
    (hd : (x == ("__debug__" : Str)) = false := by decide) (hcd : (x == ("__classdict__" : Str)) = false := by decide)
    (he : starEach (e :: es) X.env = (false, eval e X.env) :: starEach es X.env := by rfl) (hpl : (backTo pos (starEach es X.env)).any (·.1) = false := by rfl) :
    PE X (.Call (.Name x p) (e :: es) [] pos) (tCallv X.prog X.w X.K X.mg X.base k i E t) := by
  refine ⟨fun pins s σ H Q I h => ?_⟩
  obtain ⟨f, F, sp, hs, hf, C, ht⟩ := h
  refine wpAny_Call_Name_kw (thn ((pe_var (pos := p) hN hv hd hcd).run pins s σ H (fun v H1 => v = .ref f ∧ H1 = H) I ⟨.ref f, hs, rfl, rfl⟩) fun u s1 ⟨v, H1, I1, r1, q1⟩ => ?_)
  obtain ⟨ev, eH⟩ := q1
  subst ev
  rw [eH] at I1
  obtain rfl : u = Value.ref f := r1
  refine PySem.W.callWith_F (first := []) (lam_fnAt I1 hf) (thn (ha.run pos pins s1 σ H _ I1 ht) fun us s2 ⟨vs, H2, I2, r, h1, q⟩ => ⟨lam_fnAt I2 h1, ?_⟩) he hpl
  show wpAny _ _ (call (.ref f) us) _ _ _
  refine wpAny_call (codeAny_mono (C.run X.A X.stack s2 H2 us vs Q E (hr.mono hk) I2.env0 r q) fun r s' hq => ?_)
  cases r with
  | error e => exact hx pins σ H2 s2 e s' I2 hq
  | ok fl =>
    cases fl with
    | ret u => exact I2.after hq
    | next => exact False.elim hq
    | brk => exact False.elim hq
    | cont => exact False.elim hq
theorem passes_no {X : Cx} : Passes (L2.CX X.prog X.w) X C8.E0 := fun _ _ _ _ _ _ _ c => by
  obtain ⟨_, _, _, _, _, _, _, _, _, _, _, _, z⟩ := c
  exact z.elim
end
/-! ### looks, heaps -/
def cellsB (N : List Str) (sc : Scope) (js : List Nat) : Bool := js.all fun j => match N[j]? with
  | some y => decide (sc.names.lookup y = some .cell)
  | none => false
theorem cells_by {N : List Str} {sc : Scope} {js : List Nat} (h : cellsB N sc js = true) : ∀ j ∈ js, ∃ y, N[j]? = some y ∧ sc.names.lookup y = some .cell := fun j hj => by
  have z := List.all_eq_true.mp h j hj
  cases e : N[j]? with
  | none =>
    rw [e] at z
    cases z
  | some y =>
    rw [e] at z
    exact ⟨y, rfl, of_decide_eq_true z⟩
theorem celO_ne {c : Addr} {o : Obj} {v : V} (ps : Array Value) : CelO c o v ≠ .tbl ps := fun z => by
  unfold CelO at z
  cases z
theorem Shown.ext {zs : Zs} {H H' : Hp} (s : Shown zs H) (e : ExtN H H') : Shown zs H' := fun z hz => e _ _ (s z hz) celO_ne
theorem ext_show {zs : Zs} {H H' : Hp} (nd : (adrs zs).Nodup) (s : Shown zs H) (e : ExtN (hidL (adrs zs) H) H') : ExtN H (showL zs H') := fun b o q n => by
  by_cases m : b ∈ adrs zs
  · obtain ⟨z, hz, rfl⟩ := List.mem_map.mp m
    rw [s z hz] at q
    rw [showL_at nd z hz]
    exact q
  · rw [showL_ne m]
    exact e b o (by rw [hidL_ne m]; exact q) n
theorem hid_ext {zs : Zs} {H H' : Hp} (n : ∀ a ∈ adrs zs, H a = none) (e : ExtN (showL zs H) H') : ExtN H (hidL (adrs zs) H') := fun b o q k => by
  have m : b ∉ adrs zs := fun m => by
    rw [n b m] at q
    cases q
  rw [hidL_ne m]
  exact e b o (by rw [showL_ne m]; exact q) k
theorem show_at {zs : Zs} {H : Hp} {b : Addr} {o : HO} (n : ∀ a ∈ adrs zs, H a = none) (e : H b = some o) : showL zs H b = some o := by
  rw [showL_ne]
  · exact e
  · intro m
    rw [n b m] at e
    cases e
theorem hid_at {zs : Zs} {H : Hp} {b : Addr} {o : HO} (s : Shown zs H) (e : H b = some o) (ne : ∀ φ, o ≠ .ext φ) : hidL (adrs zs) H b = some o := by
  rw [hidL_ne]
  · exact e
  · intro m
    obtain ⟨z, hz, rfl⟩ := List.mem_map.mp m
    rw [s z hz] at e
    exact ne _ (Option.some.inj e).symm
/-- what is tracked of a code object is seen on both sides, as long as it is no cell -/
theorem tabs_show {T : List (Addr × Str)} {zs : Zs} {H : Hp} (n : ∀ a ∈ adrs zs, H a = none) (t : Tabs T H) : Tabs T (showL zs H) := t.ext fun b o e => show_at n e
theorem heap_at (c : Addr) (o : Obj) (ho : o.isFreed = false) : ∃ h : Heap, h.get? c = some o := by
  obtain ⟨h, e⟩ : ∃ h : Heap, h.objs.size = c := by
    induction c with
    | zero => exact ⟨{}, rfl⟩
    | succ n ih =>
      obtain ⟨h, e⟩ := ih
      exact ⟨h.push { cls := .none, data := .fields #[] }, by rw [Heap.size_push, e]⟩
  exact ⟨h.push o, by rw [← e]; exact Heap.get?_push_size _ ho⟩
theorem code_cel {c : Addr} {q : Str} {o : Obj} {v : V} : CodeO c q ≠ CelO c o v := fun z => by
  have e := HO.ext.inj z
  obtain ⟨h, hh⟩ := heap_at c { cls := .none, data := .fields #[.none, .str q 0] } rfl
  have a : (fun h : Heap => ∃ (oc : Obj) (vs : Array Value) (t : Tok), h.get? c = some oc ∧ oc.data = .fields vs ∧ vs[1]? = some (.str q t)) h := ⟨_, _, 0, hh, rfl, rfl⟩
  rw [e] at a
  obtain ⟨a1, u, a2, _⟩ := a
  rw [hh] at a1
  cases a1
  cases a2
theorem tabs_hid {T : List (Addr × Str)} {zs : Zs} {H : Hp} (s : Shown zs H) (t : Tabs T H) : Tabs T (hidL (adrs zs) H) := fun p hp => by
  obtain ⟨ps, a1, a2, a3⟩ := t p hp
  refine ⟨ps, hid_at s a1 (fun φ z => nomatch z), a2, fun pos cv hc => ?_⟩
  obtain ⟨d, b1, b2⟩ := a3 pos cv hc
  refine ⟨d, b1, ?_⟩
  rw [hidL_ne]
  · exact b2
  · intro m
    obtain ⟨z, hz, rfl⟩ := List.mem_map.mp m
    rw [s z hz] at b2
    exact code_cel (Option.some.inj b2).symm
def tCG (sp : Sp) (t : TA) : TE := fun σ G Q => t σ G fun xs G1 => sp xs G1 Q C8.E0
theorem pe_cGt {X : Cx} {k j : Nat} {sp : Sp} {x : Str} {p pos : Pos} {e : Expr} {es : List Expr} {t : TA} (c : CalG X.prog X.w X.K X.mg X.base k x sp) (hgd : X.A.guards = some []) (hr : Room j X.A) (hk : k ≤ j) (hg : Gl X x) (ha : L2.PA X (e :: es) t) (hdb : (x == ("__debug__" : Str)) = false := by decide)
    (he : starEach (e :: es) X.env = (false, eval e X.env) :: starEach es X.env := by rfl) (hpl : (backTo pos (starEach es X.env)).any (·.1) = false := by rfl) :
    PE X (.Call (.Name x p) (e :: es) [] pos) (tCG sp t) := pe_cG c hgd hr hk hg ha hdb he hpl
end PD

/-! Phrasedesk: a def called within an except suite, handed the error; a try that calls what a name holds -/
namespace PD
open PySem PySem.Spec PyProof.Rows L2 L2H LamX NdefX
/-! ### a def that is handed the error that is held: it raises nothing, it loops over nothing -/
abbrev SpE := Addr × Obj → List V → Hp → VK → Prop
structure FnE (P : Program) (w : World) (K : PySem.W.Frag) (mg : Str → Option Value) (base : Heap) (k : Nat) (f : Addr) (fd : FuncData) (ps : List Str) (sp : SpE) : Prop where
  len : ∀ p vs H Q, sp p vs H Q → vs.length = ps.length
  run : ∀ (A : Around) (outer : List Env) (s : Shared) (H : Hp) (args : Args) (us : List Value) (vs : List V) (Q : VK) (p : Addr × Obj), RoomH k A → PinOk outer H s p → Env0 P w K mg base A outer s H → BindsTo s fd args (ps.zip us) → Vals vs us → sp p vs H Q →
    codeAny (model P w) A (.call (.ref f) args) (CR C8.CX0 outer P w H s Q C8.E0) s
structure CalE (P : Program) (w : World) (K : PySem.W.Frag) (mg : Str → Option Value) (base : Heap) (k : Nat) (x : Str) (sp : SpE) : Prop where
  ex : ∃ (f : Addr) (fd : FuncData) (ps : List Str), FnE P w K mg base k f fd ps sp ∧ mg x = some (.ref f) ∧ PySem.W.keepIn K (.ref f) = true ∧ Binds K fd ps []
section
variable {P : Program} {w : World} {K : PySem.W.Frag} {mg : Str → Option Value} {base : Heap} {x qual : Str} {st : Stmt} {f : Addr} {N ps : List Str} {k : Nat} {sp : SpE}
theorem fnE_of {name : Str} {params : Arguments} {body : List Stmt} {scope : Scope} {dV kV doc pm cdv ct oc : Value} {an od : Option Addr}
    {osl : Array (Option Value)} (lk : K.lookup f = some ⟨oc, od, .func (PySem.W.fnOf name qual params body scope dV kV doc pm an cdv ct), osl⟩) (hcd : PySem.W.codeIn K cdv qual = true) (S : FnScope N ps scope)
    (len : ∀ p vs H Q, sp p vs H Q → vs.length = ps.length)
    (hbody : ∀ (A : Around) (outer : List Env) (s : Shared) (H : Hp) (vs : List V) (Q : VK) (p : Addr × Obj), sp p vs H Q →
      ∃ t, PSs (cxH C8.CX0 P w K mg base N qual scope f cdv A outer s H C8.E0 p).nox body t ∧ t { nx := fun _ H' => Q .non H', rt := Q } (L2.start N vs) H) :
    FnE P w K mg base (k + 1) f (PySem.W.fnOf name qual params body scope dV kV doc pm an cdv ct) ps sp := by
  refine ⟨len, fun A outer s H args us vs Q p hr hpin e0 hb r hsp => ?_⟩
  have hl := len _ _ _ _ hsp
  have KX : K.In s.heap := e0.mod.kin.keeps fun b o e => (e0.bs b o e).1
  have lim : s.heap.NoLimit := e0.mod.nolimit.keeps fun b o e => (e0.bs b o e).1
  have hkind : ∀ y ∈ ps.zip us, scope.names.lookup y.1 = some .local ∨ (scope.names.lookup y.1 = some .cell ∧ ((cellsFrom (s.heap.objs.size + 1) scope.names []).lookup y.1).isSome = true) := fun ⟨n, v⟩ hy => by
    rcases S.par n (List.of_mem_zip hy).1 with q | q
    · exact .inl q
    · exact .inr ⟨q, PySem.W.cellsFrom_some _ _ _ (.inl q)⟩
  refine codeAny_call_function hr.depth (KX _ _ lk) rfl S.co S.gen rfl (PySem.W.codeRec_of KX hcd) (hb _ _ _ _ ?_)
  refine wpAny_newFunctionEnv_cells S.kind hkind fun env he s1 x => ?_
  subst he
  refine ⟨lim.keeps x.toInCall.keep, codeAny_func ?_⟩
  obtain ⟨t, ht, hq⟩ := hbody A outer s H vs Q p hsp
  have I : Inv (cxH C8.CX0 P w K mg base N qual scope f cdv A outer s H C8.E0 p) [] (L2.start N vs) H s1 := inv_startH S hpin e0 hl r x
  refine wpAny_mono (ht.nox.run [] s1 (L2.start N vs) H _ I hq) (fun fl s' hs => ?_) fun e s' hs => hs
  have fin : ∀ {σ' : L2.St} {H' : Hp} {v : V} {u : Value}, Inv (cxH C8.CX0 P w K mg base N qual scope f cdv A outer s H C8.E0 p) [] σ' H' s' → L2.RelV v u → Q v H' → CE outer P w H s Q u s' :=
    fun {σ' H' v u} J rv q => ⟨v, H', J.os, J.bare, J.base, J.hok, rv, q⟩
  cases fl with
  | ret u =>
    obtain ⟨v, σ', H', J, rv, q⟩ := hs
    exact fin J rv q
  | next =>
    obtain ⟨σ', H', J, q⟩ := hs
    exact fin (v := V.non) (u := Value.none) J rfl q
  | brk =>
    obtain ⟨_, _, _, q⟩ := hs
    exact False.elim q
  | cont =>
    obtain ⟨_, _, _, q⟩ := hs
    exact False.elim q
theorem calE (F : ∃ fd, FunD K x x (defArgs st) (defBody st) (defScope st) [] [] f fd) (hm : mg x = some (.ref f)) (hb : BindOk x x st ps) (S : FnScope N ps (defScope st)) (len : ∀ p vs H Q, sp p vs H Q → vs.length = ps.length)
    (b : ∀ (cdv : Value) (A : Around) (outer : List Env) (s : Shared) (H : Hp) (vs : List V) (Q : VK) (p : Addr × Obj), sp p vs H Q →
      ∃ t, PSs (cxH C8.CX0 P w K mg base N x (defScope st) f cdv A outer s H C8.E0 p).nox (defBody st) t ∧ t { nx := fun _ H' => Q .non H', rt := Q } (L2.start N vs) H) : CalE P w K mg base (k + 1) x sp := by
  obtain ⟨fd, F⟩ := F
  have hk := F.kp
  have hbn := F.bindsN hb
  obtain ⟨oc, od, dV, kV, doc, pm, an, cv, ct, sl, rfl, lk, hc, -, -⟩ := F.ex
  exact ⟨f, _, ps, fnE_of lk hc S len (b cv), hm, hk, hbn⟩
end
/-- isinstance(e, c), e the error that is held -/
theorem call_isE2 {X : Cx} {a D : Addr} {oe : Obj} (C : ExcC X.K D) (hz : Zc (.ref D) none oe) (hf : ∃ vs, oe.data = .fields vs) (hp : (a, oe) ∈ X.pn) : CallR X (.builtin "isinstance") (rIsE X.K D a) := by
  intro pins s σ H xs us Q I r h
  obtain ⟨c, cv, b, rfl, hcv, e, q⟩ := h
  cases r with
  | cons rx rr =>
    cases rr with
    | cons rt rr =>
      cases rr
      cases rx
      have ec := hcv _ rt
      subst ec
      obtain ⟨hget, _⟩ := I.pin (a, oe) (List.mem_append.mpr (.inl hp))
      obtain ⟨vs, hv⟩ := hf
      have J : PySem.W.InstAt s.heap a oe D none := by
        obtain ⟨oc, od, oda, osl⟩ := oe
        obtain ⟨h1, h2⟩ := hz
        dsimp only at h1 h2 hv
        subst h1 h2 hv
        exact ⟨hget, rfl, rfl, trivial⟩
      exact PySem.W.kia_one (PySem.W.handS_kitx_exc C.hg C.hk C.hs C.hd C.ha C.hn C.ht C.hm) I.kIn J e (fun z => nomatch z) fun tk => ⟨.bl b, H, I.kept (t' := tk) fun _ _ z => z, rfl, q⟩
/-! ### such a def called in the suite -/
def tCallE (b : Addr) (cls : Value) (d : Option Addr) (sp : SpE) (t : TA) : TE := fun σ H Q => t σ H fun vs H1 => ∀ oe, Zc cls d oe → (∃ vs, oe.data = .fields vs) → sp (b, oe) vs H1 Q
section
variable {X : Cx} {k j : Nat} {sp : SpE} {x : Str} {q pos : Pos} {e : Expr} {es : List Expr} {t : TA} {b : Addr} {oe : Obj} {cls : Value} {d : Option Addr} {pn : List (Addr × Obj)}
theorem pe_cE (c : CalE X.prog X.w X.K X.mg X.base k x sp) (hr : Room j X.A) (hk : k ≤ j) (hz : Zc cls d oe) (hf : ∃ vs, oe.data = .fields vs) (hg : Gl X x) (ha : L2.PA (X.suite b ((b, oe) :: pn)) (e :: es) t) (hdb : (x == ("__debug__" : Str)) = false := by decide)
    (he : starEach (e :: es) (X.suite b ((b, oe) :: pn)).env = (false, eval e (X.suite b ((b, oe) :: pn)).env) :: starEach es (X.suite b ((b, oe) :: pn)).env := by rfl) (hpl : (backTo pos (starEach es (X.suite b ((b, oe) :: pn)).env)).any (·.1) = false := by rfl) :
    PE (X.suite b ((b, oe) :: pn)) (.Call (.Name x q) (e :: es) [] pos) (tCallE b cls d sp t) := by
  obtain ⟨f, fd, ps, F, hm, kp, bn⟩ := c.ex
  refine ⟨fun pins s σ H Q I h => ?_⟩
  refine wpAny_Call_Name_kw (ld_glob I hg hm ?_ hdb)
  refine PySem.W.callWith_K (h₀ := X.base) I.ok.mod.kin kp (thn (ha.run pos pins s σ H _ I h) fun us s1 ⟨vs, H1, I1, r, q⟩ => ⟨I1.kIn, ?_⟩) he hpl
  have q1 := q oe hz hf
  have hl : us.length = ps.length := by rw [← r.length]; exact F.len _ _ _ _ q1
  have bb := bn s1 us I1.kIn (by rw [List.append_nil]; exact hl)
  rw [List.append_nil] at bb
  have P1 := I1.pin (b, oe) (List.mem_append_left _ List.mem_cons_self)
  have hpin : PinOk (X.suite b ((b, oe) :: pn)).stack H1 s1 (b, oe) := ⟨P1.1, P1.2.1, fun hm => (List.mem_cons.mp (I1.stkSub _ hm)).elim P1.2.2.1 P1.2.2.2.1, P1.2.2.2.2⟩
  have room : RoomH k (X.suite b ((b, oe) :: pn)).A := ⟨(hr.mono hk).dp, (hr.mono hk).un⟩
  refine wpAny_call (codeAny_mono (F.run _ _ s1 H1 ⟨us, []⟩ us vs Q (b, oe) room hpin I1.env0 bb r q1) fun r s' hq => ?_)
  cases r with
  | error e => exact False.elim hq
  | ok fl =>
    cases fl with
    | ret u => exact I1.after hq
    | next => exact False.elim hq
    | brk => exact False.elim hq
    | cont => exact False.elim hq
end
/-! ### try: a(b) / except x as n: .. -/
def tTryC (P : Program) (w : World) (K : PySem.W.Frag) (mg : Str → Option Value) (base : Heap) (k ia ib i : Nat) (CP : Addr) (ts : Addr → Value → Option Addr → TS) : TS := fun D σ H => ∃ (f : Addr) (F : LF) (sp : Sp) (v : V),
  σ[ia]? = some (some (.ref f)) ∧ σ[ib]? = some (some v) ∧ H f = some (LmO f F) ∧ Calls P w K mg base k f sp ∧ sp [v] H (fun _ H1 => D.nx σ H1) (WE (wAs K (.ref CP) i ts (fun _ _ _ _ => False) D) σ)
section
variable {X : Cx} {k j ia ib i : Nat} {a y n eP : Str} {CP : Addr} {p1 p2 p3 p4 p5 p6 p7 : Pos} {b₀ : Stmt} {suite : List Stmt} {ts : Addr → Value → Option Addr → TS}
theorem ps_tryc (hs : X.stack = X.env :: X.outer) (hf : X.env.frame = some X.env.locals) (hN : X.N.Nodup) (hi : X.N[i]? = some n) (hln : X.env.kindOf n = some .local) (hg : Gl X eP) (hm : X.mg eP = some (.ref CP)) (hr : Room j X.A) (hk : k ≤ j)
    (hNa : X.N[ia]? = some a) (hva : Vis X.env.scope a) (hNb : X.N[ib]? = some y) (hvb : Vis X.env.scope y)
    (hsu : ∀ (b : Addr) (oe : Obj) (cls : Value) (d : Option Addr) (pn : List (Addr × Obj)), Zc cls d oe → (∃ vs, oe.data = .fields vs) → PSs (X.suite b ((b, oe) :: pn)) (b₀ :: suite) (ts b cls d))
    (hdP : (eP == ("__debug__" : Str)) = false := by decide) (hda : (a == ("__debug__" : Str)) = false := by decide) (hca : (a == ("__classdict__" : Str)) = false := by decide) (hdb : (y == ("__debug__" : Str)) = false := by decide) (hcb : (y == ("__classdict__" : Str)) = false := by decide) :
    PS X (.Try [.Expr (.Call (.Name a p1) [.Name y p2] [] p3) p4] [.ExceptHandler (some (.Name eP p5)) (some n) (b₀ :: suite) p6] [] [] p7) (tTryC X.prog X.w X.K X.mg X.base k ia ib i CP ts) := by
  refine ⟨fun pins s σ H D I h => ?_⟩
  refine (ps_try_as (X := X) (c := .ref CP) (i := i) (n := n) (Wout := fun _ _ _ _ => False) (ts := ts)
    (tb := fun W D σ H => ∃ (f : Addr) (F : LF) (sp : Sp) (v : V), σ[ia]? = some (some (.ref f)) ∧ σ[ib]? = some (some v) ∧ H f = some (LmO f F) ∧ Calls X.prog X.w X.K X.mg X.base k f sp ∧ sp [v] H (fun _ H1 => D.nx σ H1) (WE W σ))
    hs hf hN hi hln ⟨hg, hdP, .inl hm⟩ takes_none5 (fun W pn xe tk _ => ?_) hsu).run pins s σ H D I ?_
  · refine ⟨fun pins s' σ H' D I h' => ?_⟩
    obtain ⟨f, F, sp, v, h1, h2, h3, C, h4⟩ := h'
    refine (pss_one (ps_expr (pos := p4) (e := .Call (.Name a p1) [.Name y p2] [] p3) (te := fun σ0 H0 Q => σ0 = σ ∧ H0 = H' ∧ Q = fun _ H1 => D.nx σ H1) ?_)).run pins s' σ H' D I ⟨rfl, rfl, rfl⟩
    refine ⟨fun pins0 s0 σ0 H0 Q0 I0 h0 => ?_⟩
    obtain ⟨rfl, rfl, rfl⟩ := h0
    refine wpAny_Call_Name_kw (thn ((pe_var (X := X.tr pn xe) (pos := p1) hNa hva hda hca).run pins0 s0 σ0 H0 (fun v H1 => v = .ref f ∧ H1 = H0) I0 ⟨.ref f, h1, rfl, rfl⟩) fun u s1 ⟨v1, H1, I1, r1, q1⟩ => ?_)
    obtain ⟨ev, eH⟩ := q1
    subst ev
    rw [eH] at I1
    obtain rfl : u = Value.ref f := r1
    refine PySem.W.callWith_F (first := []) (lam_fnAt I1 h3) (thn ((pa_cons (pe_var (X := X.tr pn xe) (pos := p2) hNb hvb hdb hcb) pa_nil).run p3 pins0 s1 σ0 H0 (fun vs H1 => vs = [v] ∧ H1 = H0) I1 ⟨v, h2, rfl, rfl⟩) fun us s2 ⟨vs, H2, I2, r, q2⟩ => ?_) (by rfl) (by rfl)
    obtain ⟨rfl, rfl⟩ := q2
    refine ⟨lam_fnAt I2 h3, ?_⟩
    show wpAny _ _ (call (.ref f) us) _ _ _
    refine wpAny_call (codeAny_mono (C.run X.A X.stack s2 H2 us [v] _ (WE W σ0) (hr.mono hk) I2.env0 r h4) fun r s' hq => ?_)
    cases r with
    | error e => exact passAt tk σ0 pins0 H2 s2 e s' I2 hq
    | ok fl =>
      cases fl with
      | ret u => exact I2.after hq
      | next => exact False.elim hq
      | brk => exact False.elim hq
      | cont => exact False.elim hq
  · obtain ⟨f, F, sp, v, h1, h2, h3, C, h4⟩ := h
    exact ⟨f, F, sp, v, h1, h2, h3, C, h4⟩
end
/-! ### defs and makers that raise -/
structure CalX (P : Program) (w : World) (K : PySem.W.Frag) (mg : Str → Option Value) (base : Heap) (k : Nat) (x : Str) (sp : Sp) : Prop where
  ex : ∃ (f : Addr) (fd : FuncData) (ps : List Str), FnOk P w K mg base (L2.CX P w) k f fd ps sp ∧ mg x = some (.ref f) ∧ PySem.W.keepIn K (.ref f) = true ∧ Binds K fd ps []
structure MakX (P : Program) (w : World) (K : PySem.W.Frag) (mg : Str → Option Value) (base : Heap) (k : Nat) (x : Str) (C : Addr) (sp : Sp) : Prop where
  ex : ∃ (f : Addr) (fd : FuncData) (ps : List Str), Mk K C f ∧ FnOk P w K mg base (L2.CX P w) k f fd ps sp ∧ mg x = some (.ref C) ∧ Binds K fd ps []
section
variable {P : Program} {w : World} {K : PySem.W.Frag} {mg : Str → Option Value} {base : Heap} {x qual : Str} {st : Stmt} {f : Addr} {N ps : List Str} {k : Nat} {sp : Sp}
theorem calX (F : ∃ fd, FunD K x x (defArgs st) (defBody st) (defScope st) [] [] f fd) (hm : mg x = some (.ref f)) (hb : BindOk x x st ps) (S : FnScope N ps (defScope st)) (len : ∀ vs H Q E, sp vs H Q E → vs.length = ps.length)
    (b : BodyX P w K mg base x st f N k sp) : CalX P w K mg base (k + 1) x sp := by
  obtain ⟨fd, F⟩ := F
  exact ⟨f, fd, ps, F.ok S len b, hm, F.kp, F.bindsN hb⟩
theorem makX {C : Addr} (F : ∃ fd, FunD K "__init__" qual (defArgs st) (defBody st) (defScope st) [] [] f fd) (M : Mk K C f) (hg : mg x = some (.ref C)) (hb : BindOk "__init__" qual st ps) (S : FnScope N ps (defScope st)) (len : ∀ vs H Q E, sp vs H Q E → vs.length = ps.length)
    (b : BodyX P w K mg base qual st f N k sp) : MakX P w K mg base (k + 1) x C sp := by
  obtain ⟨fd, F⟩ := F
  exact ⟨f, fd, ps, M, F.ok S len b, hg, F.bindsN hb⟩
end
section
variable {X : Cx} {k j : Nat} {C : Addr} {x m : Str} {sp : Sp} {E : XK} {p pos apos : Pos} {e o : Expr} {es : List Expr} {ta : TE} {t : TA}
theorem pe_cX (c : CalX X.prog X.w X.K X.mg X.base k x sp) (hr : Room j X.A) (hk : k ≤ j) (tk : Takes X (fun cls d _ H => E cls d H)) (hg : Gl X x) (ha : L2.PA X (e :: es) t)
    (hdb : (x == ("__debug__" : Str)) = false := by decide) (he : starEach (e :: es) X.env = (false, eval e X.env) :: starEach es X.env := by rfl) (hpl : (backTo pos (starEach es X.env)).any (·.1) = false := by rfl) :
    PE X (.Call (.Name x p) (e :: es) [] pos) (tCall sp [] E t) := by
  obtain ⟨f, fd, ps, F, hm, kp, b⟩ := c.ex
  exact pe_call F (hr.mono hk) hg hm kp b .nil (passes_call tk fun _ _ _ _ h => h) ha hdb he hpl
theorem pe_mkX (c : MakX X.prog X.w X.K X.mg X.base k x C sp) (hr : Room j X.A) (hk : k + 1 ≤ j) (tk : Takes X (fun cls d _ H => E cls d H)) (hg : Gl X x) (ha : L2.PA X (e :: es) t)
    (hdb : (x == ("__debug__" : Str)) = false := by decide) (he : starEach (e :: es) X.env = (false, eval e X.env) :: starEach es X.env := by rfl) (hpl : (backTo pos (starEach es X.env)).any (·.1) = false := by rfl) :
    PE X (.Call (.Name x p) (e :: es) [] pos) (tMake C sp [] E t) := by
  obtain ⟨f, fd, ps, M, F, hm, b⟩ := c.ex
  exact pe_make M F (hr.mono hk) hg hm b .nil (passes_call tk fun _ _ _ _ h => h) ha hdb he hpl
end
end PD

namespace PD
open PySem PySem.Spec PyProof.Rows L2

/-! Phrasedesk, law_k05: what the other laws have, too -/
theorem qt {Q : V → Hp → Prop} {H : Hp} {b c : Bool} (h : b = c) (q : Q (.bl c) H) : Q (.bl b) H := by
  rw [h]
  exact q
theorem ivs {ns : List Int} {i : Nat} {x : Int} (h : ns[i]? = some x) : (ns.map V.int)[i]? = some (V.int x) := by
  rw [List.getElem?_map, h]
  rfl
def spNum (K : PySem.W.Frag) : Sp := fun vs H Q _ => ∃ (v : V) (t : Value) (b1 b2 : Bool), vs = [v] ∧ TyX K H v t ∧ PySem.W.kitOne K t (.type "int") = some b1 ∧ PySem.W.kitOne K t (.type "bool") = some b2 ∧ Q (.bl (b1 && !b2)) H
theorem sc_is_number : FnScope ["value"] ["value"] (defScope s_is_number) := ⟨rfl, rfl, rfl, by decide +kernel, rfl, by decide +kernel, by decide +kernel⟩
theorem c_is_number {P : Program} {w : World} {K : PySem.W.Frag} {mg : Str → Option Value} {base : Heap} (T : Tx K mg) : C8.Cal P w K mg base 1 "is_number" (spNum K) [] := by
  refine calD T.F_is_number T.g_is_number (fun _ _ _ _ _ _ us hl => match us, hl with | [_], _ => rfl) sc_is_number (fun vs H Q E h => ?_) (fun cdv A outer s H vs Q E hr h => ?_)
  · obtain ⟨v, t, b1, b2, rfl, _⟩ := h
    rfl
  · obtain ⟨v, t, b1, b2, rfl, ty, k1, k2, q⟩ := h
    refine ⟨_, (pss_one (ps_ret (pe_and (pe_callB call_isi (by rfl) T.f_isinstance (by decide +kernel) (pa_cons (pv 0) (pa_cons (pe_bltn (v := .ty "int") (by rfl) T.f_int (by decide +kernel) rfl) pa_nil))) (pe_one (pe_not (pe_callB call_isi (by rfl) T.f_isinstance (by decide +kernel) (pa_cons (pv 0) (pa_cons (pe_bltn (v := .ty "bool") (by rfl) T.f_bool (by decide +kernel) rfl) pa_nil)))))))), ?_⟩
    refine ⟨_, rfl, _, _, t, _, b1, rfl, .ty _, ty, k1, b1, rfl, ?_⟩
    cases b1 with
    | false => exact iteF q
    | true => exact iteT ⟨_, rfl, _, _, t, _, b2, rfl, .ty _, ty, k2, b2, rfl, q⟩
def spFrom : Sp := fun vs H Q _ => ∃ (a : Addr) (fr : List Int) (t : Nat) (x : Int), vs = [.ref a, .int (t : Int)] ∧ LsAt H a fr ∧ 0 < t ∧ fr[t - 1]? = some x ∧ Q (.int x) H
theorem sc_put_from : FnScope ["froms", "tongue"] ["froms", "tongue"] (defScope s_put_from) := ⟨rfl, rfl, rfl, by decide +kernel, rfl, by decide +kernel, by decide +kernel⟩
theorem c_put_from {P : Program} {w : World} {K : PySem.W.Frag} {mg : Str → Option Value} {base : Heap} (T : Tx K mg) : C8.Cal P w K mg base 1 "put_from" (spFrom) [] := by
  refine calD T.F_put_from T.g_put_from (fun _ _ _ _ _ _ us hl => match us, hl with | [_, _], _ => rfl) sc_put_from (fun vs H Q E h => ?_) (fun cdv A outer s H vs Q E hr h => ?_)
  · obtain ⟨a, fr, t, x, rfl, _⟩ := h
    rfl
  · obtain ⟨a, fr, t, x, rfl, ha, h0, hx, q⟩ := h
    refine ⟨_, (pss_one (ps_ret (pe_ix ix_list (pv 0) (pe_op op_sub (pv 1) pe_int) (fun _ _ => rfl)))), ?_⟩
    exact ⟨_, rfl, _, rfl, _, _, rfl, rfl, a, _, _, _, rfl, rfl, SqL.of ha, at_of (j := t - 1) (by omega) (ivs hx), q⟩
def spBrk : Sp := fun vs H Q _ => ∃ (a : Addr) (fr : List Int) (p : Addr) (row : List Cell) (t : Nat), vs = [.ref a, .ref p, .int (t : Int)] ∧ LsAt H a fr ∧ FrOk fr ∧ RowAt H p row ∧ RowOk fr row ∧ 0 < t ∧ t ≤ fr.length ∧ Q (.bl (brk fr row t)) H
theorem getD_of {α : Type} {l : List α} {i : Nat} {d x : α} (h : l[i]? = some x) : l.getD i d = x := by
  rw [List.getD_eq_getElem?_getD, h]
  rfl
theorem sc_is_broken : FnScope ["froms", "row", "tongue", "cell", "above"] ["froms", "row", "tongue"] (defScope s_is_broken) := ⟨rfl, rfl, rfl, by decide +kernel, rfl, by decide +kernel, by decide +kernel⟩
theorem c_is_broken {P : Program} {w : World} {K : PySem.W.Frag} {mg : Str → Option Value} {base : Heap} (T : Tx K mg) : C8.Cal P w K mg base 2 "is_broken" (spBrk) [] := by
  refine calD T.F_is_broken T.g_is_broken (fun _ _ _ _ _ _ us hl => match us, hl with | [_, _, _], _ => rfl) sc_is_broken (fun vs H Q E h => ?_) (fun cdv A outer s H vs Q E hr h => ?_)
  · obtain ⟨a, fr, p, row, t, rfl, _⟩ := h
    rfl
  · obtain ⟨a, fr, p, row, t, rfl, ha, fo, hp, ro, h0, h1, q⟩ := h
    obtain ⟨vs, hv, hc⟩ := hp
    obtain ⟨x, ex, x0, xl, xu⟩ := fo.at h0 h1
    have hl1 : t < row.length := by rw [ro.len]; omega
    have hl2 : up fr t < row.length := by rw [ro.len]; omega
    obtain ⟨v1, e1, c1⟩ := hc.each t row[t] (List.getElem?_eq_getElem hl1)
    obtain ⟨v2, e2, c2⟩ := hc.each (up fr t) row[up fr t] (List.getElem?_eq_getElem hl2)
    have g1 : row.getD t none = row[t] := getD_of (List.getElem?_eq_getElem hl1)
    have g2 : row.getD (up fr t) none = row[up fr t] := getD_of (List.getElem?_eq_getElem hl2)
    unfold brk at q
    rw [g1, g2] at q
    refine ⟨_, (pss_cons (ps_set (i := 3) sc_is_broken.nd rfl (Or.inl rfl) (pe_ix ix_list (pv 1) (pv 2) (fun _ _ => rfl)))
    (pss_cons (ps_set (i := 4) sc_is_broken.nd rfl (Or.inl rfl) (pe_ix ix_list (pv 1) (C8.pe_c (c_put_from T) hr (by decide) rfl (pa_cons (pv 0) (pa_cons (pv 2) pa_nil))) (fun _ _ => rfl)))
    (pss_one (ps_ret (pe_or (pe_cmpR op_isN (pv 3) pe_non (nomark _)) (pe_or (pe_cmpR op_isN (pv 4) pe_non (nomark _)) (pe_one (pe_cmpR op_ne (pe_ix ix_tup (pv 3) pe_int (fun _ _ => rfl)) (pe_ix ix_tup (pv 4) pe_int (fun _ _ => rfl)) (nomark _))))))))), ?_⟩
    refine ⟨_, rfl, _, rfl, p, _, _, v1, rfl, rfl, SqL.of hv, atI_nat e1, _, rfl, _, rfl, _, rfl, a, fr, t, x, rfl, ha, h0, ex, p, _, _, v2, rfl, rfl, SqL.of hv, at_of (j := up fr t) xu e2, ?_⟩
    cases q1 : row[t] with
    | none =>
      rw [q1] at c1 q
      cases (show v1 = .non from c1)
      exact ⟨_, rfl, rfl, true, by rw [decide_eq_true rfl], iteT q⟩
    | some c =>
      obtain ⟨n1, b1⟩ := c
      rw [q1] at c1 q
      obtain ⟨p1, rfl, k1⟩ := c1
      refine ⟨_, rfl, rfl, false, by rw [decide_eq_false (by intro z; cases z)], iteF ?_⟩
      cases q2 : row[up fr t] with
      | none =>
        rw [q2] at c2 q
        cases (show v2 = .non from c2)
        exact ⟨_, rfl, rfl, true, by rw [decide_eq_true rfl], iteT q⟩
      | some d =>
        obtain ⟨n2, b2⟩ := d
        rw [q2] at c2 q
        obtain ⟨p2, rfl, k2⟩ := c2
        obtain ⟨m1, m2, em, _, _⟩ : ∃ a b, (some (n1, b1) : Cell) = some (a, some b) ∧ 0 ≤ a ∧ 0 ≤ b := by
          have et : row[t - 1 + 1]? = some (some (n1, b1)) := by
            rw [show t - 1 + 1 = t by omega, List.getElem?_eq_getElem hl1, q1]
          rcases ro.each (t - 1) _ et with z | z
          · cases z
          · exact z
        cases em
        refine ⟨_, rfl, rfl, false, by rw [decide_eq_false (by intro z; cases z)], iteF ?_⟩
        refine ⟨_, rfl, p1, _, _, _, rfl, rfl, SqT.of k1, atI_nat (j := 1) rfl, _, rfl, p2, _, _, _, rfl, rfl, SqT.of k2, atI_nat (j := 0) rfl, rfl, ?_⟩
        refine qt ?_ q
        show (!decide (V.int m2 = V.int n2)) = !decide (some m2 = some n2)
        by_cases z : m2 = n2
        · subst z
          simp
        · have z1 : ¬ V.int m2 = V.int n2 := fun y => z (V.int.inj y)
          have z2 : ¬ some m2 = some n2 := fun y => z (Option.some.inj y)
          rw [decide_eq_false z1, decide_eq_false z2]

def spChain : Sp := fun vs H Q _ => ∃ (a : Addr) (fr : List Int) (p : Addr) (row : List Cell) (t : Nat), vs = [.ref a, .ref p, .int (t : Int)] ∧ LsAt H a fr ∧ FrOk fr ∧ RowAt H p row ∧ RowOk fr row ∧ t ≤ fr.length ∧
  (chain fr row t = none → ∀ H' : Hp, Same H H' → Q .non H') ∧ (∀ c, chain fr row t = some c → ∀ (H' : Hp) (l : Addr), Same H H' → H l = none → LsAt H' l c → Q (.ref l) H')
theorem map_some_app {o : Option (List Int)} {acc : List Int} {x : Int} : (o.map (x :: ·)).map (acc ++ ·) = o.map ((acc ++ [x]) ++ ·) := by
  cases o with
  | none => rfl
  | some r => simp
theorem sc_chain_up : FnScope ["froms", "row", "tongue", "chain", "at"] ["froms", "row", "tongue"] (defScope s_chain_up) := ⟨rfl, rfl, rfl, by decide +kernel, rfl, by decide +kernel, by decide +kernel⟩
theorem c_chain_up {P : Program} {w : World} {K : PySem.W.Frag} {mg : Str → Option Value} {base : Heap} (T : Tx K mg) : C8.Cal P w K mg base 3 "chain_up" (spChain) [] := by
  refine calD T.F_chain_up T.g_chain_up (fun _ _ _ _ _ _ us hl => match us, hl with | [_, _, _], _ => rfl) sc_chain_up (fun vs H Q E h => ?_) (fun cdv A outer s H vs Q E hr h => ?_)
  · obtain ⟨a, fr, p, row, t, rfl, _⟩ := h
    rfl
  · obtain ⟨a, fr, p, row, t, rfl, ha, fo, hp, ro, ht, q0, q1⟩ := h
    refine ⟨_, (pss_cons (ps_set (i := 3) sc_chain_up.nd rfl (Or.inl rfl) (pe_lst pa_nil))
    (pss_cons (ps_set (i := 4) sc_chain_up.nd rfl (Or.inl rfl) (pv 2))
    (pss_cons (ps_while PassesOwn.never (pt_cmpR op_gt (pv 4) pe_int (nomark _))
      (pss_cons (ps_expr (pe_bm PySem.F.plainAttrs_list PySem.F.slot_list_append PySem.F.type_list_append mt_append (pv 3) (pa_cons (pv 4) pa_nil)))
      (pss_cons (ps_if (pt_val (C8.pe_c (c_is_broken T) hr (by decide) rfl (pa_cons (pv 0) (pa_cons (pv 1) (pa_cons (pv 4) pa_nil)))))
        (pss_one (ps_ret (pv 3)))
        pss_nil)
      (pss_one (ps_set (i := 4) sc_chain_up.nd rfl (Or.inl rfl) (C8.pe_c (c_put_from T) hr (by decide) rfl (pa_cons (pv 0) (pa_cons (pv 4) pa_nil))))))))
    (pss_one (ps_ret pe_non))))), ?_⟩
    refine ⟨Nat.zero_le _, fun l nl => ?_⟩
    have s0 : Same H (upd H l (.lst [])) := same_upd nl
    refine ⟨_, rfl, fun u σ H1 => ∃ acc : List Int, σ = [some (.ref a), some (.ref p), some (.int (t : Int)), some (.ref l), some (.int (u : Int))] ∧ u ≤ fr.length ∧ Same H H1 ∧ LsAt H1 l acc ∧ acc.length + u ≤ t ∧ chain fr row t = (chain fr row u).map (acc ++ ·), ⟨t, [], rfl, ht, s0, upd_same, by simp, by simp⟩, ?_⟩
    rintro u σ H1 ⟨acc, rfl, hu, s1, hl, hn, he⟩
    refine ⟨_, rfl, _, _, rfl, rfl, decide ((0 : Int) < (u : Int)), rfl, ?_⟩
    by_cases h0 : (0 : Int) < (u : Int)
    · rw [decide_eq_true h0]
      refine iteT ⟨fun σ' H' => ∃ m', m' < u ∧ ∃ acc : List Int, σ' = [some (.ref a), some (.ref p), some (.int (t : Int)), some (.ref l), some (.int (m' : Int))] ∧ m' ≤ fr.length ∧ Same H H' ∧ LsAt H' l acc ∧ acc.length + m' ≤ t ∧ chain fr row t = (chain fr row m').map (acc ++ ·), fun σ' H' h => h, ?_⟩
      have u0 : 0 < u := by omega
      have hz : acc.length < sizeLine := small1000 (by have := fo.hi; omega)
      refine ⟨_, rfl, .inl ⟨rfl, _, SqL.of hl⟩, _, rfl, l, _, _, rfl, rfl, hl, by rw [List.length_map]; exact hz, ?_⟩
      have s2 : Same H (upd H1 l (.lst (acc.map V.int ++ [V.int (u : Int)]))) := Same.chg s1 nl
      have hl2 : LsAt (upd H1 l (.lst (acc.map V.int ++ [V.int (u : Int)]))) l (acc ++ [(u : Int)]) := by
        unfold LsAt
        rw [upd_same, List.map_append]
        rfl
      refine ⟨_, rfl, _, rfl, _, rfl, a, fr, p, row, u, rfl, ha.same s2, fo, hp.same s2, ro, u0, hu, brk fr row u, rfl, ?_⟩
      have hs := chain_step (row := row) fo u0 hu
      cases hb : brk fr row u with
      | true =>
        rw [hb] at hs
        have ec : chain fr row t = some (acc ++ [(u : Int)]) := by
          rw [he, hs]
          rfl
        exact iteT ⟨_, rfl, q1 _ ec _ l s2 nl hl2⟩
      | false =>
        rw [hb] at hs
        obtain ⟨x, ex, x0, xl, xu⟩ := fo.at u0 hu
        refine iteF ⟨_, rfl, _, rfl, a, fr, u, x, rfl, ha.same s2, u0, ex, ?_⟩
        refine ⟨up fr u, up_lt fo u0 hu, acc ++ [(u : Int)], by rw [xu]; rfl, by have := up_lt fo u0 hu; omega, s2, hl2, ?_, ?_⟩
        · have := up_lt fo u0 hu
          simp
          omega
        · rw [he, hs]
          exact map_some_app
    · rw [decide_eq_false h0]
      have u0 : u = 0 := by omega
      subst u0
      refine iteF (q0 ?_ _ s1)
      rw [he, chain_zero]
      rfl
def spCopyI : Sp := fun vs H Q _ => ∃ i : Int, vs = [.int i] ∧ Q (.int i) H
theorem sc_copied : FnScope ["value", "part"] ["value"] (defScope s_copied) := ⟨rfl, rfl, rfl, by decide +kernel, rfl, by decide +kernel, by decide +kernel⟩
theorem c_copied_int {P : Program} {w : World} {K : PySem.W.Frag} {mg : Str → Option Value} {base : Heap} (T : Tx K mg) : C8.Cal P w K mg base 1 "copied" (spCopyI) [] := by
  refine calD T.F_copied T.g_copied (fun _ _ _ _ _ _ us hl => match us, hl with | [_], _ => rfl) sc_copied (fun vs H Q E h => ?_) (fun cdv A outer s H vs Q E hr h => ?_)
  · obtain ⟨i, rfl, _⟩ := h
    rfl
  · obtain ⟨i, rfl, q⟩ := h
    refine ⟨_, (pss_cons (ps_if (pt_val (pe_callB call_isi (by rfl) T.f_isinstance (by decide +kernel) (pa_cons (pv 0) (pa_cons (pe_bltn (v := .ty "list") (by rfl) T.f_list (by decide +kernel) rfl) pa_nil))))
      (pss_one ps_never)
      pss_nil)
    (pss_one (ps_ret (pv 0)))), ?_⟩
    refine ⟨_, rfl, _, _, _, _, false, rfl, .ty _, .base (.int i), is_ty (by decide +kernel), false, rfl, iteF ⟨_, rfl, q⟩⟩
def spCopyL : Sp := fun vs H Q _ => ∃ (a : Addr) (ns : List Int), vs = [.ref a] ∧ LsAt H a ns ∧ ns.length ≤ 5000 ∧ ∀ (H' : Hp) (l : Addr), Same H H' → H l = none → LsAt H' l ns → Q (.ref l) H'
theorem small5000 {n : Nat} (h : n ≤ 5000) : n < sizeLine := Nat.lt_of_le_of_lt h (by decide)
theorem ivs_of {ns : List Int} {i : Nat} {x : V} (h : (ns.map V.int)[i]? = some x) : ∃ z, x = .int z ∧ ns[i]? = some z := by
  rw [List.getElem?_map] at h
  cases e : ns[i]? with
  | none =>
    rw [e] at h
    cases h
  | some z =>
    rw [e] at h
    exact ⟨z, (Option.some.inj h).symm, rfl⟩
theorem c_copied {P : Program} {w : World} {K : PySem.W.Frag} {mg : Str → Option Value} {base : Heap} (T : Tx K mg) : C8.Cal P w K mg base 2 "copied" (spCopyL) [] := by
  refine calD T.F_copied T.g_copied (fun _ _ _ _ _ _ us hl => match us, hl with | [_], _ => rfl) sc_copied (fun vs H Q E h => ?_) (fun cdv A outer s H vs Q E hr h => ?_)
  · obtain ⟨a, ns, rfl, _⟩ := h
    rfl
  · obtain ⟨a, ns, rfl, ha, hn, q⟩ := h
    refine ⟨_, (pss_cons (ps_if (pt_val (pe_callB call_isi (by rfl) T.f_isinstance (by decide +kernel) (pa_cons (pv 0) (pa_cons (pe_bltn (v := .ty "list") (by rfl) T.f_list (by decide +kernel) rfl) pa_nil))))
      (pss_one (ps_ret (pe_lc (own := [("part", 1)]) (g := gName 1) (tt := tYes) (by rfl) sc_copied.nd (pi_list (pv 0)) (blkOk_by (own := [("part", 1)]) (N := ["value", "part"]) (sc := defScope s_copied) (by decide +kernel)) (fun _ _ _ _ _ => (pg_name (i := 1) sc_copied.nd rfl (Or.inl rfl))) (fun _ _ _ _ _ => pts_nil) (fun _ _ _ _ _ => (C8.pe_c (c_copied_int T) hr (by decide) rfl (pa_cons (pv 1) pa_nil))))))
      pss_nil)
    (pss_one (ps_ret (pv 0)))), ?_⟩
    refine ⟨_, rfl, _, _, _, _, true, rfl, .ty _, .base (.lst ha), is_ty (by decide +kernel), true, rfl, iteT ⟨_, rfl, a, rfl, ⟨_, SqL.of ha⟩, fun D nD => ?_⟩⟩
    refine lc_list (K := K) (a := a) (xs := ns.map V.int) (fun i H1 => Same H H1 ∧ LsAt H1 D (ns.take i)) ⟨same_upd nD, upd_same⟩ (fun i H1 _ p => SqL.of (ha.same p.1)) ?_ ?_
    · rintro i x H1 hx ⟨s1, hD⟩
      obtain ⟨z, rfl, ez⟩ := ivs_of hx
      refine ⟨rfl, _, rfl, z, rfl, _, hD, ?_, Same.chg s1 nD, ?_⟩
      · rw [List.length_map, List.length_take]
        exact Nat.lt_of_le_of_lt (Nat.min_le_right _ _) (small5000 hn)
      · unfold LsAt
        rw [upd_same, List.take_add_one, ez, List.map_append]
        rfl
    · rintro H1 ⟨s1, hD⟩
      rw [List.length_map, List.take_length] at hD
      exact q _ D s1 nD hD
theorem bl_of {b : Bool} (h : b = true) : V.bl b = V.bl true := by rw [h]
theorem all_true : ∀ n : Nat, (List.replicate n true).all id = true
  | 0 => rfl
  | n + 1 => by
    rw [List.replicate_succ]
    simp
/-- what a question of an answer about a row is asked with -/
structure Asked (H : Hp) (a : Addr) (fr : List Int) (p : Addr) (row : List Cell) (t : Nat) : Prop where
  ha : LsAt H a fr
  fo : FrOk fr
  hp : RowAt H p row
  ro : RowOk fr row
  ht : t ≤ fr.length
theorem Asked.same {H H' : Hp} (s : Same H H') {a : Addr} {fr : List Int} {p : Addr} {row : List Cell} {t : Nat} (h : Asked H a fr p row t) : Asked H' a fr p row t := ⟨h.ha.same s, h.fo, h.hp.same s, h.ro, h.ht⟩
def spFreshShows : Sp := fun vs H Q _ => ∃ (y a : Addr) (fr : List Int) (p : Addr) (row : List Cell) (t : Nat), vs = [.ref y, .ref a, .ref p, .int (t : Int)] ∧ Asked H a fr p row t ∧ ∀ H' : Hp, Same H H' → Q (.bl (decide (chain fr row t = none))) H'
def cfs (l : Addr) : List (Str × V) := [("chain", .ref l)]
def spOldInit (C : Addr) : Sp := fun vs H Q _ => ∃ (y dy a : Addr) (ns : List Int), vs = [.ref y, .ref a] ∧ H y = some (.ins C dy []) ∧ LsAt H a ns ∧ ns.length ≤ 5000 ∧
  ∀ (H' : Hp) (l : Addr), H l = none → LsAt H' l ns → H' y = some (.ins C dy (cfs l)) → (∀ b o, H b = some o → b ≠ y → H' b = some o) → Q .non H'
/-- an Old at y, its chain the list at l -/
structure OldAt (C : Addr) (H : Hp) (y l : Addr) (ns : List Int) : Prop where
  ob : ∃ dy, H y = some (.ins C dy (cfs l))
  ls : LsAt H l ns
theorem OldAt.same {C : Addr} {H H' : Hp} (s : Same H H') {y l : Addr} {ns : List Int} (h : OldAt C H y l ns) : OldAt C H' y l ns := ⟨let ⟨d, e⟩ := h.ob; ⟨d, s _ _ e⟩, h.ls.same s⟩
def spOldShows (C : Addr) : Sp := fun vs H Q _ => ∃ (y a : Addr) (fr : List Int) (p : Addr) (row : List Cell) (t : Nat) (l : Addr) (ns : List Int), vs = [.ref y, .ref a, .ref p, .int (t : Int)] ∧ Asked H a fr p row t ∧ OldAt C H y l ns ∧ ns.length ≤ 5000 ∧
  ∀ H' : Hp, Same H H' → Q (.bl (decide (chain fr row t = some ns))) H'
theorem cfs_at (l : Addr) : (cfs l).lookup ("chain" : Str) = some (.ref l) := by
  unfold cfs
  simp [List.lookup]
def spCellAt (K : PySem.W.Frag) : Sp := fun vs H Q _ => ∃ (a : Addr) (ns : List Int) (k : Int), vs = [.ref a, .int k] ∧ SqL K H a (ns.map V.int) ∧ 0 ≤ k ∧ ∀ z : Int, Q (.int z) H
def prims : List Int := [1000003, 1000033, 1000037, 1000039, 1000081, 1000099, 1000117, 1000121, 1000133, 1000151, 1000159, 1000171, 1000183, 1000187, 1000193, 1000199]
theorem prims_at : ∀ j : Nat, j < 16 → ∃ p : Int, prims[j]? = some p ∧ p ≠ 0 := by
  intro j hj
  have h : ∀ j : _root_.Fin 16, ∃ p : Int, prims[j.val]? = some p ∧ p ≠ 0 := by
    intro j
    have e : j.val < prims.length := j.isLt
    refine ⟨prims[j.val], List.getElem?_eq_getElem e, ?_⟩
    revert j
    decide
  exact h ⟨j, hj⟩
theorem fmod_lo {x m : Int} (h : 0 < m) : 0 ≤ x.fmod m := by
  rw [Int.fmod_eq_emod_of_nonneg _ (by omega)]
  exact Int.emod_nonneg _ (by omega)
theorem fmod_hi {x m : Int} (h : 0 < m) : x.fmod m < m := by
  rw [Int.fmod_eq_emod_of_nonneg _ (by omega)]
  exact Int.emod_lt_of_pos _ h
def spDraw : Sp := fun vs H Q _ => ∃ (c k m : Int), vs = [.int c, .int k, .int m] ∧ 0 < m ∧ ∀ (H' : Hp) (z : Int), Same H H' → 0 ≤ z → z < m → Q (.int z) H'
def spNumber : Sp := fun vs H Q _ => ∃ (c k m : Int), vs = [.int c, .int k, .int m] ∧ 0 ≤ k ∧ k ≤ 1000 ∧ 0 < m ∧ m ≤ 100000000000000000000 ∧ ∀ (H' : Hp) (z : Int), Same H H' → 0 ≤ z → z < m → Q (.int z) H'
def sevens : List Int := [1, 7, 49, 343, 2401]
theorem sevens_at : ∀ j : Nat, j < 5 → ∃ p : Int, sevens[j]? = some p ∧ 1 ≤ p ∧ p ≤ 2401 := by
  intro j hj
  have h : ∀ j : _root_.Fin 5, ∃ p : Int, sevens[j.val]? = some p ∧ 1 ≤ p ∧ p ≤ 2401 := by
    intro j
    have e : j.val < sevens.length := j.isLt
    refine ⟨sevens[j.val], List.getElem?_eq_getElem e, ?_⟩
    revert j
    decide
  exact h ⟨j, hj⟩
theorem e18 : (10 : Int) ^ ((18 : Int).toNat) = 1000000000000000000 := by decide
theorem mul_big {c k : Int} (h1 : -1000000000000000000 ≤ c) (h2 : c < 1000811284336359577647248616306026718125307353262274591) (k0 : 0 ≤ k) (k1 : k ≤ 1000) : CMulW (c + 977 * k) (c + 31 * k + 5) := by
  have p : (2 : Nat) ^ 200 = 1606938044258990275541962092341162602522202993782792835301376 := by decide
  refine wide_mul (a := 200) (b := 200) ?_ ?_ (by decide) (by decide) (by decide)
  · rw [p]
    omega
  · rw [p]
    omega
theorem fdiv_in {x d m : Int} (hd : 1 ≤ d) (hm : 0 < m) (h0 : 0 ≤ x) (h1 : x < d * m) : 0 ≤ x.fdiv d ∧ x.fdiv d < m := by
  rw [Int.fdiv_eq_ediv_of_nonneg _ (by omega)]
  exact ⟨Int.ediv_nonneg h0 (by omega), Int.ediv_lt_of_lt_mul (by omega) (by rw [Int.mul_comm]; exact h1)⟩

def spLawFroms (K : PySem.W.Frag) : Sp := fun vs H Q _ => ∃ (a : Addr) (ns : List Int) (b : Int), vs = [.ref a, .int b] ∧ SqL K H a (ns.map V.int) ∧ 0 ≤ b ∧ b ≤ 100 ∧ ∀ (H' : Hp) (l : Addr) (fr : List Int), Same H H' → H l = none → LsAt H' l fr → FrOk fr → Q (.ref l) H'
theorem brk_cases {H : Hp} {fr : List Int} {row : List Cell} {vs : List V} {t : Nat} (fo : FrOk fr) (ro : RowOk fr row) (hc : Cells H vs row) (h0 : 0 < t) (h1 : t ≤ fr.length) : ∃ v1 v2, vs[t]? = some v1 ∧ vs[up fr t]? = some v2 ∧
    ((v1 = .non ∧ brk fr row t = true) ∨ (∃ p1, v1 = .ref p1 ∧ v2 = .non ∧ brk fr row t = true) ∨
      ∃ p1 p2 n1 m1 n2 b2, v1 = .ref p1 ∧ v2 = .ref p2 ∧ H p1 = some (.tup [.int n1, .int m1]) ∧ H p2 = some (.tup [.int n2, oV b2]) ∧ brk fr row t = !decide (m1 = n2)) := by
  have hl1 : t < row.length := by rw [ro.len]; omega
  have hl2 : up fr t < row.length := by
    have := up_lt fo h0 h1
    rw [ro.len]
    omega
  obtain ⟨v1, e1, c1⟩ := hc.each t row[t] (List.getElem?_eq_getElem hl1)
  obtain ⟨v2, e2, c2⟩ := hc.each (up fr t) row[up fr t] (List.getElem?_eq_getElem hl2)
  have g1 : row.getD t none = row[t] := getD_of (List.getElem?_eq_getElem hl1)
  have g2 : row.getD (up fr t) none = row[up fr t] := getD_of (List.getElem?_eq_getElem hl2)
  refine ⟨v1, v2, e1, e2, ?_⟩
  unfold brk
  rw [g1, g2]
  cases q1 : row[t] with
  | none =>
    rw [q1] at c1
    exact .inl ⟨c1, rfl⟩
  | some c =>
    obtain ⟨n1, b1⟩ := c
    rw [q1] at c1
    obtain ⟨p1, rfl, k1⟩ := c1
    cases q2 : row[up fr t] with
    | none =>
      rw [q2] at c2
      exact .inr (.inl ⟨p1, rfl, c2, rfl⟩)
    | some d =>
      obtain ⟨n2, b2⟩ := d
      rw [q2] at c2
      obtain ⟨p2, rfl, k2⟩ := c2
      obtain ⟨m1, m2, em, _, _⟩ : ∃ a b, (some (n1, b1) : Cell) = some (a, some b) ∧ 0 ≤ a ∧ 0 ≤ b := by
        have et : row[t - 1 + 1]? = some (some (n1, b1)) := by
          rw [show t - 1 + 1 = t by omega, List.getElem?_eq_getElem hl1, q1]
        rcases ro.each (t - 1) _ et with z | z
        · cases z
        · exact z
      cases em
      refine .inr (.inr ⟨p1, p2, n1, m2, n2, b2, rfl, rfl, k1, k2, ?_⟩)
      show (!decide (some m2 = some n2)) = !decide (m2 = n2)
      by_cases z : m2 = n2
      · subst z
        simp
      · simp [z]
def spLawChain : Sp := fun vs H Q _ => ∃ (a : Addr) (fr : List Int) (p : Addr) (row : List Cell) (t : Nat), vs = [.ref a, .ref p, .int (t : Int)] ∧ Asked H a fr p row t ∧
  ∀ (H' : Hp) (l : Addr), Same H H' → H l = none → LsAt H' l ((chain fr row t).getD []) → Q (.ref l) H'
theorem dec_ne {x y : Int} : (!decide (V.int x = V.int y)) = !decide (y = x) := by
  by_cases z : x = y
  · subst z
    simp
  · have z1 : ¬ V.int x = V.int y := fun e => z (V.int.inj e)
    have z2 : ¬ y = x := fun e => z e.symm
    rw [decide_eq_false z1, decide_eq_false z2]
def spSays : Sp := fun vs H Q _ => ∃ b c : Bool, vs = [.bl b, .bl c] ∧ Q (.bl (decide (b = c))) H

end PD

namespace PD
open PySem PySem.Spec PyProof.Rows L2

/-! Phrasedesk, the desk of the law's own: texts, what stands, rows, all ever put -/
--# _law_text
def spText : Sp := fun vs H Q _ => ∃ n : Int, vs = [.int n] ∧ 0 ≤ n ∧ ∀ x : Str, TxOk x → Q (.str x) H
--# _law_new
def spNew : Sp := fun vs H Q _ => vs = [] ∧ ∀ (H' : Hp) (o l d : Addr), Same H H' → H o = none → H l = none → H d = none → Here H' o l d De.none → Q (.ref o) H'
--# _law_now
theorem lieOf {H : Hp} {o l d : Addr} {S : De} (h : Here H o l d S) (p t : Nat) {b : Addr} (hb : H b = some (.tup ((ty p t).map kV))) : ∃ r, DGet H d (.ref b) r ∧ LieV H l r (S.lie p t) := by
  obtain ⟨kvs, h1, _, h2⟩ := h.lie
  exact ⟨_, DGet.t h1 hb, h2 p t⟩
theorem Here.isD {H : Hp} {o l d : Addr} {S : De} (h : Here H o l d S) : IsD H d := let ⟨kvs, h1, _, _⟩ := h.lie; .inr ⟨kvs, .inl h1⟩
theorem last_at {ns : List Int} {k : Int} (h : ns.getLast? = some k) : atI (ns.map V.int) (-1) = some (V.int k) := by
  obtain ⟨ys, rfl⟩ := List.getLast?_eq_some_iff.mp h
  rw [List.map_append]
  exact atI_last _ _
def spNow : Sp := fun vs H Q _ => ∃ (o l d : Addr) (S : De) (p t : Nat), vs = [.ref o, .int p, .int t] ∧ Here H o l d S ∧ ∀ H' : Hp, Same H H' → Q (oV (S.now p t)) H'
--# _law_row
def spRowOf : Sp := fun vs H Q _ => ∃ (o l d : Addr) (S : De) (f : Addr) (fr : List Int) (p : Nat), vs = [.ref o, .ref f, .int p] ∧ Here H o l d S ∧ S.Num ∧ LsAt H f fr ∧ fr.length ≤ 100 ∧
  ∀ (H' : Hp) (a : Addr), Same H H' → H a = none → RowAt H' a (S.row (fr.length + 1) p) → Q (.ref a) H'
--# _law_ever
def spEver : Sp := fun vs H Q _ => ∃ (o l d : Addr) (S : De) (p t : Nat), vs = [.ref o, .int p, .int t] ∧ Here H o l d S ∧ ∀ (H' : Hp) (a : Addr), Same H H' → H a = none → EvAt H' a (S.ever p t) → Q (.ref a) H'
theorem dec_nat {x y : Nat} : decide (V.int (x : Int) = V.int (y : Int)) = decide (x = y) := by
  by_cases z : x = y
  · subst z
    simp
  · have z1 : ¬ V.int (x : Int) = V.int (y : Int) := fun e => z (by have := V.int.inj e; omega)
    rw [decide_eq_false z1, decide_eq_false z]
--# _law_put
def spPutL : Sp := fun vs H Q _ => ∃ (o l d : Addr) (S : De) (p t : Nat) (x : Str) (s : Option Int), vs = [.ref o, .int p, .int t, .str x, oV s] ∧ Here H o l d S ∧ S.puts.length < 5000 ∧
  ∀ H' : Hp, Off o l d H H' → Still H H' d → Here H' o l d (S.lay p t x s) → Q (.int (S.puts.length : Int)) H'

end PD

namespace PD
open PySem PySem.Spec PyProof.Rows L2

/-! Phrasedesk: the program's own state: Past -/
def spCount : Sp := fun vs H Q _ => ∃ i : Int, vs = [.int i] ∧ Q (.bl (decide (0 ≤ i))) H
theorem sc_is_count : FnScope ["value"] ["value"] (defScope s_is_count) := ⟨rfl, rfl, rfl, by decide +kernel, rfl, by decide +kernel, by decide +kernel⟩
theorem c_is_count {P : Program} {w : World} {K : PySem.W.Frag} {mg : Str → Option Value} {base : Heap} (T : Tx K mg) : C8.Cal P w K mg base 2 "is_count" (spCount) [] := by
  refine calD T.F_is_count T.g_is_count (fun _ _ _ _ _ _ us hl => match us, hl with | [_], _ => rfl) sc_is_count (fun vs H Q E h => ?_) (fun cdv A outer s H vs Q E hr h => ?_)
  · obtain ⟨i, rfl, _⟩ := h
    rfl
  · obtain ⟨i, rfl, q⟩ := h
    refine ⟨_, (pss_one (ps_ret (pe_and (C8.pe_c (c_is_number T) hr (by decide) rfl (pa_cons (pv 0) pa_nil)) (pe_one (pe_cmpR op_ge (pv 0) pe_int (nomark _)))))), ?_⟩
    refine ⟨_, rfl, _, _, true, false, rfl, .base (.int i), is_ty (by decide +kernel), is_ty (by decide +kernel), true, rfl, iteT ⟨_, rfl, i, 0, rfl, rfl, q⟩⟩
def spTongue : Sp := fun vs H Q _ => ∃ (a : Addr) (fr : List Int) (t : Int), vs = [.ref a, .int t] ∧ LsAt H a fr ∧ Q (.bl (decide (0 ≤ t) && decide (t ≤ (fr.length : Int)))) H
theorem sc_is_tongue : FnScope ["froms", "value"] ["froms", "value"] (defScope s_is_tongue) := ⟨rfl, rfl, rfl, by decide +kernel, rfl, by decide +kernel, by decide +kernel⟩
theorem c_is_tongue {P : Program} {w : World} {K : PySem.W.Frag} {mg : Str → Option Value} {base : Heap} (T : Tx K mg) : C8.Cal P w K mg base 3 "is_tongue" (spTongue) [] := by
  refine calD T.F_is_tongue T.g_is_tongue (fun _ _ _ _ _ _ us hl => match us, hl with | [_, _], _ => rfl) sc_is_tongue (fun vs H Q E h => ?_) (fun cdv A outer s H vs Q E hr h => ?_)
  · obtain ⟨a, fr, t, rfl, _⟩ := h
    rfl
  · obtain ⟨a, fr, t, rfl, ha, q⟩ := h
    refine ⟨_, (pss_one (ps_ret (pe_and (C8.pe_c (c_is_count T) hr (by decide) rfl (pa_cons (pv 1) pa_nil)) (pe_one (pe_cmpR op_le (pv 1) (pe_callB call_len_seq (by rfl) T.f_len (by decide +kernel) (pa_cons (pv 0) pa_nil)) (nomark _)))))), ?_⟩
    refine ⟨_, rfl, t, rfl, decide (0 ≤ t), rfl, ?_⟩
    by_cases h0 : 0 ≤ t
    · rw [decide_eq_true h0] at q ⊢
      refine iteT ⟨_, rfl, _, rfl, a, _, rfl, .inl (SqL.of ha), t, _, rfl, rfl, ?_⟩
      rw [List.length_map]
      exact q
    · rw [decide_eq_false h0] at q ⊢
      exact iteF q
def spFroms : Sp := fun vs H Q _ => ∃ (a : Addr) (fr : List Int), vs = [.ref a] ∧ LsAt H a fr ∧ FrOk fr ∧ ∀ H' : Hp, Same H H' → Q (.bl true) H'
theorem bl_of2 {b : Bool} (h : b = true) : V.bl b = V.bl true := by rw [h]
theorem all_true2 : ∀ n : Nat, (List.replicate n true).all id = true
  | 0 => rfl
  | n + 1 => by
    rw [List.replicate_succ]
    simp
theorem sc_is_froms : FnScope ["value", "place", "source"] ["value"] (defScope s_is_froms) := ⟨rfl, rfl, rfl, by decide +kernel, rfl, by decide +kernel, by decide +kernel⟩
theorem c_is_froms {P : Program} {w : World} {K : PySem.W.Frag} {mg : Str → Option Value} {base : Heap} (T : Tx K mg) : C8.Cal P w K mg base 3 "is_froms" (spFroms) [] := by
  refine calD T.F_is_froms T.g_is_froms (fun _ _ _ _ _ _ us hl => match us, hl with | [_], _ => rfl) sc_is_froms (fun vs H Q E h => ?_) (fun cdv A outer s H vs Q E hr h => ?_)
  · obtain ⟨a, fr, rfl, _⟩ := h
    rfl
  · obtain ⟨a, fr, rfl, ha, fo, q⟩ := h
    refine ⟨_, (pss_cons (ps_if (PW.pt (pw_or (pt_not (pt_val (pe_callB call_isi (by rfl) T.f_isinstance (by decide +kernel) (pa_cons (pv 0) (pa_cons (pe_bltn (v := .ty "list") (by rfl) T.f_list (by decide +kernel) rfl) pa_nil))))) (pw_or1 (pt_not (pt_chain op_le op_le (pe_glob (v := .int 2) rfl (T.g_FEWEST_TONGUES).choose_spec ⟨_, rfl⟩) (pe_op op_add (pe_callB call_len_seq (by rfl) T.f_len (by decide +kernel) (pa_cons (pv 0) pa_nil)) pe_int) (pe_glob (v := .int 8) rfl (T.g_MOST_TONGUES).choose_spec ⟨_, rfl⟩))))))
      (pss_one (ps_ret pe_bl))
      pss_nil)
    (pss_one (ps_ret (pe_callB (cr_all rfl) (by rfl) T.f_all (by decide +kernel) (pa_cons (pe_lc (own := [("place", 1), ("source", 2)]) (g := gTup K 2 (gCons (gName 1) (gCons (gName 2) (gNil)))) (tt := tYes) (by rfl) sc_is_froms.nd (pi_enum (by rfl) T.f_enumerate (pa_cons (pv 0) pa_nil)) (blkOk_by (own := [("place", 1), ("source", 2)]) (N := ["value", "place", "source"]) (sc := defScope s_is_froms) (by decide +kernel)) (fun _ _ _ _ _ => (pg_tup rfl (pgs_cons (pg_name (i := 1) sc_is_froms.nd rfl (Or.inl rfl) (Or.inr rfl)) (pgs_cons (pg_name (i := 2) sc_is_froms.nd rfl (Or.inl rfl) (Or.inr rfl)) pgs_nil)))) (fun _ _ _ _ _ => pts_nil) (fun _ _ _ _ _ => (pe_and (C8.pe_c (c_is_count T) hr (by decide) rfl (pa_cons (pv 2) pa_nil)) (pe_one (pe_cmpR op_le (pv 2) (pv 1) (nomark _)))))) pa_nil))))), ?_⟩
    have lo := fo.lo
    have hi := fo.hi
    refine ⟨_, rfl, _, _, _, _, true, rfl, .ty _, .base (.lst ha), is_ty (by decide +kernel), true, rfl, iteF ?_⟩
    refine ⟨_, rfl, a, _, rfl, .inl (SqL.of ha), _, _, rfl, rfl, _, _, rfl, rfl, true, bl_of2 (decide_eq_true ?_), iteT ⟨_, _, rfl, rfl, true, bl_of2 (decide_eq_true ?_), iteF ?_⟩⟩
    · rw [List.length_map]
      omega
    · rw [List.length_map]
      omega
    · refine ⟨_, rfl, a, _, rfl, SqL.of ha, fun D nD => ?_⟩
      refine lc_it (walk_enum (K := K) (a := a) (xs := fr.map V.int)) (fun i H1 => Same H H1 ∧ H1 D = some (.lst ((List.replicate i true).map V.bl))) ⟨same_upd nD, upd_same⟩ (fun i H1 _ p => SqL.of (ha.same p.1)) ?_ ?_
      · rintro i v H1 H2 hi2 ⟨s1, hD⟩ ⟨U, x, y, rfl, nU, rfl, e1, e2⟩
        cases (Option.some.inj e1)
        obtain ⟨z, rfl, ez⟩ := ivs_of e2
        obtain ⟨z0, z1⟩ := fo.each i z ez
        have sU : Same H1 (upd H1 U (.tup [V.int (i : Nat), V.int z])) := same_upd nU
        have nDU : D ≠ U := ne_of_none hD nU
        refine ⟨U, _, rfl, .inl (.inl upd_same), rfl, _, _, rfl, _, _, rfl, rfl, rfl, ?_⟩
        refine ⟨_, rfl, z, rfl, true, bl_of2 (decide_eq_true z0), iteT ⟨_, rfl, _, rfl, z, _, rfl, rfl, _, sU _ _ hD, ?_, Same.chg (s1.trans sU) nD, ?_⟩⟩
        · rw [List.length_map, List.length_replicate]
          rw [List.length_map] at hi2
          exact small1000 (by omega)
        · rw [upd_same, List.replicate_succ', List.map_append]
          show some (HO.lst (_ ++ [V.bl (decide (z ≤ (i : Int)))])) = _
          rw [decide_eq_true z1]
          rfl
      · rintro H1 ⟨s1, hD⟩
        exact ⟨D, _, rfl, SqL.of hD, qt (all_true2 _) (q _ s1)⟩
--# is_number_or_none
def spNumN (K : PySem.W.Frag) : Sp := fun vs H Q _ => ∃ s : Option Int, vs = [oV s] ∧ Q (.bl true) H
theorem sc_is_number_or_none : FnScope ["value"] ["value"] (defScope s_is_number_or_none) := ⟨rfl, rfl, rfl, by decide +kernel, rfl, by decide +kernel, by decide +kernel⟩
theorem c_is_number_or_none {P : Program} {w : World} {K : PySem.W.Frag} {mg : Str → Option Value} {base : Heap} (T : Tx K mg) : C8.Cal P w K mg base 2 "is_number_or_none" (spNumN K) [] := by
  refine calD T.F_is_number_or_none T.g_is_number_or_none (fun _ _ _ _ _ _ us hl => match us, hl with | [_], _ => rfl) sc_is_number_or_none (fun vs H Q E h => ?_) (fun cdv A outer s H vs Q E hr h => ?_)
  · obtain ⟨s, rfl, _⟩ := h
    rfl
  · obtain ⟨s, rfl, q⟩ := h
    cases s with
    | none =>
      refine ⟨_, (pss_one (ps_ret (pe_or (pe_cmpR op_isN (pv 0) pe_non (nomark _)) (pe_one (C8.pe_c (c_is_number T) hr (by decide) rfl (pa_cons (pv 0) pa_nil)))))), ?_⟩
      exact ⟨_, rfl, rfl, true, rfl, iteT q⟩
    | some i =>
      refine ⟨_, (pss_one (ps_ret (pe_or (pe_cmpR op_isN (pv 0) pe_non (nomark _)) (pe_one (C8.pe_c (c_is_number T) hr (by decide) rfl (pa_cons (pv 0) pa_nil)))))), ?_⟩
      exact ⟨_, rfl, rfl, false, rfl, iteF ⟨_, rfl, _, _, true, false, rfl, .base (.int i), is_ty (by decide +kernel), is_ty (by decide +kernel), q⟩⟩
--# Past.begin_phrase
def spBegin (C : Addr) : Sp := fun vs H Q _ => ∃ (a : Addr) (fr : List Int) (S : De) (A : PA), vs = [.ref a] ∧ PastAt H C a fr S A ∧ S.Ok fr ∧ FrOk fr ∧ S.n < 6 ∧
  ∀ (H' : Hp) (A' : PA), PastAt H' C a fr S.more A' → Only (footP a fr S.n A) H H' → (∀ x, footP a fr (S.n + 1) A' x → footP a fr S.n A x ∨ H x = none) → Q (.int (S.n : Int)) H'
abbrev DD (fr : List Int) (n i : Nat) : Nat → Nat → Prop := fun p t => Dom fr n p t ∨ (p = n ∧ t < i)
theorem sc_Past_begin_phrase : FnScope ["self", "phrase", "tongue"] ["self"] (defScope s_Past_begin_phrase) := ⟨rfl, rfl, rfl, by decide +kernel, rfl, by decide +kernel, by decide +kernel⟩
theorem c_Past_begin_phrase {P : Program} {w : World} {K : PySem.W.Frag} {mg : Str → Option Value} {base : Heap} (T : Tx K mg) : C8.Met P w K mg base 1 (He.ga K "Past") "begin_phrase" (spBegin (He.ga K "Past")) [] := by
  refine metD T.F_Past_begin_phrase T.k_Past T.m_Past_begin_phrase (fun _ _ _ _ _ _ us hl => match us, hl with | [_], _ => rfl) sc_Past_begin_phrase (fun vs H Q E h => ?_) (fun cdv A outer s H vs Q E hr h => ?_)
  · obtain ⟨a, fr, S, A, rfl, _⟩ := h
    rfl
  · obtain ⟨a, fr, S, A, rfl, hP, ok, fo, n6, q⟩ := h
    refine ⟨_, (pss_cons (ps_set (i := 1) sc_Past_begin_phrase.nd rfl (Or.inl rfl) (pe_fld (pv 0) (by rfl)))
    (pss_cons (ps_for PassesOwn.never rfl (pi_range1 (by rfl) T.f_range (pa_cons (pe_op op_add (pe_callB call_len_seq (by rfl) T.f_len (by decide +kernel) (pa_cons (pe_fld (pv 0) (by rfl)) pa_nil)) pe_int) pa_nil)) (pg_name (i := 2) sc_Past_begin_phrase.nd rfl (Or.inl rfl))
      (pss_cons (ps_dput (hu_of hr) (pe_fld (pv 0) (by rfl)) (pe_tup (pa_cons (pv 1) (pa_cons (pv 2) pa_nil))) pe_dnewK rfl)
      (pss_one (ps_dput (hu_of hr) (pe_fld (pv 0) (by rfl)) (pe_tup (pa_cons (pv 1) (pa_cons (pv 2) pa_nil))) (pe_lst pa_nil) rfl))))
    (pss_cons (ps_fldaug (pv 0) pe_int in_add)
    (pss_one (ps_ret (pv 1)))))), ?_⟩
    have hi7 := fo.hi
    refine ⟨_, rfl, a, _, _, _, _, rfl, hP.raw.obj, T.k_Past, T.n_Past_phrases, pf_phrases _ _, ?_⟩
    refine ⟨_, rfl, a, _, _, _, _, rfl, hP.raw.obj, T.k_Past, T.n_Past_froms, pf_froms _ _, A.f, _, rfl, .inl (SqL.of hP.raw.frm), _, _, rfl, rfl, _, rfl, by rw [List.length_map]; omega, by rw [List.length_map]; omega, ?_⟩
    refine for_range (lo := 0) (n := ((fr.map V.int).length + 1 : Int).toNat) (fun i σ H4 => ∃ (va : Option V) (A4 : PA), σ = [some (.ref a), some (.int S.n), va] ∧ Raw H4 (He.ga K "Past") a fr S.n (S.puts.map fun u => V.str u.x) (S.puts.map fun u => oV u.s) (eK S) S.lie (DD fr S.n i) (DD fr S.n i) A4 ∧ Only (footP a fr S.n A) H H4 ∧ (∀ x, Foot a (DD fr S.n i) (DD fr S.n i) A4 x → footP a fr S.n A x ∨ H x = none) ∧ A4.ekv.length ≤ 100 * S.n + i ∧ A4.pkv.length ≤ 100 * S.n + i)
      ⟨none, A, rfl, hP.raw.congr rfl rfl rfl (fun p t d => ⟨d.resolve_right (fun z => Nat.not_lt_zero _ z.2), rfl⟩) (fun p t d => ⟨d.resolve_right (fun z => Nat.not_lt_zero _ z.2), rfl⟩), only_same (Same.refl _), ?_, hP.el, hP.pl⟩ ?_ ?_
    · rintro x (z | z | z | z | z | z | ⟨p, t, d, z⟩ | ⟨p, t, d, z⟩)
      · exact .inl (.inl z)
      · exact .inl (.inr (.inl z))
      · exact .inl (.inr (.inr (.inl z)))
      · exact .inl (.inr (.inr (.inr (.inl z))))
      · exact .inl (.inr (.inr (.inr (.inr (.inl z)))))
      · exact .inl (.inr (.inr (.inr (.inr (.inr (.inl z))))))
      · exact .inl (.inr (.inr (.inr (.inr (.inr (.inr (.inl ⟨p, t, d.resolve_right (fun z => Nat.not_lt_zero _ z.2), z⟩)))))))
      · exact .inl (.inr (.inr (.inr (.inr (.inr (.inr (.inr ⟨p, t, d.resolve_right (fun z => Nat.not_lt_zero _ z.2), z⟩)))))))
    · rintro i σ H4 hi ⟨va, A4, rfl, r4, o4, f4, le4, lp4⟩
      rw [List.length_map] at hi
      rw [show (0 + (i : Int)) = (i : Int) from Int.zero_add _]
      have hin : i ≤ fr.length := by omega
      have nd : ¬ DD fr S.n i S.n i := fun z => z.elim (fun y => Nat.lt_irrefl _ y.1) (fun y => Nat.lt_irrefl _ y.2)
      intro e ne
      have r5 := r4.same (same_upd ne (o := .dK []))
      refine ⟨_, rfl, a, _, _, _, _, rfl, r5.obj, T.k_Past, T.n_Past_ever, pf_ever _ _, _, rfl, _, rfl, (by show 2 ≤ sizeLine; decide), fun b nb => ?_⟩
      have s6 : Same H4 (upd (upd H4 e (.dK [])) b (.tup [V.int (S.n : Int), V.int (i : Int)])) := (same_upd ne).trans (same_upd nb)
      have he6 : (upd (upd H4 e (.dK [])) b (.tup [V.int (S.n : Int), V.int (i : Int)])) e = some (.dK []) := same_upd nb _ _ upd_same
      have hb6 : (upd (upd H4 e (.dK [])) b (.tup [V.int (S.n : Int), V.int (i : Int)])) b = some (.tup ((ty S.n i).map kV)) := upd_same
      generalize upd (upd H4 e (.dK [])) b (.tup [V.int (S.n : Int), V.int (i : Int)]) = H6 at s6 he6 hb6 ⊢
      have r7 := r4.addE nd s6 ne he6
      have len4 := length_putK A4.ekv (ty S.n i) (.ref e)
      have len5 := length_putK A4.pkv (ty S.n i)
      refine ⟨A4.ev, _, rfl, DPut.t (r4.same s6).ev hb6 (small1000 (by omega)), Nat.zero_le _, fun e2 ne2 => ?_⟩
      have o7 : Only (footP a fr S.n A) H (upd H6 A4.ev (.dT (putK A4.ekv (ty S.n i) (.ref e)))) := by
        rcases f4 A4.ev (.inr (.inr (.inr (.inr (.inl rfl))))) with z | z
        · exact (o4.same s6).set z
        · exact (o4.same s6).chg z
      generalize upd H6 A4.ev (.dT (putK A4.ekv (ty S.n i) (.ref e))) = H7 at r7 o7 ne2 ⊢
      have r8 := r7.same (same_upd ne2 (o := .lst []))
      refine ⟨_, rfl, a, _, _, _, _, rfl, r8.obj, T.k_Past, T.n_Past_piles, pf_piles _ _, _, rfl, _, rfl, (by show 2 ≤ sizeLine; decide), fun b2 nb2 => ?_⟩
      have s9 : Same H7 (upd (upd H7 e2 (.lst [])) b2 (.tup [V.int (S.n : Int), V.int (i : Int)])) := (same_upd ne2).trans (same_upd nb2)
      have he9 : (upd (upd H7 e2 (.lst [])) b2 (.tup [V.int (S.n : Int), V.int (i : Int)])) e2 = some (.lst []) := same_upd nb2 _ _ upd_same
      have hb9 : (upd (upd H7 e2 (.lst [])) b2 (.tup [V.int (S.n : Int), V.int (i : Int)])) b2 = some (.tup ((ty S.n i).map kV)) := upd_same
      generalize upd (upd H7 e2 (.lst [])) b2 (.tup [V.int (S.n : Int), V.int (i : Int)]) = H9 at s9 he9 hb9 ⊢
      have r10 := r7.addP nd s9 ne2 he9
      refine ⟨A4.pi, _, rfl, DPut.t (r7.same s9).pi hb9 (small1000 (by show A4.pkv.length ≤ 1000; omega)), some (.int i), _, rfl, r10.congr rfl rfl rfl (fun p t d => ?_) (fun p t d => ?_), ?_, ?_, ?_, ?_⟩
      · have bare := ok.bare i
        by_cases c : p = S.n ∧ t = i
        · refine ⟨.inr c, ?_⟩
          rw [c.1, c.2, setAt_same]
          unfold eK
          rw [bare.2]
          rfl
        · refine ⟨.inl (d.imp id fun y => ⟨y.1, ?_⟩), by rw [setAt_ne c]⟩
          have : t ≠ i := fun z => c ⟨y.1, z⟩
          omega
      · have bare := ok.bare i
        by_cases c : p = S.n ∧ t = i
        · refine ⟨.inr c, ?_⟩
          rw [c.1, c.2, setAt_same, bare.1]
        · refine ⟨.inl (d.imp id fun y => ⟨y.1, ?_⟩), by rw [setAt_ne c]⟩
          have : t ≠ i := fun z => c ⟨y.1, z⟩
          omega
      · rcases f4 A4.pi (.inr (.inr (.inr (.inr (.inr (.inl rfl)))))) with z | z
        · exact (o7.same s9).set z
        · exact (o7.same s9).chg z
      · have fe : H e = none := o4.free ne
        have fe2 : H e2 = none := o7.free ne2
        have dn : ∀ p t, DD fr S.n (i + 1) p t → ¬ (p = S.n ∧ t = i) → DD fr S.n i p t := fun p t d c => d.imp id fun y => ⟨y.1, by
          have : t ≠ i := fun z => c ⟨y.1, z⟩
          omega⟩
        rintro x (z | z | z | z | z | z | ⟨p, t, d, z⟩ | ⟨p, t, d, z⟩)
        · exact f4 x (.inl z)
        · exact f4 x (.inr (.inl z))
        · exact f4 x (.inr (.inr (.inl z)))
        · exact f4 x (.inr (.inr (.inr (.inl z))))
        · exact f4 x (.inr (.inr (.inr (.inr (.inl z)))))
        · exact f4 x (.inr (.inr (.inr (.inr (.inr (.inl z))))))
        · have z' : x = setAt A4.eA S.n i e p t := z
          by_cases c : p = S.n ∧ t = i
          · rw [c.1, c.2, setAt_same] at z'
            exact .inr (by rw [z']; exact fe)
          · rw [setAt_ne c] at z'
            exact f4 x (.inr (.inr (.inr (.inr (.inr (.inr (.inl ⟨p, t, dn p t d c, z'⟩)))))))
        · have z' : x = setAt A4.pA S.n i e2 p t := z
          by_cases c : p = S.n ∧ t = i
          · rw [c.1, c.2, setAt_same] at z'
            exact .inr (by rw [z']; exact fe2)
          · rw [setAt_ne c] at z'
            exact f4 x (.inr (.inr (.inr (.inr (.inr (.inr (.inr ⟨p, t, dn p t d c, z'⟩)))))))
      · show (putK A4.ekv (ty S.n i) (.ref e)).length ≤ _
        omega
      · show (putK A4.pkv (ty S.n i) (.ref e2)).length ≤ _
        have := len5 (.ref e2)
        omega
    · rintro σ H4 ⟨va, A4, rfl, r4, o4, f4, le4, lp4⟩
      rw [show ((fr.map V.int).length + 1 : Int).toNat = fr.length + 1 by rw [List.length_map]; omega] at r4 f4 le4 lp4
      refine ⟨_, rfl, a, _, _, _, _, rfl, r4.obj, T.k_Past, T.n_Past_phrases, pf_phrases _ _, _, _, rfl, rfl, _, _, r4.obj, (by show 6 < 1000; decide), ?_⟩
      rw [pf_more]
      have r5 := r4.setN (S.n + 1)
      have dd : ∀ p t, Dom fr (S.n + 1) p t → DD fr S.n (fr.length + 1) p t := by
        rintro p t ⟨h1, h2⟩
        by_cases c : p = S.n
        · exact .inr ⟨c, by omega⟩
        · exact .inl ⟨by omega, h2⟩
      refine ⟨_, rfl, q _ A4 ⟨r5.congr rfl rfl rfl (fun p t d => ⟨dd p t d, rfl⟩) (fun p t d => ⟨dd p t d, rfl⟩), hP.few, hP.lens, ?_, ?_⟩ ?_ ?_⟩
      · show A4.ekv.length ≤ 100 * (S.n + 1)
        omega
      · show A4.pkv.length ≤ 100 * (S.n + 1)
        omega
      · exact o4.set (.inl rfl)
      · rintro x (z | z | z | z | z | z | ⟨p, t, d, z⟩ | ⟨p, t, d, z⟩)
        · exact f4 x (.inl z)
        · exact f4 x (.inr (.inl z))
        · exact f4 x (.inr (.inr (.inl z)))
        · exact f4 x (.inr (.inr (.inr (.inl z))))
        · exact f4 x (.inr (.inr (.inr (.inr (.inl z)))))
        · exact f4 x (.inr (.inr (.inr (.inr (.inr (.inl z))))))
        · exact f4 x (.inr (.inr (.inr (.inr (.inr (.inr (.inl ⟨p, t, dd p t d, z⟩)))))))
        · exact f4 x (.inr (.inr (.inr (.inr (.inr (.inr (.inr ⟨p, t, dd p t d, z⟩)))))))
--# Past.lay_down
def spLay (C : Addr) : Sp := fun vs H Q _ => ∃ (a : Addr) (fr : List Int) (S : De) (A : PA) (p t : Nat) (x : Str) (s : Option Int), vs = [.ref a, .int p, .int t, .str x, oV s] ∧ PastAt H C a fr S A ∧ p < S.n ∧ t ≤ fr.length ∧ S.puts.length < 5000 ∧
  ∀ (H' : Hp), PastAt H' C a fr (S.lay p t x s) A → Only (footP a fr S.n A) H H' → Q (.int (S.puts.length : Int)) H'
theorem sc_Past_lay_down : FnScope ["self", "phrase", "tongue", "text", "seen", "number"] ["self", "phrase", "tongue", "text", "seen"] (defScope s_Past_lay_down) := ⟨rfl, rfl, rfl, by decide +kernel, rfl, by decide +kernel, by decide +kernel⟩
theorem c_Past_lay_down {P : Program} {w : World} {K : PySem.W.Frag} {mg : Str → Option Value} {base : Heap} (T : Tx K mg) : C8.Met P w K mg base 1 (He.ga K "Past") "lay_down" (spLay (He.ga K "Past")) [] := by
  refine metD T.F_Past_lay_down T.k_Past T.m_Past_lay_down (fun _ _ _ _ _ _ us hl => match us, hl with | [_, _, _, _, _], _ => rfl) sc_Past_lay_down (fun vs H Q E h => ?_) (fun cdv A outer s H vs Q E hr h => ?_)
  · obtain ⟨a, fr, S, A, p, t, x, s, rfl, _⟩ := h
    rfl
  · obtain ⟨a, fr, S, A, p, t, x, s, rfl, hP, hp, ht, fw, q⟩ := h
    refine ⟨_, (pss_cons (ps_set (i := 5) sc_Past_lay_down.nd rfl (Or.inl rfl) (pe_callB call_len_seq (by rfl) T.f_len (by decide +kernel) (pa_cons (pe_fld (pv 0) (by rfl)) pa_nil)))
    (pss_cons (ps_expr (pe_bm PySem.F.plainAttrs_list PySem.F.slot_list_append PySem.F.type_list_append mt_append (pe_fld (pv 0) (by rfl)) (pa_cons (pv 3) pa_nil)))
    (pss_cons (ps_expr (pe_bm PySem.F.plainAttrs_list PySem.F.slot_list_append PySem.F.type_list_append mt_append (pe_fld (pv 0) (by rfl)) (pa_cons (pv 4) pa_nil)))
    (pss_cons (ps_dput (hu_of hr) (pe_dget (hu_of hr) (pe_fld (pv 0) (by rfl)) (pe_tup (pa_cons (pv 1) (pa_cons (pv 2) pa_nil))) (fun _ _ => rfl)) (pv 5) pe_bl rfl)
    (pss_cons (ps_expr (pe_bm PySem.F.plainAttrs_list PySem.F.slot_list_append PySem.F.type_list_append mt_append (pe_dget (hu_of hr) (pe_fld (pv 0) (by rfl)) (pe_tup (pa_cons (pv 1) (pa_cons (pv 2) pa_nil))) (fun _ _ => rfl)) (pa_cons (pv 5) pa_nil)))
    (pss_one (ps_ret (pv 5)))))))), ?_⟩
    have d : Dom fr S.n p t := ⟨hp, ht⟩
    have r := hP.raw
    refine ⟨_, rfl, a, _, _, _, _, rfl, r.obj, T.k_Past, T.n_Past_texts, pf_texts _ _, A.tx, _, rfl, .inl (SqL.of r.tx), ?_⟩
    rw [List.length_map]
    refine ⟨_, rfl, a, _, _, _, _, rfl, r.obj, T.k_Past, T.n_Past_texts, pf_texts _ _, .inl ⟨rfl, _, SqL.of r.tx⟩, _, rfl, A.tx, _, _, rfl, rfl, r.tx, by rw [List.length_map]; exact small5000 (by omega), ?_⟩
    have r1 := r.setTx ((S.puts.map fun u => V.str u.x) ++ [V.str x])
    have o1 : Only (footP a fr S.n A) H (upd H A.tx (.lst ((S.puts.map fun u => V.str u.x) ++ [V.str x]))) := (only_same (Same.refl _)).set (.inr (.inr (.inl rfl)))
    refine ⟨_, rfl, a, _, _, _, _, rfl, r1.obj, T.k_Past, T.n_Past_origins, pf_origins _ _, .inl ⟨rfl, _, SqL.of r1.og⟩, _, rfl, A.og, _, _, rfl, rfl, r1.og, by rw [List.length_map]; exact small5000 (by omega), ?_⟩
    have r2 := r1.setOg ((S.puts.map fun u => oV u.s) ++ [oV s])
    have o2 := o1.set (y := A.og) (o := .lst ((S.puts.map fun u => oV u.s) ++ [oV s])) (.inr (.inr (.inr (.inl rfl))))
    have lay := fun H3 H5 s3 s5 => @PastAt.lay H _ a fr S A H H H3 H H5 p t x s hP fw hp ht s3 s5
    generalize upd (upd H A.tx (.lst ((S.puts.map fun u => V.str u.x) ++ [V.str x]))) A.og (.lst ((S.puts.map fun u => oV u.s) ++ [oV s])) = H2 at r2 o2 lay ⊢
    refine ⟨_, rfl, a, _, _, _, _, rfl, r2.obj, T.k_Past, T.n_Past_ever, pf_ever _ _, _, rfl, _, rfl, (by show 2 ≤ sizeLine; decide), fun b nb => ?_⟩
    have s3 : Same H2 (upd H2 b (.tup [V.int (p : Int), V.int (t : Int)])) := same_upd nb
    have hb : (upd H2 b (.tup [V.int (p : Int), V.int (t : Int)])) b = some (.tup ((ty p t).map kV)) := upd_same
    generalize upd H2 b (.tup [V.int (p : Int), V.int (t : Int)]) = H3 at s3 hb ⊢
    have r3 := r2.same s3
    obtain ⟨e1, e2⟩ := r3.evs p t d
    have elen : (eK S p t).length < sizeLine := by
      unfold eK
      rw [List.length_map]
      have := evG_len (p := p) (t := t) (l := S.puts) (k := 0)
      exact small5000 (by unfold De.ever; omega)
    refine ⟨A.ev, _, rfl, e1 ▸ DGet.t r3.ev hb, _, rfl, A.eA p t, _, rfl, DPut.k (k := Sum.inl (S.puts.length : Int)) e2 elen, ?_⟩
    have r4 := r3.setEv d (putK (eK S p t) (Sum.inl (S.puts.length : Int)) (V.bl true))
    have o4 := (o2.same s3).set (y := A.eA p t) (o := .dK (putK (eK S p t) (Sum.inl (S.puts.length : Int)) (V.bl true))) (.inr (.inr (.inr (.inr (.inr (.inr (.inl ⟨p, t, d, rfl⟩)))))))
    have lay := fun H5 s5 => lay H3 H5 s3 s5
    generalize upd H3 (A.eA p t) (.dK (putK (eK S p t) (Sum.inl (S.puts.length : Int)) (V.bl true))) = H4 at r4 o4 lay ⊢
    refine ⟨_, rfl, a, _, _, _, _, rfl, r4.obj, T.k_Past, T.n_Past_piles, pf_piles _ _, _, rfl, _, rfl, (by show 2 ≤ sizeLine; decide), fun c nc => ?_⟩
    have s5 : Same H4 (upd H4 c (.tup [V.int (p : Int), V.int (t : Int)])) := same_upd nc
    have hc : (upd H4 c (.tup [V.int (p : Int), V.int (t : Int)])) c = some (.tup ((ty p t).map kV)) := upd_same
    generalize upd H4 c (.tup [V.int (p : Int), V.int (t : Int)]) = H5 at s5 hc ⊢
    have r5 := r4.same s5
    obtain ⟨g1, g2⟩ := r5.pis p t d
    have ln := hP.lens p t
    refine ⟨A.pi, V.ref (A.pA p t), rfl, g1 ▸ DGet.t r5.pi hc, .inl ⟨rfl, _, SqL.of g2⟩, _, rfl, A.pA p t, _, _, rfl, rfl, g2, by rw [List.length_map]; exact small5000 (by omega), ?_⟩
    exact ⟨_, rfl, q _ (lay H5 s5) ((o4.same s5).set (.inr (.inr (.inr (.inr (.inr (.inr (.inr ⟨p, t, d, rfl⟩))))))))⟩
--# Past.take_off
def spTake (C : Addr) : Sp := fun vs H Q _ => ∃ (a : Addr) (fr : List Int) (S : De) (A : PA) (p t : Nat) (k : Int), vs = [.ref a, .int p, .int t] ∧ PastAt H C a fr S A ∧ p < S.n ∧ t ≤ fr.length ∧ S.now p t = some k ∧
  ∀ (H' : Hp), PastAt H' C a fr (S.off p t) A → Only (footP a fr S.n A) H H' → Q (.int k) H'
theorem sc_Past_take_off : FnScope ["self", "phrase", "tongue"] ["self", "phrase", "tongue"] (defScope s_Past_take_off) := ⟨rfl, rfl, rfl, by decide +kernel, rfl, by decide +kernel, by decide +kernel⟩
theorem c_Past_take_off {P : Program} {w : World} {K : PySem.W.Frag} {mg : Str → Option Value} {base : Heap} (T : Tx K mg) : C8.Met P w K mg base 1 (He.ga K "Past") "take_off" (spTake (He.ga K "Past")) [] := by
  refine metD T.F_Past_take_off T.k_Past T.m_Past_take_off (fun _ _ _ _ _ _ us hl => match us, hl with | [_, _, _], _ => rfl) sc_Past_take_off (fun vs H Q E h => ?_) (fun cdv A outer s H vs Q E hr h => ?_)
  · obtain ⟨a, fr, S, A, p, t, k, rfl, _⟩ := h
    rfl
  · obtain ⟨a, fr, S, A, p, t, k, rfl, hP, hp, ht, ek, q⟩ := h
    refine ⟨_, (pss_one (ps_ret (pe_bm0 PySem.F.plainAttrs_list PySem.F.slot_list_pop PySem.F.type_list_pop mt_pop (pe_dget (hu_of hr) (pe_fld (pv 0) (by rfl)) (pe_tup (pa_cons (pv 1) (pa_cons (pv 2) pa_nil))) (fun _ _ => rfl))))), ?_⟩
    have d : Dom fr S.n p t := ⟨hp, ht⟩
    refine ⟨_, rfl, a, _, _, _, _, rfl, hP.raw.obj, T.k_Past, T.n_Past_piles, pf_piles _ _, _, rfl, _, rfl, (by show 2 ≤ sizeLine; decide), fun c nc => ?_⟩
    have s1 : Same H (upd H c (.tup [V.int (p : Int), V.int (t : Int)])) := same_upd nc
    have hc : (upd H c (.tup [V.int (p : Int), V.int (t : Int)])) c = some (.tup ((ty p t).map kV)) := upd_same
    generalize upd H c (.tup [V.int (p : Int), V.int (t : Int)]) = H1 at s1 hc ⊢
    have h1 := hP.same s1
    obtain ⟨g1, g2⟩ := h1.raw.pis p t d
    refine ⟨A.pi, V.ref (A.pA p t), rfl, g1 ▸ DGet.t h1.raw.pi hc, .inl ⟨rfl, _, SqL.of g2⟩, A.pA p t, _, V.int k, rfl, rfl, g2, ?_, q _ (h1.off hp ht) ((only_same s1).set (.inr (.inr (.inr (.inr (.inr (.inr (.inr ⟨p, t, d, rfl⟩))))))))⟩
    obtain ⟨ys, ey⟩ := List.getLast?_eq_some_iff.mp (show (S.lie p t).getLast? = some k from ek)
    rw [ey, List.map_append, List.length_append]
    simp
--# Past.has_phrase
def spHas (C : Addr) : Sp := fun vs H Q _ => ∃ (a : Addr) (fr : List Int) (S : De) (A : PA) (v : Int), vs = [.ref a, .int v] ∧ PastAt H C a fr S A ∧ Q (.bl (decide (0 ≤ v) && decide (v < (S.n : Int)))) H
theorem sc_Past_has_phrase : FnScope ["self", "value"] ["self", "value"] (defScope s_Past_has_phrase) := ⟨rfl, rfl, rfl, by decide +kernel, rfl, by decide +kernel, by decide +kernel⟩
theorem c_Past_has_phrase {P : Program} {w : World} {K : PySem.W.Frag} {mg : Str → Option Value} {base : Heap} (T : Tx K mg) : C8.Met P w K mg base 3 (He.ga K "Past") "has_phrase" (spHas (He.ga K "Past")) [] := by
  refine metD T.F_Past_has_phrase T.k_Past T.m_Past_has_phrase (fun _ _ _ _ _ _ us hl => match us, hl with | [_, _], _ => rfl) sc_Past_has_phrase (fun vs H Q E h => ?_) (fun cdv A outer s H vs Q E hr h => ?_)
  · obtain ⟨a, fr, S, A, v, rfl, _⟩ := h
    rfl
  · obtain ⟨a, fr, S, A, v, rfl, hP, q⟩ := h
    refine ⟨_, (pss_one (ps_ret (pe_and (C8.pe_c (c_is_count T) hr (by decide) rfl (pa_cons (pv 1) pa_nil)) (pe_one (pe_cmpR op_lt (pv 1) (pe_fld (pv 0) (by rfl)) (nomark _)))))), ?_⟩
    refine ⟨_, rfl, v, rfl, decide (0 ≤ v), rfl, ?_⟩
    by_cases c : 0 ≤ v
    · rw [decide_eq_true c] at q ⊢
      exact iteT ⟨_, rfl, _, rfl, a, _, _, _, _, rfl, hP.raw.obj, T.k_Past, T.n_Past_phrases, pf_phrases _ _, v, _, rfl, rfl, q⟩
    · rw [decide_eq_false c] at q ⊢
      exact iteF q
--# Past.standing
def spStand (C : Addr) : Sp := fun vs H Q _ => ∃ (a : Addr) (fr : List Int) (S : De) (A : PA) (p t : Nat), vs = [.ref a, .int p, .int t] ∧ PastAt H C a fr S A ∧ p < S.n ∧ t ≤ fr.length ∧ ∀ (H' : Hp), Same H H' → Q (oV (S.now p t)) H'
theorem sc_Past_standing : FnScope ["self", "phrase", "tongue", "pile"] ["self", "phrase", "tongue"] (defScope s_Past_standing) := ⟨rfl, rfl, rfl, by decide +kernel, rfl, by decide +kernel, by decide +kernel⟩
theorem c_Past_standing {P : Program} {w : World} {K : PySem.W.Frag} {mg : Str → Option Value} {base : Heap} (T : Tx K mg) : C8.Met P w K mg base 1 (He.ga K "Past") "standing" (spStand (He.ga K "Past")) [] := by
  refine metD T.F_Past_standing T.k_Past T.m_Past_standing (fun _ _ _ _ _ _ us hl => match us, hl with | [_, _, _], _ => rfl) sc_Past_standing (fun vs H Q E h => ?_) (fun cdv A outer s H vs Q E hr h => ?_)
  · obtain ⟨a, fr, S, A, p, t, rfl, _⟩ := h
    rfl
  · obtain ⟨a, fr, S, A, p, t, rfl, hP, hp, ht, q⟩ := h
    refine ⟨_, (pss_cons (ps_set (i := 3) sc_Past_standing.nd rfl (Or.inl rfl) (pe_dget (hu_of hr) (pe_fld (pv 0) (by rfl)) (pe_tup (pa_cons (pv 1) (pa_cons (pv 2) pa_nil))) (fun _ _ => rfl)))
    (pss_one (ps_ret (pe_ifExp (pt_truth (pv 3) (by intro _; rfl)) (pe_ix ix_list (pv 3) (pe_un un_neg pe_int) (fun _ _ => rfl)) pe_non)))), ?_⟩
    have d : Dom fr S.n p t := ⟨hp, ht⟩
    refine ⟨_, rfl, a, _, _, _, _, rfl, hP.raw.obj, T.k_Past, T.n_Past_piles, pf_piles _ _, _, rfl, _, rfl, (by show 2 ≤ sizeLine; decide), fun c nc => ?_⟩
    have s1 : Same H (upd H c (.tup [V.int (p : Int), V.int (t : Int)])) := same_upd nc
    have hc : (upd H c (.tup [V.int (p : Int), V.int (t : Int)])) c = some (.tup ((ty p t).map kV)) := upd_same
    generalize upd H c (.tup [V.int (p : Int), V.int (t : Int)]) = H1 at s1 hc ⊢
    have h1 := hP.same s1
    obtain ⟨g1, g2⟩ := h1.raw.pis p t d
    refine ⟨A.pi, V.ref (A.pA p t), rfl, g1 ▸ DGet.t h1.raw.pi hc, ?_⟩
    cases el : (S.lie p t).getLast? with
    | none =>
      have e0 : S.lie p t = [] := List.getLast?_eq_none_iff.mp el
      rw [e0] at g2
      have q1 := q H1 s1
      rw [show S.now p t = none from el] at q1
      exact ⟨_, rfl, false, .inl ⟨_, SqL.of g2, rfl⟩, iteF q1⟩
    | some k =>
      have q1 := q H1 s1
      rw [show S.now p t = some k from el] at q1
      refine ⟨_, rfl, true, ?_, iteT ⟨_, rfl, _, rfl, A.pA p t, _, _, _, rfl, rfl, SqL.of g2, last_at el, q1⟩⟩
      refine .inl ⟨_, SqL.of g2, ?_⟩
      cases e0 : S.lie p t with
      | nil =>
        rw [e0] at el
        cases el
      | cons y ys => rfl
--# Past.text_standing
def De.tV (S : De) (p t : Nat) : V := match S.now p t with
  | some k => .str (S.pt k).x
  | none => .non
def spTxS (C : Addr) : Sp := fun vs H Q _ => ∃ (a : Addr) (fr : List Int) (S : De) (A : PA) (p t : Nat), vs = [.ref a, .int p, .int t] ∧ PastAt H C a fr S A ∧ S.Num ∧ p < S.n ∧ t ≤ fr.length ∧ ∀ (H' : Hp), Same H H' → Q (S.tV p t) H'
theorem sc_Past_text_standing : FnScope ["self", "phrase", "tongue", "number"] ["self", "phrase", "tongue"] (defScope s_Past_text_standing) := ⟨rfl, rfl, rfl, by decide +kernel, rfl, by decide +kernel, by decide +kernel⟩
theorem c_Past_text_standing {P : Program} {w : World} {K : PySem.W.Frag} {mg : Str → Option Value} {base : Heap} (T : Tx K mg) : C8.Met P w K mg base 2 (He.ga K "Past") "text_standing" (spTxS (He.ga K "Past")) [] := by
  refine metD T.F_Past_text_standing T.k_Past T.m_Past_text_standing (fun _ _ _ _ _ _ us hl => match us, hl with | [_, _, _], _ => rfl) sc_Past_text_standing (fun vs H Q E h => ?_) (fun cdv A outer s H vs Q E hr h => ?_)
  · obtain ⟨a, fr, S, A, p, t, rfl, _⟩ := h
    rfl
  · obtain ⟨a, fr, S, A, p, t, rfl, hP, hN, hp, ht, q⟩ := h
    refine ⟨_, (pss_cons (ps_set (i := 3) sc_Past_text_standing.nd rfl (Or.inl rfl) (C8.pe_mt (c_Past_standing T) hr (by decide) (pv 0) (pa_cons (pv 1) (pa_cons (pv 2) pa_nil))))
    (pss_one (ps_ret (pe_ifExp (pt_cmpR op_isN (pv 3) pe_non (nomark _)) pe_non (pe_ix ix_list (pe_fld (pv 0) (by rfl)) (pv 3) (fun _ _ => rfl)))))), ?_⟩
    refine ⟨_, rfl, a, _, _, rfl, hP.raw.obj, rfl, _, rfl, _, rfl, a, fr, S, A, p, t, rfl, hP, hp, ht, fun H1 s1 => ?_⟩
    have q1 := q H1 s1
    unfold De.tV at q1
    have h1 := hP.same s1
    cases en : S.now p t with
    | none =>
      rw [en] at q1
      exact ⟨_, rfl, rfl, true, rfl, iteT q1⟩
    | some k =>
      rw [en] at q1
      obtain ⟨k0, u, eu, _, _⟩ := hN.now en
      have q1 : Q (V.str (S.pt k).x) H1 := q1
      rw [show S.pt k = u from De.pt_at eu] at q1
      exact ⟨_, rfl, rfl, false, rfl, iteF ⟨_, rfl, a, _, _, _, _, rfl, h1.raw.obj, T.k_Past, T.n_Past_texts, pf_texts _ _, _, rfl, A.tx, _, _, _, rfl, rfl, SqL.of h1.raw.tx, at_of (j := k.toNat) (by omega) (lookup_at eu), q1⟩⟩
--# Past.cells
def spCells (C : Addr) : Sp := fun vs H Q _ => ∃ (a : Addr) (fr : List Int) (S : De) (A : PA) (p : Nat), vs = [.ref a, .int p] ∧ PastAt H C a fr S A ∧ S.Num ∧ FrOk fr ∧ p < S.n ∧ ∀ (H' : Hp) (r : Addr), Same H H' → H r = none → RowAt H' r (S.row (fr.length + 1) p) → Q (.ref r) H'
theorem sc_Past_cells : FnScope ["self", "phrase", "numbers", "tongue", "number"] ["self", "phrase"] (defScope s_Past_cells) := ⟨rfl, rfl, rfl, by decide +kernel, rfl, by decide +kernel, by decide +kernel⟩
theorem c_Past_cells {P : Program} {w : World} {K : PySem.W.Frag} {mg : Str → Option Value} {base : Heap} (T : Tx K mg) : C8.Met P w K mg base 2 (He.ga K "Past") "cells" (spCells (He.ga K "Past")) [] := by
  refine metD T.F_Past_cells T.k_Past T.m_Past_cells (fun _ _ _ _ _ _ us hl => match us, hl with | [_, _], _ => rfl) sc_Past_cells (fun vs H Q E h => ?_) (fun cdv A outer s H vs Q E hr h => ?_)
  · obtain ⟨a, fr, S, A, p, rfl, _⟩ := h
    rfl
  · obtain ⟨a, fr, S, A, p, rfl, hP, hN, fo, hp, q⟩ := h
    refine ⟨_, (pss_cons (ps_setLc (i := 2) (own := [("tongue", 3)]) (g := gName 3) (tt := tYes) (by rfl) sc_Past_cells.nd rfl rfl (sw_true rfl rfl rfl (by decide +kernel)) (pi_range1 (by rfl) T.f_range (pa_cons (pe_op op_add (pe_callB call_len_seq (by rfl) T.f_len (by decide +kernel) (pa_cons (pe_fld (pv 0) (by rfl)) pa_nil)) pe_int) pa_nil)) (blkOk_by (own := [("tongue", 3)]) (N := ["self", "phrase", "numbers", "tongue", "number"]) (sc := defScope s_Past_cells) (by decide +kernel)) (fun _ _ _ _ _ => (pg_name (i := 3) sc_Past_cells.nd rfl (Or.inl rfl))) (fun _ _ _ _ _ => pts_nil) (fun _ _ _ _ _ => (C8.pe_mt (c_Past_standing T) hr (by decide) (pv 0) (pa_cons (pv 1) (pa_cons (pv 3) pa_nil)))))
    (pss_one (ps_ret (pe_lc (own := [("number", 4)]) (g := gName 4) (tt := tYes) (by rfl) sc_Past_cells.nd (pi_list (pv 2)) (blkOk_by (own := [("number", 4)]) (N := ["self", "phrase", "numbers", "tongue", "number"]) (sc := defScope s_Past_cells) (by decide +kernel)) (fun _ _ _ _ _ => (pg_name (i := 4) sc_Past_cells.nd rfl (Or.inl rfl))) (fun _ _ _ _ _ => pts_nil) (fun _ _ _ _ _ => (pe_ifExp (pt_cmpR op_isN (pv 4) pe_non (nomark _)) pe_non (pe_tup (pa_cons (pv 4) (pa_cons (pe_ix (show IxR _ (rIxL K) from ix_list) (pe_fldK (K := K) (by rfl) (pv 0) (by rfl)) (pv 4) (fun _ _ => rfl)) pa_nil))))))))), ?_⟩
    have hi7 := fo.hi
    refine ⟨_, rfl, a, _, _, _, _, rfl, hP.raw.obj, T.k_Past, T.n_Past_froms, pf_froms _ _, A.f, _, rfl, .inl (SqL.of hP.raw.frm), _, _, rfl, rfl, _, rfl, by rw [List.length_map]; omega, by rw [List.length_map]; omega, fun D nD => ?_⟩
    refine lc_range (lo := 0) (n := ((fr.map V.int).length + 1 : Int).toNat) (fun i H1 => Same H H1 ∧ H1 D = some (.lst ((List.range i).map fun t => oV (S.now p t)))) ⟨same_upd nD, upd_same⟩ ?_ ?_
    · rintro i H1 hi ⟨s1, hD⟩
      rw [List.length_map] at hi
      rw [show (0 + (i : Int)) = (i : Int) from Int.zero_add _]
      have h1 := hP.same s1
      refine ⟨rfl, _, rfl, a, _, _, rfl, h1.raw.obj, rfl, _, rfl, _, rfl, a, fr, S, A, p, i, rfl, h1, hp, by omega, fun H2 s2 => ⟨_, s2 _ _ hD, ?_, Same.chg (s1.trans s2) nD, ?_⟩⟩
      · rw [List.length_map, List.length_range]
        exact small1000 (by omega)
      · rw [upd_same, List.range_succ, List.map_append]
        rfl
    rintro H1 ⟨s1, hD⟩
    rw [show ((fr.map V.int).length + 1 : Int).toNat = fr.length + 1 by rw [List.length_map]; omega] at hD
    refine ⟨_, rfl, D, rfl, ⟨_, SqL.of hD⟩, fun R nR => ?_⟩
    refine lc_list (K := K) (a := D) (xs := (List.range (fr.length + 1)).map fun t => oV (S.now p t)) (fun i H2 => Same H1 H2 ∧ RowAt H2 R (S.row i p)) ⟨same_upd nR, ⟨[], upd_same, ⟨rfl, fun i c e => by simp [De.row] at e⟩⟩⟩ (fun i H2 _ z => SqL.of (z.1 _ _ hD)) ?_ ?_
    · rintro i v H2 hv ⟨s2, hR⟩
      have hi : i < fr.length + 1 := by
        have := (List.getElem?_eq_some_iff.mp hv).1
        rw [List.length_map, List.length_range] at this
        exact this
      rw [List.getElem?_map, List.getElem?_range hi] at hv
      have hv' : v = oV (S.now p i) := (Option.some.inj hv).symm
      subst hv'
      have s12 := s1.trans s2
      have h2 := hP.same s12
      obtain ⟨ws, hw, hcs⟩ := id hR
      have hlen : ws.length < sizeLine := by
        rw [hcs.len, De.row_len]
        exact small1000 (by omega)
      have step : ∀ (H6 : Hp) (v : V), Same H2 H6 → CellV H6 v (S.cell p i) → Same H1 (upd H6 R (.lst (ws ++ [v]))) ∧ RowAt (upd H6 R (.lst (ws ++ [v]))) R (S.row (i + 1) p) := by
        intro H6 v s6 hc
        refine ⟨Same.chg (s2.trans s6) nR, ?_⟩
        have z := RowAt.snoc (hR.same s6) (s6 _ _ hw) hc
        unfold De.row at z ⊢
        rw [List.range_succ, List.map_append]
        exact z
      refine ⟨rfl, _, rfl, rfl, decide (oV (S.now p i) = .non), rfl, ?_⟩
      cases en : S.now p i with
      | none =>
        obtain ⟨g1, g2⟩ := step H2 .non (Same.refl _) (by unfold De.cell; rw [en]; rfl)
        exact iteT ⟨_, hw, hlen, g1, g2⟩
      | some k =>
        obtain ⟨k0, u, eu, _, _⟩ := hN.now en
        refine iteF ⟨_, rfl, _, rfl, a, _, _, _, _, rfl, h2.raw.obj, T.k_Past, T.n_Past_origins, pf_origins _ _, _, rfl, A.og, _, _, _, rfl, rfl, SqL.of h2.raw.og, at_of (j := k.toNat) (by omega) (lookup_at eu), (by show 2 ≤ sizeLine; decide), fun c nc => ?_⟩
        obtain ⟨g1, g2⟩ := step _ (.ref c) (same_upd nc (o := .tup [.int k, oV u.s])) (by
          unfold De.cell
          rw [en]
          show CellV _ _ (some (k, (S.pt k).s))
          rw [De.pt_at eu]
          exact ⟨c, rfl, upd_same⟩)
        exact ⟨_, same_upd nc _ _ hw, hlen, g1, g2⟩
    rintro H2 ⟨s2, hR⟩
    rw [List.length_map, List.length_range] at hR
    exact q H2 R (s1.trans s2) (s1.free nR) hR
--# Past.was_seen
def spSeen (C : Addr) : Sp := fun vs H Q _ => ∃ (a : Addr) (fr : List Int) (S : De) (A : PA) (p t : Nat) (s : Option Int), vs = [.ref a, .int p, .int t, oV s] ∧ PastAt H C a fr S A ∧ FrOk fr ∧ p < S.n ∧ t ≤ fr.length ∧ ∀ (H' : Hp), Same H H' → Q (.bl (decide (s ∈ S.seens fr p t))) H'
theorem sc_Past_was_seen : FnScope ["self", "phrase", "tongue", "seen"] ["self", "phrase", "tongue", "seen"] (defScope s_Past_was_seen) := ⟨rfl, rfl, rfl, by decide +kernel, rfl, by decide +kernel, by decide +kernel⟩
theorem c_Past_was_seen {P : Program} {w : World} {K : PySem.W.Frag} {mg : Str → Option Value} {base : Heap} (T : Tx K mg) : C8.Met P w K mg base 2 (He.ga K "Past") "was_seen" (spSeen (He.ga K "Past")) [] := by
  refine metD T.F_Past_was_seen T.k_Past T.m_Past_was_seen (fun _ _ _ _ _ _ us hl => match us, hl with | [_, _, _, _], _ => rfl) sc_Past_was_seen (fun vs H Q E h => ?_) (fun cdv A outer s H vs Q E hr h => ?_)
  · obtain ⟨a, fr, S, A, p, t, s0, rfl, _⟩ := h
    rfl
  · obtain ⟨a, fr, S, A, p, t, s0, rfl, hP, fo, hp, ht, q⟩ := h
    refine ⟨_, (pss_cons (ps_if (pt_cmpR op_eq (pv 2) pe_int (nomark _))
      (pss_one (ps_ret (pe_cmpR op_isN (pv 3) pe_non (nomark _))))
      pss_nil)
    (pss_one (ps_ret (pe_and (C8.pe_c (c_is_number T) hr (by decide) rfl (pa_cons (pv 3) pa_nil)) (pe_one (pe_cmp (pc_din (hu_of hr) (pv 3) (pe_dget (hu_of hr) (pe_fld (pv 0) (by rfl)) (pe_tup (pa_cons (pv 1) (pa_cons (C8.pe_c (c_put_from T) hr (by decide) rfl (pa_cons (pe_fld (pv 0) (by rfl)) (pa_cons (pv 2) pa_nil))) pa_nil))) (fun _ _ => rfl))) rfl)))))), ?_⟩
    refine ⟨_, rfl, rfl, decide (t = 0), congrArg V.bl (dec_nat (y := 0)), ?_⟩
    by_cases c : t = 0
    · rw [decide_eq_true c]
      have q1 := q H (Same.refl _)
      unfold De.seens at q1
      rw [if_pos c] at q1
      refine iteT ⟨_, rfl, rfl, qt ?_ q1⟩
      cases s0 with
      | none => rfl
      | some k => rfl
    rw [decide_eq_false c]
    have q1 := fun H' s' => q H' s'
    unfold De.seens at q1
    rw [if_neg c] at q1
    cases s0 with
    | none =>
      refine iteF ⟨_, rfl, _, _, false, false, rfl, .base .non, is_ty (by decide +kernel), is_ty (by decide +kernel), false, rfl, iteF (qt ?_ (q1 H (Same.refl _)))⟩
      symm
      exact decide_eq_false (fun z => by simp at z)
    | some k =>
      obtain ⟨x, ex, x0, xl, xu⟩ := fo.at (t := t) (by omega) ht
      refine iteF ⟨_, rfl, _, _, true, false, rfl, .base (.int k), is_ty (by decide +kernel), is_ty (by decide +kernel), true, rfl, iteT ?_⟩
      refine ⟨_, rfl, _, rfl, a, _, _, _, _, rfl, hP.raw.obj, T.k_Past, T.n_Past_ever, pf_ever _ _, _, rfl, _, rfl, a, _, _, _, _, rfl, hP.raw.obj, T.k_Past, T.n_Past_froms, pf_froms _ _, _, rfl, A.f, fr, t, x, rfl, hP.raw.frm, by omega, ex, (by show 2 ≤ sizeLine; decide), fun b nb => ?_⟩
      subst xu
      have s1 : Same H (upd H b (.tup [V.int (p : Int), V.int (up fr t : Int)])) := same_upd nb
      have hb : (upd H b (.tup [V.int (p : Int), V.int (up fr t : Int)])) b = some (.tup ((ty p (up fr t)).map kV)) := upd_same
      generalize upd H b (.tup [V.int (p : Int), V.int (up fr t : Int)]) = H1 at s1 hb ⊢
      have h1 := hP.same s1
      have hu := up_lt fo (t := t) (by omega) ht
      obtain ⟨e1, e2⟩ := h1.raw.evs p (up fr t) ⟨hp, by omega⟩
      refine ⟨A.ev, V.ref (A.eA p (up fr t)), rfl, e1 ▸ DGet.t h1.raw.ev hb, A.eA p (up fr t), _, rfl, DGet.k (k := Sum.inl k) e2, qt ?_ (q1 H1 s1)⟩
      unfold eK
      rw [eK_has]
      refine decide_eq_decide.mpr ?_
      rw [List.mem_map, List.mem_map]
      exact ⟨fun ⟨e, z1, z2⟩ => ⟨e, z1, congrArg some z2⟩, fun ⟨e, z1, z2⟩ => ⟨e, z1, Option.some.inj z2⟩⟩
--# Past.is_over
def spOver (C : Addr) : Sp := fun vs H Q _ => ∃ (a : Addr) (fr : List Int) (S : De) (A : PA) (p t : Nat) (o : Option Int), vs = [.ref a, .int p, .int t, oV o] ∧ PastAt H C a fr S A ∧ p < S.n ∧ t ≤ fr.length ∧ ∀ (H' : Hp), Same H H' → Q (.bl (decide (o = S.now p t))) H'
theorem oV_dec {a b : Option Int} : decide (oV a = oV b) = decide (a = b) := by
  refine decide_eq_decide.mpr ⟨fun z => ?_, fun z => by rw [z]⟩
  cases a with
  | none =>
    cases b with
    | none => rfl
    | some y => cases z
  | some x =>
    cases b with
    | none => cases z
    | some y => rw [V.int.inj z]
theorem sc_Past_is_over : FnScope ["self", "phrase", "tongue", "over"] ["self", "phrase", "tongue", "over"] (defScope s_Past_is_over) := ⟨rfl, rfl, rfl, by decide +kernel, rfl, by decide +kernel, by decide +kernel⟩
theorem c_Past_is_over {P : Program} {w : World} {K : PySem.W.Frag} {mg : Str → Option Value} {base : Heap} (T : Tx K mg) : C8.Met P w K mg base 3 (He.ga K "Past") "is_over" (spOver (He.ga K "Past")) [] := by
  refine metD T.F_Past_is_over T.k_Past T.m_Past_is_over (fun _ _ _ _ _ _ us hl => match us, hl with | [_, _, _, _], _ => rfl) sc_Past_is_over (fun vs H Q E h => ?_) (fun cdv A outer s H vs Q E hr h => ?_)
  · obtain ⟨a, fr, S, A, p, t, o, rfl, _⟩ := h
    rfl
  · obtain ⟨a, fr, S, A, p, t, o, rfl, hP, hp, ht, q⟩ := h
    refine ⟨_, (pss_one (ps_ret (pe_and (C8.pe_c (c_is_number_or_none T) hr (by decide) rfl (pa_cons (pv 3) pa_nil)) (pe_one (pe_cmpR op_eq (pv 3) (C8.pe_mt (c_Past_standing T) hr (by decide) (pv 0) (pa_cons (pv 1) (pa_cons (pv 2) pa_nil))) (nomark _)))))), ?_⟩
    refine ⟨_, rfl, o, rfl, true, rfl, iteT ⟨_, rfl, _, rfl, a, _, _, rfl, hP.raw.obj, rfl, _, rfl, _, rfl, a, fr, S, A, p, t, rfl, hP, hp, ht, fun H1 s1 => ?_⟩⟩
    refine ⟨?_, qt oV_dec (q H1 s1)⟩
    cases o <;> cases S.now p t <;> rfl
--# Past.can_take_off
def spCan (C : Addr) : Sp := fun vs H Q _ => ∃ (a : Addr) (fr : List Int) (S : De) (A : PA) (p t : Nat), vs = [.ref a, .int p, .int t] ∧ PastAt H C a fr S A ∧ p < S.n ∧ t ≤ fr.length ∧ ∀ (H' : Hp), Same H H' → Q (.bl (decide ((if t = 0 then 1 else 0) < (S.lie p t).length))) H'
theorem sc_Past_can_take_off : FnScope ["self", "phrase", "tongue"] ["self", "phrase", "tongue"] (defScope s_Past_can_take_off) := ⟨rfl, rfl, rfl, by decide +kernel, rfl, by decide +kernel, by decide +kernel⟩
theorem c_Past_can_take_off {P : Program} {w : World} {K : PySem.W.Frag} {mg : Str → Option Value} {base : Heap} (T : Tx K mg) : C8.Met P w K mg base 1 (He.ga K "Past") "can_take_off" (spCan (He.ga K "Past")) [] := by
  refine metD T.F_Past_can_take_off T.k_Past T.m_Past_can_take_off (fun _ _ _ _ _ _ us hl => match us, hl with | [_, _, _], _ => rfl) sc_Past_can_take_off (fun vs H Q E h => ?_) (fun cdv A outer s H vs Q E hr h => ?_)
  · obtain ⟨a, fr, S, A, p, t, rfl, _⟩ := h
    rfl
  · obtain ⟨a, fr, S, A, p, t, rfl, hP, hp, ht, q⟩ := h
    refine ⟨_, (pss_one (ps_ret (pe_cmpR op_gt (pe_callB call_len_seq (by rfl) T.f_len (by decide +kernel) (pa_cons (pe_dget (hu_of hr) (pe_fld (pv 0) (by rfl)) (pe_tup (pa_cons (pv 1) (pa_cons (pv 2) pa_nil))) (fun _ _ => rfl)) pa_nil)) (pe_ifExp (pt_cmpR op_eq (pv 2) pe_int (nomark _)) pe_int pe_int) (nomark _)))), ?_⟩
    have d : Dom fr S.n p t := ⟨hp, ht⟩
    refine ⟨_, rfl, a, _, _, _, _, rfl, hP.raw.obj, T.k_Past, T.n_Past_piles, pf_piles _ _, _, rfl, _, rfl, (by show 2 ≤ sizeLine; decide), fun c nc => ?_⟩
    have s1 : Same H (upd H c (.tup [V.int (p : Int), V.int (t : Int)])) := same_upd nc
    have hc : (upd H c (.tup [V.int (p : Int), V.int (t : Int)])) c = some (.tup ((ty p t).map kV)) := upd_same
    generalize upd H c (.tup [V.int (p : Int), V.int (t : Int)]) = H1 at s1 hc ⊢
    have h1 := hP.same s1
    obtain ⟨g1, g2⟩ := h1.raw.pis p t d
    refine ⟨A.pi, V.ref (A.pA p t), rfl, g1 ▸ DGet.t h1.raw.pi hc, A.pA p t, _, rfl, .inl (SqL.of g2), _, rfl, rfl, decide (t = 0), congrArg V.bl (dec_nat (y := 0)), ?_⟩
    have q1 := q H1 s1
    rw [List.length_map]
    by_cases c0 : t = 0
    · rw [decide_eq_true c0]
      rw [if_pos c0] at q1
      refine iteT ⟨_, _, rfl, rfl, qt (decide_eq_decide.mpr (by omega)) q1⟩
    · rw [decide_eq_false c0]
      rw [if_neg c0] at q1
      refine iteF ⟨_, _, rfl, rfl, qt (decide_eq_decide.mpr (by omega)) q1⟩
--# Past.__init__
def spPastInit (C : Addr) : Sp := fun vs H Q _ => ∃ (y dy f : Addr) (fr : List Int), vs = [.ref y, .ref f] ∧ H y = some (.ins C dy []) ∧ LsAt H f fr ∧
  ∀ (H' : Hp) (A : PA), PastAt H' C y fr De.none A → (∀ x o, x ≠ y → H x = some o → H' x = some o) → (∀ x, footP y fr 0 A x → x = y ∨ H x = none) → Q .non H'
theorem sc_Past_init : FnScope ["self", "froms"] ["self", "froms"] (defScope s_Past_init) := ⟨rfl, rfl, rfl, by decide +kernel, rfl, by decide +kernel, by decide +kernel⟩
theorem c_Past_init {P : Program} {w : World} {K : PySem.W.Frag} {mg : Str → Option Value} {base : Heap} (T : Tx K mg) : C8.Mak P w K mg base 1 "Past" (He.ga K "Past") (spPastInit (He.ga K "Past")) [] := by
  refine makD T.F_Past_init T.i_Past T.g_Past (fun _ _ _ _ _ _ us hl => match us, hl with | [_, _], _ => rfl) sc_Past_init (fun vs H Q E h => ?_) (fun cdv A outer s H vs Q E hr h => ?_)
  · obtain ⟨y, dy, f, fr, rfl, _⟩ := h
    rfl
  · obtain ⟨y, dy, f, fr, rfl, hy, hf, q⟩ := h
    refine ⟨_, (pss_cons (ps_fld (pv 0) (pe_callTy call_list_of (by rfl) T.f_list (by decide +kernel) (pa_cons (pv 1) pa_nil)) rfl)
    (pss_cons (ps_fld (pv 0) pe_int rfl)
    (pss_cons (ps_fld (pv 0) (pe_lst pa_nil) rfl)
    (pss_cons (ps_fld (pv 0) (pe_lst pa_nil) rfl)
    (pss_cons (ps_fld (pv 0) pe_dnewT rfl)
    (pss_one (ps_fld (pv 0) pe_dnewT rfl))))))), ?_⟩
    have kpn : ∀ {H H' : Hp} {p : Addr} {o u : HO}, (∀ x o, x ≠ y → H x = some o → H' x = some o) → H' p = none → ∀ x o', x ≠ y → H x = some o' → (upd (upd H' p o) y u) x = some o' := by
      intro H H' p o u k np x o' nx e
      have e' := k x o' nx e
      rw [upd_ne nx, upd_ne (ne_of_none e' np)]
      exact e'
    have k0 : ∀ x o, x ≠ y → H x = some o → H x = some o := fun _ _ _ e => e
    refine ⟨_, rfl, f, _, rfl, .inl (SqL.of hf), fun f1 nf1 => ⟨_, rfl, y, _, dy, _, rfl, same_upd nf1 _ _ hy, T.k_Past, T.n_Past_froms, (by show 0 < 1000; decide), ?_⟩⟩
    have k1 := kpn (o := .lst (fr.map V.int)) (u := .ins (He.ga K "Past") dy (putF "froms" (.ref f1) [])) k0 nf1
    have yf1 : f1 ≠ y := Ne.symm (ne_of_none hy nf1)
    have a1 : (upd (upd H f1 (.lst (fr.map V.int))) y (.ins (He.ga K "Past") dy (putF "froms" (.ref f1) []))) f1 = some (.lst (fr.map V.int)) := by rw [upd_ne yf1, upd_same]
    have y1 : (upd (upd H f1 (.lst (fr.map V.int))) y (.ins (He.ga K "Past") dy (putF "froms" (.ref f1) []))) y = some (.ins (He.ga K "Past") dy [("froms", .ref f1)]) := upd_same
    generalize upd (upd H f1 (.lst (fr.map V.int))) y (.ins (He.ga K "Past") dy (putF "froms" (.ref f1) [])) = H1 at k1 a1 y1 ⊢
    refine ⟨_, rfl, y, _, dy, _, rfl, y1, T.k_Past, T.n_Past_phrases, (by show 1 < 1000; decide), ?_⟩
    have k2 : ∀ x o, x ≠ y → H1 x = some o → (upd H1 y (.ins (He.ga K "Past") dy (putF "phrases" (.int 0) [("froms", .ref f1)]))) x = some o := fun x o nx e => by rw [upd_ne nx]; exact e
    have y2 : (upd H1 y (.ins (He.ga K "Past") dy (putF "phrases" (.int 0) [("froms", .ref f1)]))) y = some (.ins (He.ga K "Past") dy [("froms", .ref f1), ("phrases", .int 0)]) := upd_same
    generalize upd H1 y (.ins (He.ga K "Past") dy (putF "phrases" (.int 0) [("froms", .ref f1)])) = H2 at k2 y2 ⊢
    have a2 := k2 _ _ yf1 a1
    refine ⟨Nat.zero_le _, fun tx ntx => ⟨_, rfl, y, _, dy, _, rfl, same_upd ntx _ _ y2, T.k_Past, T.n_Past_texts, (by show 2 < 1000; decide), ?_⟩⟩
    have ytx : tx ≠ y := Ne.symm (ne_of_none y2 ntx)
    have f1tx : f1 ≠ tx := ne_of_none a2 ntx
    have k3 := kpn (H := H2) (o := .lst []) (u := .ins (He.ga K "Past") dy (putF "texts" (.ref tx) [("froms", .ref f1), ("phrases", .int 0)])) (fun _ _ _ e => e) ntx
    have t3 : (upd (upd H2 tx (.lst [])) y (.ins (He.ga K "Past") dy (putF "texts" (.ref tx) [("froms", .ref f1), ("phrases", .int 0)]))) tx = some (.lst []) := by rw [upd_ne ytx, upd_same]
    have y3 : (upd (upd H2 tx (.lst [])) y (.ins (He.ga K "Past") dy (putF "texts" (.ref tx) [("froms", .ref f1), ("phrases", .int 0)]))) y = some (.ins (He.ga K "Past") dy [("froms", .ref f1), ("phrases", .int 0), ("texts", .ref tx)]) := upd_same
    generalize upd (upd H2 tx (.lst [])) y (.ins (He.ga K "Past") dy (putF "texts" (.ref tx) [("froms", .ref f1), ("phrases", .int 0)])) = H3 at k3 t3 y3 ⊢
    have a3 := k3 _ _ yf1 a2
    refine ⟨Nat.zero_le _, fun og nog => ⟨_, rfl, y, _, dy, _, rfl, same_upd nog _ _ y3, T.k_Past, T.n_Past_origins, (by show 3 < 1000; decide), ?_⟩⟩
    have yog : og ≠ y := Ne.symm (ne_of_none y3 nog)
    have f1og : f1 ≠ og := ne_of_none a3 nog
    have txog : tx ≠ og := ne_of_none t3 nog
    have k4 := kpn (H := H3) (o := .lst []) (u := .ins (He.ga K "Past") dy (putF "origins" (.ref og) [("froms", .ref f1), ("phrases", .int 0), ("texts", .ref tx)])) (fun _ _ _ e => e) nog
    have o4 : (upd (upd H3 og (.lst [])) y (.ins (He.ga K "Past") dy (putF "origins" (.ref og) [("froms", .ref f1), ("phrases", .int 0), ("texts", .ref tx)]))) og = some (.lst []) := by rw [upd_ne yog, upd_same]
    have y4 : (upd (upd H3 og (.lst [])) y (.ins (He.ga K "Past") dy (putF "origins" (.ref og) [("froms", .ref f1), ("phrases", .int 0), ("texts", .ref tx)]))) y = some (.ins (He.ga K "Past") dy [("froms", .ref f1), ("phrases", .int 0), ("texts", .ref tx), ("origins", .ref og)]) := upd_same
    generalize upd (upd H3 og (.lst [])) y (.ins (He.ga K "Past") dy (putF "origins" (.ref og) [("froms", .ref f1), ("phrases", .int 0), ("texts", .ref tx)])) = H4 at k4 o4 y4 ⊢
    have a4 := k4 _ _ yf1 a3
    have t4 := k4 _ _ ytx t3
    refine fun ev nev => ⟨_, rfl, y, _, dy, _, rfl, same_upd nev _ _ y4, T.k_Past, T.n_Past_ever, (by show 4 < 1000; decide), ?_⟩
    have yev : ev ≠ y := Ne.symm (ne_of_none y4 nev)
    have k5 := kpn (H := H4) (o := .dT []) (u := .ins (He.ga K "Past") dy (putF "ever" (.ref ev) [("froms", .ref f1), ("phrases", .int 0), ("texts", .ref tx), ("origins", .ref og)])) (fun _ _ _ e => e) nev
    have e5 : (upd (upd H4 ev (.dT [])) y (.ins (He.ga K "Past") dy (putF "ever" (.ref ev) [("froms", .ref f1), ("phrases", .int 0), ("texts", .ref tx), ("origins", .ref og)]))) ev = some (.dT []) := by rw [upd_ne yev, upd_same]
    have y5 : (upd (upd H4 ev (.dT [])) y (.ins (He.ga K "Past") dy (putF "ever" (.ref ev) [("froms", .ref f1), ("phrases", .int 0), ("texts", .ref tx), ("origins", .ref og)]))) y = some (.ins (He.ga K "Past") dy [("froms", .ref f1), ("phrases", .int 0), ("texts", .ref tx), ("origins", .ref og), ("ever", .ref ev)]) := upd_same
    generalize upd (upd H4 ev (.dT [])) y (.ins (He.ga K "Past") dy (putF "ever" (.ref ev) [("froms", .ref f1), ("phrases", .int 0), ("texts", .ref tx), ("origins", .ref og)])) = H5 at k5 e5 y5 ⊢
    refine fun pi npi => ⟨_, rfl, y, _, dy, _, rfl, same_upd npi _ _ y5, T.k_Past, T.n_Past_piles, (by show 5 < 1000; decide), ?_⟩
    have ypi : pi ≠ y := Ne.symm (ne_of_none y5 npi)
    have evpi : ev ≠ pi := ne_of_none e5 npi
    have k6 := kpn (H := H5) (o := .dT []) (u := .ins (He.ga K "Past") dy (putF "piles" (.ref pi) [("froms", .ref f1), ("phrases", .int 0), ("texts", .ref tx), ("origins", .ref og), ("ever", .ref ev)])) (fun _ _ _ e => e) npi
    have p6 : (upd (upd H5 pi (.dT [])) y (.ins (He.ga K "Past") dy (putF "piles" (.ref pi) [("froms", .ref f1), ("phrases", .int 0), ("texts", .ref tx), ("origins", .ref og), ("ever", .ref ev)]))) pi = some (.dT []) := by rw [upd_ne ypi, upd_same]
    have y6 : (upd (upd H5 pi (.dT [])) y (.ins (He.ga K "Past") dy (putF "piles" (.ref pi) [("froms", .ref f1), ("phrases", .int 0), ("texts", .ref tx), ("origins", .ref og), ("ever", .ref ev)]))) y = some (.ins (He.ga K "Past") dy (pastF 0 ⟨dy, f1, tx, og, ev, pi, [], [], fun _ _ => y, fun _ _ => y⟩)) := upd_same
    generalize upd (upd H5 pi (.dT [])) y (.ins (He.ga K "Past") dy (putF "piles" (.ref pi) [("froms", .ref f1), ("phrases", .int 0), ("texts", .ref tx), ("origins", .ref og), ("ever", .ref ev)])) = H6 at k6 p6 y6 ⊢
    have k06 : ∀ x o, x ≠ y → H x = some o → H6 x = some o := fun x o nx e => k6 _ _ nx (k5 _ _ nx (k4 _ _ nx (k3 _ _ nx (k2 _ _ nx (k1 _ _ nx e)))))
    have fr0 : ∀ p t, ¬ Dom fr 0 p t := fun p t z => Nat.not_lt_zero _ z.1
    have new : ∀ {z : Addr} {H' : Hp}, (∀ x o, x ≠ y → H x = some o → H' x = some o) → H' z = none → H z = none ∨ z = y := by
      intro z H' k nz
      by_cases c : z = y
      · exact .inr c
      · refine .inl ?_
        cases e : H z with
        | none => rfl
        | some o =>
          rw [k z o c e] at nz
          cases nz
    have k02 := fun x o nx e => k2 x o nx (k1 x o nx e)
    have k03 := fun x o nx e => k3 x o nx (k02 x o nx e)
    have k04 := fun x o nx e => k4 x o nx (k03 x o nx e)
    have k05 := fun x o nx e => k5 x o nx (k04 x o nx e)
    refine q H6 ⟨dy, f1, tx, og, ev, pi, [], [], fun _ _ => y, fun _ _ => y⟩ ⟨⟨y6, k6 _ _ yf1 (k5 _ _ yf1 a4), k6 _ _ ytx (k5 _ _ ytx t4), k6 _ _ yog (k5 _ _ yog o4), k6 _ _ yev e5, p6, fun p t d => absurd d (fr0 p t), fun p t d => absurd d (fr0 p t), txog, f1tx, f1og, evpi, fun p t d => absurd d (fr0 p t), fun p t _ _ d => absurd d (fr0 p t), fun p t _ _ d => absurd d (fr0 p t)⟩, Nat.zero_le _, fun _ _ => Nat.le_refl _, Nat.zero_le _, Nat.zero_le _⟩ k06 ?_
    rintro x (z | z | z | z | z | z | ⟨p, t, d, z⟩ | ⟨p, t, d, z⟩)
    · exact .inl z
    · exact .inr (by rw [z]; exact nf1)
    · exact (new k02 ntx).symm.imp (fun e => z.trans e) (fun e => by rw [z]; exact e)
    · exact (new k03 nog).symm.imp (fun e => z.trans e) (fun e => by rw [z]; exact e)
    · exact (new k04 nev).symm.imp (fun e => z.trans e) (fun e => by rw [z]; exact e)
    · exact (new k05 npi).symm.imp (fun e => z.trans e) (fun e => by rw [z]; exact e)
    · exact absurd d (fr0 p t)
    · exact absurd d (fr0 p t)

end PD

namespace PD
open PySem PySem.Spec PyProof.Rows L2

/-! Phrasedesk: a Desk's smaller methods -/
--# is_text
def txB (x : Str) : Bool := decide (1 ≤ x.length) && (decide (x.length ≤ 6) && x.cps.toList.all fun c => decide (97 ≤ c ∧ c ≤ 122))
theorem txB_ok {x : Str} (h : TxOk x) : txB x = true := by
  unfold txB
  rw [decide_eq_true h.lo, decide_eq_true h.hi, List.all_eq_true.mpr fun c hc => decide_eq_true (h.each c hc)]
  rfl
theorem txB_of {x : Str} (h : txB x = true) : TxOk x := by
  unfold txB at h
  rw [Bool.and_eq_true, Bool.and_eq_true] at h
  exact ⟨of_decide_eq_true h.1, of_decide_eq_true h.2.1, fun c hc => of_decide_eq_true (List.all_eq_true.mp h.2.2 c hc)⟩
theorem az_mem (c : Nat) : decide (c ∈ (Str.ofString "abcdefghijklmnopqrstuvwxyz").cps.toList) = decide (97 ≤ c ∧ c ≤ 122) := by
  refine decide_eq_decide.mpr ⟨fun h => ?_, fun h => ?_⟩
  · have : ∀ c ∈ (Str.ofString "abcdefghijklmnopqrstuvwxyz").cps.toList, 97 ≤ c ∧ c ≤ 122 := by decide +kernel
    exact this c h
  · have e := az_at (c - 97) (by omega)
    rw [show 97 + (c - 97) = c by omega] at e
    exact List.mem_of_getElem? e
def spIsText : Sp := fun vs H Q _ => ∃ x : Str, vs = [.str x] ∧ x.length ≤ 5000 ∧ ∀ H' : Hp, Same H H' → Q (.bl (txB x)) H'
theorem sc_is_text : FnScope ["value", "sign"] ["value"] (defScope s_is_text) := ⟨rfl, rfl, rfl, by decide +kernel, rfl, by decide +kernel, by decide +kernel⟩
theorem c_is_text {P : Program} {w : World} {K : PySem.W.Frag} {mg : Str → Option Value} {base : Heap} (T : Tx K mg) : C8.Cal P w K mg base 1 "is_text" (spIsText) [] := by
  refine calD T.F_is_text T.g_is_text (fun _ _ _ _ _ _ us hl => match us, hl with | [_], _ => rfl) sc_is_text (fun vs H Q E h => ?_) (fun cdv A outer s H vs Q E hr h => ?_)
  · obtain ⟨x, rfl, _⟩ := h
    rfl
  · obtain ⟨x, rfl, xl, q⟩ := h
    refine ⟨_, (pss_one (ps_ret (pe_and (pe_callB call_isi (by rfl) T.f_isinstance (by decide +kernel) (pa_cons (pv 0) (pa_cons (pe_bltn (v := .ty "str") (by rfl) T.f_str (by decide +kernel) rfl) pa_nil))) (pe_and (pe_chain op_le op_le pe_int (pe_callB call_len_str (by rfl) T.f_len (by decide +kernel) (pa_cons (pv 0) pa_nil)) (pe_glob (v := .int 6) rfl (T.g_MOST_LETTERS).choose_spec ⟨_, rfl⟩)) (pe_one (pe_callB (cr_all rfl) (by rfl) T.f_all (by decide +kernel) (pa_cons (pe_lc (own := [("sign", 1)]) (g := gName 1) (tt := tYes) (by rfl) sc_is_text.nd (pi_str (pv 0)) (blkOk_by (own := [("sign", 1)]) (N := ["value", "sign"]) (sc := defScope s_is_text) (by decide +kernel)) (fun _ _ _ _ _ => (pg_name (i := 1) sc_is_text.nd rfl (Or.inl rfl))) (fun _ _ _ _ _ => pts_nil) (fun _ _ _ _ _ => (pe_cmpR op_in_str (pv 1) (pe_glob (v := .str "abcdefghijklmnopqrstuvwxyz") rfl (T.g_LETTERS).choose_spec ⟨_, rfl⟩) (by rfl)))) pa_nil))))))), ?_⟩
    refine ⟨_, rfl, _, _, _, _, true, rfl, .ty _, .base (.str x), is_ty (by decide +kernel), true, rfl, iteT ?_⟩
    refine ⟨_, rfl, x, rfl, Nat.le_of_lt (small5000 xl), _, _, rfl, rfl, decide ((1 : Int) ≤ (x.length : Int)), rfl, ?_⟩
    have q0 := q H (Same.refl _)
    unfold txB at q q0
    by_cases c1 : (1 : Int) ≤ (x.length : Int)
    case neg =>
      rw [decide_eq_false c1]
      rw [decide_eq_false (show ¬ 1 ≤ x.length by omega), Bool.false_and] at q0
      exact iteF ⟨false, rfl, iteF q0⟩
    rw [decide_eq_true c1]
    rw [decide_eq_true (show 1 ≤ x.length by omega), Bool.true_and] at q q0
    refine iteT ⟨_, _, rfl, rfl, decide ((x.length : Int) ≤ 6), rfl, ?_⟩
    by_cases c2 : (x.length : Int) ≤ 6
    case neg =>
      rw [decide_eq_false c2]
      rw [decide_eq_false (show ¬ x.length ≤ 6 by omega), Bool.false_and] at q0
      exact iteF q0
    rw [decide_eq_true c2]
    rw [decide_eq_true (show x.length ≤ 6 by omega), Bool.true_and] at q
    refine iteT ⟨_, rfl, x, rfl, fun D nD => ?_⟩
    refine lc_it (walk_str (z := x)) (fun i H1 => Same H H1 ∧ H1 D = some (.lst (((x.cps.toList.take i).map fun c => decide (97 ≤ c ∧ c ≤ 122)).map V.bl))) ⟨same_upd nD, upd_same⟩ (fun _ _ _ _ => trivial) ?_ ?_
    · rintro i v H1 H2 hi ⟨s1, hD⟩ ⟨rfl, c, ec, rfl⟩
      refine ⟨rfl, _, rfl, _, _, rfl, rfl, _, hD, ?_, Same.chg s1 nD, ?_⟩
      · rw [List.length_map, List.length_map, List.length_take]
        have hi' : i < x.length := hi
        exact small5000 (by omega)
      · have ec' : x.cps.toList[i]? = some c := by rw [Array.getElem?_toList]; exact ec
        rw [upd_same, List.take_add_one, ec', Option.toList_some, List.map_append, List.map_append, StrLaws.found_one, az_mem]
        rfl
    · rintro H1 ⟨s1, hD⟩
      rw [show x.cps.size = x.cps.toList.length from Array.length_toList.symm, List.take_length] at hD
      refine ⟨D, _, rfl, SqL.of hD, qt ?_ (q _ s1)⟩
      rw [List.all_map]
      rfl
--# Desk.check_phrase
abbrev DeK (K : PySem.W.Frag) (H : Hp) (d : Addr) (fr : List Int) (S : De) (ls : List Line) (F : Addr → Prop) : Prop := Desk H (He.ga K "Desk") (He.ga K "Past") d fr S ls F
theorem df_past (p L : Addr) : (deskF p L).lookup ("past" : Str) = some (.ref p) := rfl
theorem df_lines (p L : Addr) : (deskF p L).lookup ("lines" : Str) = some (.ref L) := rfl
def spCkP (K : PySem.W.Frag) : Sp := fun vs H Q _ => ∃ (d : Addr) (fr : List Int) (S : De) (ls : List Line) (F : Addr → Prop) (p : Nat), vs = [.ref d, .int p] ∧ DeK K H d fr S ls F ∧ p < S.n ∧ Q .non H
theorem sc_Desk_check_phrase : FnScope ["self", "phrase"] ["self", "phrase"] (defScope s_Desk_check_phrase) := ⟨rfl, rfl, rfl, by decide +kernel, rfl, by decide +kernel, by decide +kernel⟩
theorem c_Desk_check_phrase {P : Program} {w : World} {K : PySem.W.Frag} {mg : Str → Option Value} {base : Heap} (T : Tx K mg) : C8.Met P w K mg base 4 (He.ga K "Desk") "check_phrase" (spCkP K) [] := by
  refine metD T.F_Desk_check_phrase T.k_Desk T.m_Desk_check_phrase (fun _ _ _ _ _ _ us hl => match us, hl with | [_, _], _ => rfl) sc_Desk_check_phrase (fun vs H Q E h => ?_) (fun cdv A outer s H vs Q E hr h => ?_)
  · obtain ⟨d, fr, S, ls, F, p, rfl, _⟩ := h
    rfl
  · obtain ⟨d, fr, S, ls, F, p, rfl, hD, hp, q⟩ := h
    refine ⟨_, (pss_one (ps_if (pt_not (pt_val (C8.pe_mt (c_Past_has_phrase T) hr (by decide) (pe_fld (pv 0) (by rfl)) (pa_cons (pv 1) pa_nil))))
      (pss_one ps_never)
      pss_nil)), ?_⟩
    obtain ⟨B, hB, hF, _⟩ := hD
    refine ⟨_, rfl, d, _, _, _, _, rfl, hB.obj, T.k_Desk, T.n_Desk_past, df_past _ _, B.p, _, _, rfl, hB.past.raw.obj, rfl, _, rfl, B.p, fr, S, B.A, (p : Int), rfl, hB.past, true, ?_, iteF q⟩
    rw [decide_eq_true (by omega : (0 : Int) ≤ (p : Int)), decide_eq_true (by omega : (p : Int) < (S.n : Int))]
    rfl
--# Desk.check_place
def spCkPl (K : PySem.W.Frag) : Sp := fun vs H Q _ => ∃ (d : Addr) (fr : List Int) (S : De) (ls : List Line) (F : Addr → Prop) (p t : Nat), vs = [.ref d, .int p, .int t] ∧ DeK K H d fr S ls F ∧ p < S.n ∧ t ≤ fr.length ∧ Q .non H
theorem sc_Desk_check_place : FnScope ["self", "phrase", "tongue"] ["self", "phrase", "tongue"] (defScope s_Desk_check_place) := ⟨rfl, rfl, rfl, by decide +kernel, rfl, by decide +kernel, by decide +kernel⟩
theorem c_Desk_check_place {P : Program} {w : World} {K : PySem.W.Frag} {mg : Str → Option Value} {base : Heap} (T : Tx K mg) : C8.Met P w K mg base 5 (He.ga K "Desk") "check_place" (spCkPl K) [] := by
  refine metD T.F_Desk_check_place T.k_Desk T.m_Desk_check_place (fun _ _ _ _ _ _ us hl => match us, hl with | [_, _, _], _ => rfl) sc_Desk_check_place (fun vs H Q E h => ?_) (fun cdv A outer s H vs Q E hr h => ?_)
  · obtain ⟨d, fr, S, ls, F, p, t, rfl, _⟩ := h
    rfl
  · obtain ⟨d, fr, S, ls, F, p, t, rfl, hD, hp, ht, q⟩ := h
    refine ⟨_, (pss_cons (ps_expr (C8.pe_mt (c_Desk_check_phrase T) hr (by decide) (pv 0) (pa_cons (pv 1) pa_nil)))
    (pss_one (ps_if (pt_not (pt_val (C8.pe_c (c_is_tongue T) hr (by decide) rfl (pa_cons (pe_fld (pe_fld (pv 0) (by rfl)) (by rfl)) (pa_cons (pv 2) pa_nil)))))
      (pss_one ps_never)
      pss_nil))), ?_⟩
    obtain ⟨B, hB, hF, h3⟩ := id hD
    refine ⟨_, rfl, d, _, _, rfl, hB.obj, rfl, _, rfl, d, fr, S, ls, F, p, rfl, hD, hp, ?_⟩
    refine ⟨_, rfl, d, _, _, _, _, rfl, hB.obj, T.k_Desk, T.n_Desk_past, df_past _ _, B.p, _, _, _, _, rfl, hB.past.raw.obj, T.k_Past, T.n_Past_froms, pf_froms _ _, _, rfl, B.A.f, fr, (t : Int), rfl, hB.past.raw.frm, true, ?_, iteF q⟩
    rw [decide_eq_true (by omega : (0 : Int) ≤ (t : Int)), decide_eq_true (by omega : (t : Int) ≤ (fr.length : Int))]
    rfl
--# Desk.check_other_tongue
def spCkO (K : PySem.W.Frag) : Sp := fun vs H Q _ => ∃ (d : Addr) (fr : List Int) (S : De) (ls : List Line) (F : Addr → Prop) (t : Nat), vs = [.ref d, .int t] ∧ DeK K H d fr S ls F ∧ 0 < t ∧ t ≤ fr.length ∧ Q .non H
theorem sc_Desk_check_other_tongue : FnScope ["self", "tongue"] ["self", "tongue"] (defScope s_Desk_check_other_tongue) := ⟨rfl, rfl, rfl, by decide +kernel, rfl, by decide +kernel, by decide +kernel⟩
theorem c_Desk_check_other_tongue {P : Program} {w : World} {K : PySem.W.Frag} {mg : Str → Option Value} {base : Heap} (T : Tx K mg) : C8.Met P w K mg base 4 (He.ga K "Desk") "check_other_tongue" (spCkO K) [] := by
  refine metD T.F_Desk_check_other_tongue T.k_Desk T.m_Desk_check_other_tongue (fun _ _ _ _ _ _ us hl => match us, hl with | [_, _], _ => rfl) sc_Desk_check_other_tongue (fun vs H Q E h => ?_) (fun cdv A outer s H vs Q E hr h => ?_)
  · obtain ⟨d, fr, S, ls, F, t, rfl, _⟩ := h
    rfl
  · obtain ⟨d, fr, S, ls, F, t, rfl, hD, t0, ht, q⟩ := h
    refine ⟨_, (pss_one (ps_if (PW.pt (pw_or (pt_not (pt_val (C8.pe_c (c_is_tongue T) hr (by decide) rfl (pa_cons (pe_fld (pe_fld (pv 0) (by rfl)) (by rfl)) (pa_cons (pv 1) pa_nil))))) (pw_or1 (pt_cmpR op_eq (pv 1) pe_int (nomark _)))))
      (pss_one ps_never)
      pss_nil)), ?_⟩
    obtain ⟨B, hB, hF, h3⟩ := id hD
    refine ⟨_, rfl, d, _, _, _, _, rfl, hB.obj, T.k_Desk, T.n_Desk_past, df_past _ _, B.p, _, _, _, _, rfl, hB.past.raw.obj, T.k_Past, T.n_Past_froms, pf_froms _ _, _, rfl, B.A.f, fr, (t : Int), rfl, hB.past.raw.frm, true, ?_, iteF ⟨_, rfl, rfl, false, ?_, iteF q⟩⟩
    · rw [decide_eq_true (by omega : (0 : Int) ≤ (t : Int)), decide_eq_true (by omega : (t : Int) ≤ (fr.length : Int))]
      rfl
    · rw [show decide (V.int (t : Int) = V.int 0) = decide (t = 0) from dec_nat (y := 0), decide_eq_false (by omega)]
--# Desk.check_text
def spCkT : Sp := fun vs H Q _ => ∃ (d : Addr) (x : Str), vs = [.ref d, .str x] ∧ TxOk x ∧ ∀ H', Same H H' → Q .non H'
theorem sc_Desk_check_text : FnScope ["self", "text"] ["self", "text"] (defScope s_Desk_check_text) := ⟨rfl, rfl, rfl, by decide +kernel, rfl, by decide +kernel, by decide +kernel⟩
theorem c_Desk_check_text {P : Program} {w : World} {K : PySem.W.Frag} {mg : Str → Option Value} {base : Heap} (T : Tx K mg) : C8.Met P w K mg base 2 (He.ga K "Desk") "check_text" (spCkT) [] := by
  refine metD T.F_Desk_check_text T.k_Desk T.m_Desk_check_text (fun _ _ _ _ _ _ us hl => match us, hl with | [_, _], _ => rfl) sc_Desk_check_text (fun vs H Q E h => ?_) (fun cdv A outer s H vs Q E hr h => ?_)
  · obtain ⟨d, x, rfl, _⟩ := h
    rfl
  · obtain ⟨d, x, rfl, tx, q⟩ := h
    refine ⟨_, (pss_one (ps_if (pt_not (pt_val (C8.pe_c (c_is_text T) hr (by decide) rfl (pa_cons (pv 1) pa_nil))))
      (pss_one ps_never)
      pss_nil)), ?_⟩
    refine ⟨_, rfl, x, rfl, by have := tx.hi; omega, fun H1 s1 => ⟨true, by rw [txB_ok tx], iteF (q _ s1)⟩⟩
--# Desk.is_fresh
def spFre (K : PySem.W.Frag) : Sp := fun vs H Q _ => ∃ (d : Addr) (fr : List Int) (S : De) (ls : List Line) (F : Addr → Prop) (p t : Nat), vs = [.ref d, .int p, .int t] ∧ DeK K H d fr S ls F ∧ S.Ok fr ∧ FrOk fr ∧ p < S.n ∧ t ≤ fr.length ∧ ∀ H', Same H H' → Q (.bl (chain fr (S.row (fr.length + 1) p) t).isNone) H'
theorem sc_Desk_is_fresh : FnScope ["self", "phrase", "tongue"] ["self", "phrase", "tongue"] (defScope s_Desk_is_fresh) := ⟨rfl, rfl, rfl, by decide +kernel, rfl, by decide +kernel, by decide +kernel⟩
theorem c_Desk_is_fresh {P : Program} {w : World} {K : PySem.W.Frag} {mg : Str → Option Value} {base : Heap} (T : Tx K mg) : C8.Met P w K mg base 4 (He.ga K "Desk") "is_fresh" (spFre K) [] := by
  refine metD T.F_Desk_is_fresh T.k_Desk T.m_Desk_is_fresh (fun _ _ _ _ _ _ us hl => match us, hl with | [_, _, _], _ => rfl) sc_Desk_is_fresh (fun vs H Q E h => ?_) (fun cdv A outer s H vs Q E hr h => ?_)
  · obtain ⟨d, fr, S, ls, F, p, t, rfl, _⟩ := h
    rfl
  · obtain ⟨d, fr, S, ls, F, p, t, rfl, hD, ok, fo, hp, ht, q⟩ := h
    refine ⟨_, (pss_one (ps_ret (pe_cmpR op_isN (C8.pe_c (c_chain_up T) hr (by decide) rfl (pa_cons (pe_fld (pe_fld (pv 0) (by rfl)) (by rfl)) (pa_cons (C8.pe_mt (c_Past_cells T) hr (by decide) (pe_fld (pv 0) (by rfl)) (pa_cons (pv 1) pa_nil)) (pa_cons (pv 2) pa_nil)))) pe_non (nomark _)))), ?_⟩
    obtain ⟨B, hB, hF, h3⟩ := id hD
    refine ⟨_, rfl, d, _, _, _, _, rfl, hB.obj, T.k_Desk, T.n_Desk_past, df_past _ _, B.p, _, _, _, _, rfl, hB.past.raw.obj, T.k_Past, T.n_Past_froms, pf_froms _ _, _, rfl, d, _, _, _, _, rfl, hB.obj, T.k_Desk, T.n_Desk_past, df_past _ _, B.p, _, _, rfl, hB.past.raw.obj, rfl, _, rfl, B.p, fr, S, B.A, p, rfl, hB.past, ok.num, fo, hp, fun H1 r s1 nr hr1 => ?_⟩
    refine ⟨_, rfl, B.A.f, fr, r, _, t, rfl, hB.past.raw.frm.same s1, fo, hr1, ok.row hp, ht, fun e H2 s2 => ⟨rfl, qt ?_ (q _ (s1.trans s2))⟩, fun c e H2 l s2 nl hl => ⟨rfl, qt ?_ (q _ (s1.trans s2))⟩⟩
    · rw [e]
      rfl
    · rw [e]
      rfl

end PD

namespace PD
open PySem PySem.Spec PyProof.Rows L2

/-! Phrasedesk: a Desk's deeds -/
--# Desk.__init__
theorem De.none_ok {fr : List Int} : De.none.Ok fr := ⟨fun p t k h => (nomatch h), Nat.zero_le _, fun p h => absurd h (Nat.not_lt_zero _), fun k u h => (nomatch h)⟩
def spDeskInit (K : PySem.W.Frag) : Sp := fun vs H Q _ => ∃ (y dy f : Addr) (fr : List Int), vs = [.ref y, .ref f] ∧ H y = some (.ins (He.ga K "Desk") dy []) ∧ LsAt H f fr ∧ FrOk fr ∧
  ∀ (H' : Hp) (F : Addr → Prop), DeK K H' y fr De.none [] F → (∀ x o, x ≠ y → H x = some o → H' x = some o) → (∀ x, F x → x = y ∨ H x = none) → Q .non H'
theorem sc_Desk_init : FnScope ["self", "froms"] ["self", "froms"] (defScope s_Desk_init) := ⟨rfl, rfl, rfl, by decide +kernel, rfl, by decide +kernel, by decide +kernel⟩
theorem c_Desk_init {P : Program} {w : World} {K : PySem.W.Frag} {mg : Str → Option Value} {base : Heap} (T : Tx K mg) : C8.Mak P w K mg base 4 "Desk" (He.ga K "Desk") (spDeskInit K) [] := by
  refine makD T.F_Desk_init T.i_Desk T.g_Desk (fun _ _ _ _ _ _ us hl => match us, hl with | [_, _], _ => rfl) sc_Desk_init (fun vs H Q E h => ?_) (fun cdv A outer s H vs Q E hr h => ?_)
  · obtain ⟨y, dy, f, fr, rfl, _⟩ := h
    rfl
  · obtain ⟨y, dy, f, fr, rfl, hy, hf, fo, q⟩ := h
    refine ⟨_, (pss_cons (ps_if (pt_not (pt_val (C8.pe_c (c_is_froms T) hr (by decide) rfl (pa_cons (pv 1) pa_nil))))
      (pss_one ps_never)
      pss_nil)
    (pss_cons (ps_fld (pv 0) (C8.pe_mk (c_Past_init T) hr (by decide) rfl (pa_cons (pv 1) pa_nil)) rfl)
    (pss_one (ps_fld (pv 0) (pe_lst pa_nil) rfl)))), ?_⟩
    refine ⟨_, rfl, f, fr, rfl, hf, fo, fun H1 s1 => ⟨true, rfl, iteF ?_⟩⟩
    have hy1 := s1 _ _ hy
    refine ⟨_, rfl, fun p dp np ndp dne => ⟨p, dp, f, fr, rfl, upd_same, ?_, fun H2 A hP k2 f2 => ⟨rfl, ?_⟩⟩⟩
    · have ha := hf.same s1
      unfold LsAt
      rw [upd_ne (ne_of_none ha np), upd_ne (ne_of_none ha ndp)]
      exact ha
    have k12 : ∀ x o, H1 x = some o → H2 x = some o := fun x o e => k2 x o (ne_of_none e np) (by rw [upd_ne (ne_of_none e np), upd_ne (ne_of_none e ndp)]; exact e)
    have hy2 := k12 _ _ hy1
    have yp : y ≠ p := ne_of_none hy1 np
    have f12 : ∀ x, footP p fr 0 A x → H1 x = none := by
      intro x fx
      rcases f2 x fx with z | z
      · rw [z]
        exact np
      · cases e : H1 x with
        | none => rfl
        | some o =>
          rw [upd_ne (ne_of_none e np), upd_ne (ne_of_none e ndp), e] at z
          cases z
    have nyf : ¬ footP p fr 0 A y := fun z => by
      have := f12 y z
      rw [hy1] at this
      cases this
    refine ⟨_, rfl, y, _, dy, [], rfl, hy2, T.k_Desk, T.n_Desk_past, (by show 0 < 1000; decide), ?_⟩
    have hP3 : PastAt (upd H2 y (.ins (He.ga K "Desk") dy (putF "past" (.ref p) []))) (He.ga K "Past") p fr De.none A := hP.keep fun x o fx e => by
      rw [upd_ne (fun z => nyf (by rw [← z]; exact fx))]
      exact e
    have hy3 : (upd H2 y (.ins (He.ga K "Desk") dy (putF "past" (.ref p) []))) y = some (.ins (He.ga K "Desk") dy [("past", .ref p)]) := upd_same
    have k3 : ∀ x o, x ≠ y → H1 x = some o → (upd H2 y (.ins (He.ga K "Desk") dy (putF "past" (.ref p) []))) x = some o := fun x o nx e => by rw [upd_ne nx]; exact k12 x o e
    generalize upd H2 y (.ins (He.ga K "Desk") dy (putF "past" (.ref p) [])) = H3 at hP3 hy3 k3 ⊢
    refine ⟨Nat.zero_le _, fun L nL => ⟨_, rfl, y, _, dy, _, rfl, same_upd nL _ _ hy3, T.k_Desk, T.n_Desk_lines, (by show 1 < 1000; decide), ?_⟩⟩
    have yL : L ≠ y := Ne.symm (ne_of_none hy3 nL)
    have nLf : ¬ footP p fr 0 A L := fun z => by
      obtain ⟨o, e, _⟩ := hP3.raw.foot z
      rw [nL] at e
      cases e
    have k5 : ∀ x o, x ≠ y → H3 x = some o → (upd (upd H3 L (.lst [])) y (.ins (He.ga K "Desk") dy (putF "lines" (.ref L) [("past", .ref p)]))) x = some o := fun x o nx e => by
      rw [upd_ne nx, upd_ne (ne_of_none e nL)]
      exact e
    have hP5 : PastAt (upd (upd H3 L (.lst [])) y (.ins (He.ga K "Desk") dy (putF "lines" (.ref L) [("past", .ref p)]))) (He.ga K "Past") p fr De.none A := hP3.keep fun x o fx e => k5 x o (fun z => nyf (by rw [← z]; exact fx)) e
    have D5 : DeskAt (upd (upd H3 L (.lst [])) y (.ins (He.ga K "Desk") dy (putF "lines" (.ref L) [("past", .ref p)]))) (He.ga K "Desk") (He.ga K "Past") y fr De.none [] ⟨dy, p, L, A⟩ := ⟨upd_same, hP5, ⟨[], by rw [upd_ne yL, upd_same], All2.nil⟩, nyf, nLf⟩
    refine q _ _ (desk_of D5) (fun x o nx e => k5 x o nx (k3 x o nx (s1 _ _ e))) ?_
    rintro x (z | z | z)
    · exact .inl z
    · have z' : x = L := z
      refine .inr ?_
      rw [z']
      cases e : H L with
      | none => rfl
      | some o =>
        rw [k3 L o yL (s1 _ _ e)] at nL
        cases nL
    · exact .inr (s1.free (f12 x z))
--# Desk.put
def spPut (K : PySem.W.Frag) : Sp := fun vs H Q _ => ∃ (d : Addr) (fr : List Int) (S : De) (ls : List Line) (F : Addr → Prop) (p t : Nat) (x : Str) (s o : Option Int), vs = [.ref d, .int p, .int t, .str x, oV s, oV o] ∧ DeK K H d fr S ls F ∧ FrOk fr ∧ S.May fr (.put p t x s o) ∧ S.puts.length < 5000 ∧ ls.length < 5000 ∧
  Goes (He.ga K "Desk") (He.ga K "Past") d fr H F (S.lay p t x s) (ls ++ [.put p t x s o (S.puts.length : Int)]) (Q (.int (S.puts.length : Int)))
theorem De.seen_in {fr : List Int} {S : De} {p t : Nat} {s : Option Int} (h : S.Seen fr p t s) : s ∈ S.seens fr p t := by
  unfold De.seens
  by_cases c : t = 0
  · rw [if_pos c, h.1 c]
    exact List.mem_singleton.mpr rfl
  · rw [if_neg c]
    obtain ⟨k, rfl, v, e1, e2, e3⟩ := h.2 (by omega)
    refine List.mem_map.mpr ⟨((k : Int), v.x), evG_mem.mpr ⟨k, v, e1, e2, e3, ?_⟩, rfl⟩
    rw [Nat.zero_add]
/-- lines with one more -/
theorem DeskAt.line {H H1 : Hp} {CD CP d : Addr} {fr : List Int} {S S' : De} {ls : List Line} {B B' : DA} {vs : List V} {n : Line} {q : Addr} (h : DeskAt H CD CP d fr S ls B) (o : Only (footP B.p fr S.n B.A) H H1) (hP : PastAt H1 CP B.p fr S' B'.A) (e1 : B'.dx = B.dx) (e2 : B'.p = B.p) (e3 : B'.L = B.L)
    (nf : ∀ x, footP B.p fr S'.n B'.A x → footP B.p fr S.n B.A x ∨ H x = none) (hv : H B.L = some (.lst vs)) (hq : (upd H1 q (.tup n.vals)) q = some (.tup n.vals)) (nq : H1 q = none) :
    (upd H1 q (.tup n.vals)) B.L = some (.lst vs) ∧ DeskAt (upd (upd H1 q (.tup n.vals)) B.L (.lst (vs ++ [.ref q]))) CD CP d fr S' (ls ++ [n]) B' := by
  obtain ⟨dx, p, L, A⟩ := B
  obtain ⟨dx', p', L', A'⟩ := B'
  cases e1
  cases e2
  cases e3
  have s2 : Same H1 (upd H1 q (.tup n.vals)) := same_upd nq
  have hl1 := o.out _ _ h.nL hv
  have hl2 := s2 _ _ hl1
  have nL' : ¬ footP p fr S'.n A' L := fun z => (nf L z).elim h.nL fun y => by rw [hv] at y; cases y
  have nd' : ¬ footP p fr S'.n A' d := fun z => (nf d z).elim h.nd fun y => by rw [h.obj] at y; cases y
  refine ⟨hl2, ⟨?_, (hP.same s2).keep fun x o fx e => ?_, ?_, nd', nL'⟩⟩
  · have := s2 _ _ (o.out _ _ h.nd h.obj)
    rw [upd_ne (ne_of h.obj hv (fun z => nomatch z))]
    exact this
  · rw [upd_ne (fun z => nL' (by have z' : x = L := z; rw [← z']; exact fx))]
    exact e
  · have tupk : ∀ {a : Addr} {xs : List V}, H a = some (.tup xs) → H1 a = some (.tup xs) := fun {a xs} e => o.out _ _ (fun z => by
      obtain ⟨u, eu, nu⟩ := h.past.raw.foot z
      rw [e] at eu
      exact nu _ (Option.some.inj eu).symm) e
    obtain ⟨ws, hw, ha⟩ := h.lines
    rw [hv] at hw
    cases (HO.lst.inj (Option.some.inj hw))
    have l2 : LnAt (upd H1 q (.tup n.vals)) L ls := ⟨vs, hl2, ha.mono fun _ _ ⟨a, z, u⟩ => ⟨a, z, s2 _ _ (tupk u)⟩⟩
    exact l2.snoc hl2 ⟨q, rfl, hq⟩
theorem sc_Desk_put : FnScope ["self", "phrase", "tongue", "text", "seen", "over", "number"] ["self", "phrase", "tongue", "text", "seen", "over"] (defScope s_Desk_put) := ⟨rfl, rfl, rfl, by decide +kernel, rfl, by decide +kernel, by decide +kernel⟩
theorem c_Desk_put {P : Program} {w : World} {K : PySem.W.Frag} {mg : Str → Option Value} {base : Heap} (T : Tx K mg) : C8.Met P w K mg base 6 (He.ga K "Desk") "put" (spPut K) [] := by
  refine metD T.F_Desk_put T.k_Desk T.m_Desk_put (fun _ _ _ _ _ _ us hl => match us, hl with | [_, _, _, _, _, _], _ => rfl) sc_Desk_put (fun vs H Q E h => ?_) (fun cdv A outer s H vs Q E hr h => ?_)
  · obtain ⟨d, fr, S, ls, F, p, t, x, s0, ov, rfl, _⟩ := h
    rfl
  · obtain ⟨d, fr, S, ls, F, p, t, x, s0, ov, rfl, hD, fo, may, fw, lw, q⟩ := h
    refine ⟨_, (pss_cons (ps_expr (C8.pe_mt (c_Desk_check_place T) hr (by decide) (pv 0) (pa_cons (pv 1) (pa_cons (pv 2) pa_nil))))
    (pss_cons (ps_expr (C8.pe_mt (c_Desk_check_text T) hr (by decide) (pv 0) (pa_cons (pv 3) pa_nil)))
    (pss_cons (ps_if (pt_not (pt_val (C8.pe_mt (c_Past_was_seen T) hr (by decide) (pe_fld (pv 0) (by rfl)) (pa_cons (pv 1) (pa_cons (pv 2) (pa_cons (pv 4) pa_nil))))))
      (pss_one ps_never)
      pss_nil)
    (pss_cons (ps_if (pt_not (pt_val (C8.pe_mt (c_Past_is_over T) hr (by decide) (pe_fld (pv 0) (by rfl)) (pa_cons (pv 1) (pa_cons (pv 2) (pa_cons (pv 5) pa_nil))))))
      (pss_one ps_never)
      pss_nil)
    (pss_cons (ps_set (i := 6) sc_Desk_put.nd rfl (Or.inl rfl) (C8.pe_mt (c_Past_lay_down T) hr (by decide) (pe_fld (pv 0) (by rfl)) (pa_cons (pv 1) (pa_cons (pv 2) (pa_cons (pv 3) (pa_cons (pv 4) pa_nil))))))
    (pss_cons (ps_expr (pe_bm PySem.F.plainAttrs_list PySem.F.slot_list_append PySem.F.type_list_append mt_append (pe_fld (pv 0) (by rfl)) (pa_cons (pe_tup (pa_cons pe_str (pa_cons (pv 1) (pa_cons (pv 2) (pa_cons (pv 3) (pa_cons (pv 4) (pa_cons (pv 5) (pa_cons (pv 6) pa_nil)))))))) pa_nil)))
    (pss_one (ps_ret (pv 6))))))))), ?_⟩
    obtain ⟨hp, ht, tx, eo, sn⟩ := may
    obtain ⟨B, hB, hF, h3⟩ := id hD
    refine ⟨_, rfl, d, _, _, rfl, hB.obj, rfl, _, rfl, _, rfl, d, fr, S, ls, F, p, t, rfl, hD, hp, ht, ?_⟩
    refine ⟨_, rfl, d, _, _, rfl, hB.obj, rfl, _, rfl, d, x, rfl, tx, fun H1 s1 => ?_⟩
    have hB1 : DeskAt H1 (He.ga K "Desk") (He.ga K "Past") d fr S ls B := hB.keep (fun x o _ e => s1 _ _ e) (fun _ _ e => s1 _ _ e)
    refine ⟨_, rfl, d, _, _, _, _, rfl, hB1.obj, T.k_Desk, T.n_Desk_past, df_past _ _, B.p, _, _, rfl, hB1.past.raw.obj, rfl, _, rfl, _, rfl, _, rfl, B.p, fr, S, B.A, p, t, s0, rfl, hB1.past, fo, hp, ht, fun H2 s2 => ⟨true, by rw [decide_eq_true (De.seen_in sn)], iteF ?_⟩⟩
    have hB2 : DeskAt H2 (He.ga K "Desk") (He.ga K "Past") d fr S ls B := hB1.keep (fun x o _ e => s2 _ _ e) (fun _ _ e => s2 _ _ e)
    refine ⟨_, rfl, d, _, _, _, _, rfl, hB2.obj, T.k_Desk, T.n_Desk_past, df_past _ _, B.p, _, _, rfl, hB2.past.raw.obj, rfl, _, rfl, _, rfl, _, rfl, B.p, fr, S, B.A, p, t, ov, rfl, hB2.past, hp, ht, fun H3 s3 => ⟨true, by rw [decide_eq_true eo], iteF ?_⟩⟩
    have hB3 : DeskAt H3 (He.ga K "Desk") (He.ga K "Past") d fr S ls B := hB2.keep (fun x o _ e => s3 _ _ e) (fun _ _ e => s3 _ _ e)
    have s03 := (s1.trans s2).trans s3
    refine ⟨_, rfl, d, _, _, _, _, rfl, hB3.obj, T.k_Desk, T.n_Desk_past, df_past _ _, B.p, _, _, rfl, hB3.past.raw.obj, rfl, _, rfl, _, rfl, _, rfl, _, rfl, B.p, fr, S, B.A, p, t, x, s0, rfl, hB3.past, hp, ht, fw, fun H4 hP4 o4 => ?_⟩
    obtain ⟨vs, hv, hal⟩ := hB3.lines
    have hd4 := o4.out _ _ hB3.nd hB3.obj
    have hL4 := o4.out _ _ hB3.nL hv
    refine ⟨_, rfl, d, _, _, _, _, rfl, hd4, T.k_Desk, T.n_Desk_lines, df_lines _ _, .inl ⟨rfl, _, SqL.of hL4⟩, _, rfl, _, rfl, _, rfl, _, rfl, _, rfl, _, rfl, (by show 7 ≤ sizeLine; decide), fun b nb => ?_⟩
    obtain ⟨hl5, hB5⟩ := hB3.line (B' := B) (n := .put p t x s0 ov (S.puts.length : Int)) (q := b) o4 hP4 rfl rfl rfl (fun x z => .inl z) hv upd_same nb
    refine ⟨B.L, _, _, rfl, rfl, hl5, by rw [hal.len]; exact small5000 (by omega), ?_⟩
    refine ⟨_, rfl, q _ _ (desk_of hB5) ?_ ?_⟩
    · have o5 := (o4.same (same_upd nb (o := .tup (Line.put p t x s0 ov (S.puts.length : Int)).vals))).mono (G := F) fun x z => hF x (.inr (.inr z))
      have o6 := o5.set (y := B.L) (o := .lst (vs ++ [V.ref b])) (hF _ (.inr (.inl rfl)))
      exact (only_same s03).trans o6
    · exact fun x z => .inl (hF x z)
--# Desk.phrase
def spPhrase (K : PySem.W.Frag) : Sp := fun vs H Q _ => ∃ (d : Addr) (fr : List Int) (S : De) (ls : List Line) (F : Addr → Prop) (x : Str), vs = [.ref d, .str x] ∧ DeK K H d fr S ls F ∧ FrOk fr ∧ S.Ok fr ∧ S.May fr (.phrase x) ∧ S.puts.length < 5000 ∧ ls.length < 5000 ∧
  Goes (He.ga K "Desk") (He.ga K "Past") d fr H F (S.more.lay S.n 0 x none) (ls ++ [.phrase S.n x (S.puts.length : Int)]) (Q (.int (S.n : Int)))
theorem sc_Desk_phrase : FnScope ["self", "text", "phrase", "number"] ["self", "text"] (defScope s_Desk_phrase) := ⟨rfl, rfl, rfl, by decide +kernel, rfl, by decide +kernel, by decide +kernel⟩
theorem c_Desk_phrase {P : Program} {w : World} {K : PySem.W.Frag} {mg : Str → Option Value} {base : Heap} (T : Tx K mg) : C8.Met P w K mg base 3 (He.ga K "Desk") "phrase" (spPhrase K) [] := by
  refine metD T.F_Desk_phrase T.k_Desk T.m_Desk_phrase (fun _ _ _ _ _ _ us hl => match us, hl with | [_, _], _ => rfl) sc_Desk_phrase (fun vs H Q E h => ?_) (fun cdv A outer s H vs Q E hr h => ?_)
  · obtain ⟨d, fr, S, ls, F, x, rfl, _⟩ := h
    rfl
  · obtain ⟨d, fr, S, ls, F, x, rfl, hD, fo, ok, may, fw, lw, q⟩ := h
    refine ⟨_, (pss_cons (ps_expr (C8.pe_mt (c_Desk_check_text T) hr (by decide) (pv 0) (pa_cons (pv 1) pa_nil)))
    (pss_cons (ps_if (pt_cmpR op_ge (pe_fld (pe_fld (pv 0) (by rfl)) (by rfl)) (pe_glob (v := .int 6) rfl (T.g_MOST_PHRASES).choose_spec ⟨_, rfl⟩) (nomark _))
      (pss_one ps_never)
      pss_nil)
    (pss_cons (ps_set (i := 2) sc_Desk_phrase.nd rfl (Or.inl rfl) (C8.pe_mt0 (c_Past_begin_phrase T) hr (by decide) (pe_fld (pv 0) (by rfl))))
    (pss_cons (ps_set (i := 3) sc_Desk_phrase.nd rfl (Or.inl rfl) (C8.pe_mt (c_Past_lay_down T) hr (by decide) (pe_fld (pv 0) (by rfl)) (pa_cons (pv 2) (pa_cons pe_int (pa_cons (pv 1) (pa_cons pe_non pa_nil))))))
    (pss_cons (ps_expr (pe_bm PySem.F.plainAttrs_list PySem.F.slot_list_append PySem.F.type_list_append mt_append (pe_fld (pv 0) (by rfl)) (pa_cons (pe_tup (pa_cons pe_str (pa_cons (pv 2) (pa_cons (pv 1) (pa_cons (pv 3) pa_nil))))) pa_nil)))
    (pss_one (ps_ret (pv 2)))))))), ?_⟩
    obtain ⟨n6, tx⟩ := may
    obtain ⟨B, hB, hF, h3⟩ := id hD
    refine ⟨_, rfl, d, _, _, rfl, hB.obj, rfl, _, rfl, d, x, rfl, tx, fun H1 s1 => ?_⟩
    have hB1 : DeskAt H1 (He.ga K "Desk") (He.ga K "Past") d fr S ls B := hB.keep (fun x o _ e => s1 _ _ e) (fun _ _ e => s1 _ _ e)
    refine ⟨_, rfl, d, _, _, _, _, rfl, hB1.obj, T.k_Desk, T.n_Desk_past, df_past _ _, B.p, _, _, _, _, rfl, hB1.past.raw.obj, T.k_Past, T.n_Past_phrases, pf_phrases _ _, _, _, rfl, rfl, false, congrArg V.bl (decide_eq_false (by omega)), iteF ?_⟩
    refine ⟨_, rfl, d, _, _, _, _, rfl, hB1.obj, T.k_Desk, T.n_Desk_past, df_past _ _, B.p, _, _, rfl, hB1.past.raw.obj, rfl, B.p, fr, S, B.A, rfl, hB1.past, ok, fo, n6, fun H2 A2 hP2 o2 f2 => ?_⟩
    have hd2 := o2.out _ _ hB1.nd hB1.obj
    refine ⟨_, rfl, d, _, _, _, _, rfl, hd2, T.k_Desk, T.n_Desk_past, df_past _ _, B.p, _, _, rfl, hP2.raw.obj, rfl, _, rfl, _, rfl, B.p, fr, S.more, A2, S.n, 0, x, none, rfl, hP2, Nat.lt_succ_self _, Nat.zero_le _, fw, fun H4 hP4 o4' => ?_⟩
    have o4 : Only (footP B.p fr S.n B.A) H1 H4 := by
      refine ⟨fun y o n e => o4'.out y o (fun z => (f2 y z).elim n fun w => by rw [e] at w; cases w) (o2.out y o n e), fun y o e => ?_⟩
      obtain ⟨u, eu⟩ := o2.grow y o e
      exact o4'.grow y u eu
    obtain ⟨vs, hv, hal⟩ := hB1.lines
    have hd4 := o4.out _ _ hB1.nd hB1.obj
    have hL4 := o4.out _ _ hB1.nL hv
    refine ⟨_, rfl, d, _, _, _, _, rfl, hd4, T.k_Desk, T.n_Desk_lines, df_lines _ _, .inl ⟨rfl, _, SqL.of hL4⟩, _, rfl, _, rfl, _, rfl, (by show 4 ≤ sizeLine; decide), fun b nb => ?_⟩
    obtain ⟨hl5, hB5⟩ := hB1.line (B' := ⟨B.dx, B.p, B.L, A2⟩) (n := .phrase S.n x (S.puts.length : Int)) (q := b) o4 hP4 rfl rfl rfl f2 hv upd_same nb
    refine ⟨B.L, _, _, rfl, rfl, hl5, by rw [hal.len]; exact small5000 (by omega), ?_⟩
    refine ⟨_, rfl, q _ _ (desk_of hB5) ?_ ?_⟩
    · have o5 := (o4.same (same_upd nb (o := .tup (Line.phrase S.n x (S.puts.length : Int)).vals))).mono (G := F) fun x z => hF x (.inr (.inr z))
      have o6 := o5.set (y := B.L) (o := .lst (vs ++ [V.ref b])) (hF _ (.inr (.inl rfl)))
      exact (only_same s1).trans o6
    · rintro y (z | z | z)
      · exact .inl (hF y (.inl z))
      · exact .inl (hF y (.inr (.inl z)))
      · exact (f2 y z).imp (fun w => hF y (.inr (.inr w))) (fun w => s1.free w)
--# Desk.back
def spBack (K : PySem.W.Frag) : Sp := fun vs H Q _ => ∃ (d : Addr) (fr : List Int) (S : De) (ls : List Line) (F : Addr → Prop) (p t : Nat) (k : Int), vs = [.ref d, .int p, .int t] ∧ DeK K H d fr S ls F ∧ S.May fr (.back p t) ∧ S.now p t = some k ∧ ls.length < 5000 ∧
  Goes (He.ga K "Desk") (He.ga K "Past") d fr H F (S.off p t) (ls ++ [.back p t k]) (Q (.int k))
theorem sc_Desk_back : FnScope ["self", "phrase", "tongue", "number"] ["self", "phrase", "tongue"] (defScope s_Desk_back) := ⟨rfl, rfl, rfl, by decide +kernel, rfl, by decide +kernel, by decide +kernel⟩
theorem c_Desk_back {P : Program} {w : World} {K : PySem.W.Frag} {mg : Str → Option Value} {base : Heap} (T : Tx K mg) : C8.Met P w K mg base 6 (He.ga K "Desk") "back" (spBack K) [] := by
  refine metD T.F_Desk_back T.k_Desk T.m_Desk_back (fun _ _ _ _ _ _ us hl => match us, hl with | [_, _, _], _ => rfl) sc_Desk_back (fun vs H Q E h => ?_) (fun cdv A outer s H vs Q E hr h => ?_)
  · obtain ⟨d, fr, S, ls, F, p, t, k, rfl, _⟩ := h
    rfl
  · obtain ⟨d, fr, S, ls, F, p, t, k, rfl, hD, may, ek, lw, q⟩ := h
    refine ⟨_, (pss_cons (ps_expr (C8.pe_mt (c_Desk_check_place T) hr (by decide) (pv 0) (pa_cons (pv 1) (pa_cons (pv 2) pa_nil))))
    (pss_cons (ps_if (pt_not (pt_val (C8.pe_mt (c_Past_can_take_off T) hr (by decide) (pe_fld (pv 0) (by rfl)) (pa_cons (pv 1) (pa_cons (pv 2) pa_nil)))))
      (pss_one ps_never)
      pss_nil)
    (pss_cons (ps_set (i := 3) sc_Desk_back.nd rfl (Or.inl rfl) (C8.pe_mt (c_Past_take_off T) hr (by decide) (pe_fld (pv 0) (by rfl)) (pa_cons (pv 1) (pa_cons (pv 2) pa_nil))))
    (pss_cons (ps_expr (pe_bm PySem.F.plainAttrs_list PySem.F.slot_list_append PySem.F.type_list_append mt_append (pe_fld (pv 0) (by rfl)) (pa_cons (pe_tup (pa_cons pe_str (pa_cons (pv 1) (pa_cons (pv 2) (pa_cons (pv 3) pa_nil))))) pa_nil)))
    (pss_one (ps_ret (pv 3))))))), ?_⟩
    obtain ⟨hp, ht, hl⟩ := may
    obtain ⟨B, hB, hF, h3⟩ := id hD
    refine ⟨_, rfl, d, _, _, rfl, hB.obj, rfl, _, rfl, _, rfl, d, fr, S, ls, F, p, t, rfl, hD, hp, ht, ?_⟩
    refine ⟨_, rfl, d, _, _, _, _, rfl, hB.obj, T.k_Desk, T.n_Desk_past, df_past _ _, B.p, _, _, rfl, hB.past.raw.obj, rfl, _, rfl, _, rfl, B.p, fr, S, B.A, p, t, rfl, hB.past, hp, ht, fun H1 s1 => ⟨true, by rw [decide_eq_true hl], iteF ?_⟩⟩
    have hB1 : DeskAt H1 (He.ga K "Desk") (He.ga K "Past") d fr S ls B := hB.keep (fun x o _ e => s1 _ _ e) (fun _ _ e => s1 _ _ e)
    refine ⟨_, rfl, d, _, _, _, _, rfl, hB1.obj, T.k_Desk, T.n_Desk_past, df_past _ _, B.p, _, _, rfl, hB1.past.raw.obj, rfl, _, rfl, _, rfl, B.p, fr, S, B.A, p, t, k, rfl, hB1.past, hp, ht, ek, fun H4 hP4 o4 => ?_⟩
    obtain ⟨vs, hv, hal⟩ := hB1.lines
    have hd4 := o4.out _ _ hB1.nd hB1.obj
    have hL4 := o4.out _ _ hB1.nL hv
    refine ⟨_, rfl, d, _, _, _, _, rfl, hd4, T.k_Desk, T.n_Desk_lines, df_lines _ _, .inl ⟨rfl, _, SqL.of hL4⟩, _, rfl, _, rfl, _, rfl, (by show 4 ≤ sizeLine; decide), fun b nb => ?_⟩
    obtain ⟨hl5, hB5⟩ := hB1.line (B' := B) (n := .back p t k) (q := b) o4 hP4 rfl rfl rfl (fun x z => .inl z) hv upd_same nb
    refine ⟨B.L, _, _, rfl, rfl, hl5, by rw [hal.len]; exact small5000 (by omega), ?_⟩
    refine ⟨_, rfl, q _ _ (desk_of hB5) ?_ ?_⟩
    · have o5 := (o4.same (same_upd nb (o := .tup (Line.back p t k).vals))).mono (G := F) fun x z => hF x (.inr (.inr z))
      have o6 := o5.set (y := B.L) (o := .lst (vs ++ [V.ref b])) (hF _ (.inr (.inl rfl)))
      exact (only_same s1).trans o6
    · exact fun x z => .inl (hF x z)

end PD

namespace PD
open PySem PySem.Spec PyProof.Rows L2

/-! Phrasedesk: what a Desk tells -/
--# Desk.now
def spNowD (K : PySem.W.Frag) : Sp := fun vs H Q _ => ∃ (d : Addr) (fr : List Int) (S : De) (ls : List Line) (F : Addr → Prop) (p t : Nat), vs = [.ref d, .int p, .int t] ∧ DeK K H d fr S ls F ∧ S.Num ∧ p < S.n ∧ t ≤ fr.length ∧ (S.now p t = none → ∀ H' : Hp, Same H H' → Q .non H') ∧
  ∀ k, S.now p t = some k → ∀ (H' : Hp) (r : Addr), Same H H' → H r = none → H' r = some (.tup [.int k, .str (S.pt k).x]) → Q (.ref r) H'
theorem sc_Desk_now : FnScope ["self", "phrase", "tongue", "number"] ["self", "phrase", "tongue"] (defScope s_Desk_now) := ⟨rfl, rfl, rfl, by decide +kernel, rfl, by decide +kernel, by decide +kernel⟩
theorem c_Desk_now {P : Program} {w : World} {K : PySem.W.Frag} {mg : Str → Option Value} {base : Heap} (T : Tx K mg) : C8.Met P w K mg base 6 (He.ga K "Desk") "now" (spNowD K) [] := by
  refine metD T.F_Desk_now T.k_Desk T.m_Desk_now (fun _ _ _ _ _ _ us hl => match us, hl with | [_, _, _], _ => rfl) sc_Desk_now (fun vs H Q E h => ?_) (fun cdv A outer s H vs Q E hr h => ?_)
  · obtain ⟨d, fr, S, ls, F, p, t, rfl, _⟩ := h
    rfl
  · obtain ⟨d, fr, S, ls, F, p, t, rfl, hD, hN, hp, ht, q0, q1⟩ := h
    refine ⟨_, (pss_cons (ps_expr (C8.pe_mt (c_Desk_check_place T) hr (by decide) (pv 0) (pa_cons (pv 1) (pa_cons (pv 2) pa_nil))))
    (pss_cons (ps_set (i := 3) sc_Desk_now.nd rfl (Or.inl rfl) (C8.pe_mt (c_Past_standing T) hr (by decide) (pe_fld (pv 0) (by rfl)) (pa_cons (pv 1) (pa_cons (pv 2) pa_nil))))
    (pss_one (ps_ret (pe_ifExp (pt_cmpR op_isN (pv 3) pe_non (nomark _)) pe_non (pe_tup (pa_cons (pv 3) (pa_cons (pe_ix ix_list (pe_fld (pe_fld (pv 0) (by rfl)) (by rfl)) (pv 3) (fun _ _ => rfl)) pa_nil)))))))), ?_⟩
    obtain ⟨B, hB, hF, h3⟩ := id hD
    refine ⟨_, rfl, d, _, _, rfl, hB.obj, rfl, _, rfl, _, rfl, d, fr, S, ls, F, p, t, rfl, hD, hp, ht, ?_⟩
    refine ⟨_, rfl, d, _, _, _, _, rfl, hB.obj, T.k_Desk, T.n_Desk_past, df_past _ _, B.p, _, _, rfl, hB.past.raw.obj, rfl, _, rfl, _, rfl, B.p, fr, S, B.A, p, t, rfl, hB.past, hp, ht, fun H1 s1 => ?_⟩
    have hB1 : DeskAt H1 (He.ga K "Desk") (He.ga K "Past") d fr S ls B := hB.keep (fun x o _ e => s1 _ _ e) (fun _ _ e => s1 _ _ e)
    cases en : S.now p t with
    | none => exact ⟨_, rfl, rfl, true, rfl, iteT (q0 en _ s1)⟩
    | some k =>
      obtain ⟨k0, u, eu, _, _⟩ := hN.now en
      refine ⟨_, rfl, rfl, false, rfl, iteF ⟨_, rfl, _, rfl, d, _, _, _, _, rfl, hB1.obj, T.k_Desk, T.n_Desk_past, df_past _ _, B.p, _, _, _, _, rfl, hB1.past.raw.obj, T.k_Past, T.n_Past_texts, pf_texts _ _, _, rfl, B.A.tx, _, _, _, rfl, rfl, SqL.of hB1.past.raw.tx, at_of (j := k.toNat) (by omega) (lookup_at eu), (by show 2 ≤ sizeLine; decide), fun r nr => ?_⟩⟩
      refine q1 k en _ r (s1.trans (same_upd nr)) (s1.free nr) ?_
      rw [upd_same, De.pt_at eu]
      rfl
--# Desk.row
def spRowD (K : PySem.W.Frag) : Sp := fun vs H Q _ => ∃ (d : Addr) (fr : List Int) (S : De) (ls : List Line) (F : Addr → Prop) (p : Nat), vs = [.ref d, .int p] ∧ DeK K H d fr S ls F ∧ S.Num ∧ FrOk fr ∧ p < S.n ∧
  ∀ (H' : Hp) (r : Addr), Same H H' → H r = none → RowAt H' r (S.row (fr.length + 1) p) → Q (.ref r) H'
theorem sc_Desk_row : FnScope ["self", "phrase"] ["self", "phrase"] (defScope s_Desk_row) := ⟨rfl, rfl, rfl, by decide +kernel, rfl, by decide +kernel, by decide +kernel⟩
theorem c_Desk_row {P : Program} {w : World} {K : PySem.W.Frag} {mg : Str → Option Value} {base : Heap} (T : Tx K mg) : C8.Met P w K mg base 5 (He.ga K "Desk") "row" (spRowD K) [] := by
  refine metD T.F_Desk_row T.k_Desk T.m_Desk_row (fun _ _ _ _ _ _ us hl => match us, hl with | [_, _], _ => rfl) sc_Desk_row (fun vs H Q E h => ?_) (fun cdv A outer s H vs Q E hr h => ?_)
  · obtain ⟨d, fr, S, ls, F, p, rfl, _⟩ := h
    rfl
  · obtain ⟨d, fr, S, ls, F, p, rfl, hD, hN, fo, hp, q⟩ := h
    refine ⟨_, (pss_cons (ps_expr (C8.pe_mt (c_Desk_check_phrase T) hr (by decide) (pv 0) (pa_cons (pv 1) pa_nil)))
    (pss_one (ps_ret (C8.pe_mt (c_Past_cells T) hr (by decide) (pe_fld (pv 0) (by rfl)) (pa_cons (pv 1) pa_nil))))), ?_⟩
    obtain ⟨B, hB, hF, h3⟩ := id hD
    refine ⟨_, rfl, d, _, _, rfl, hB.obj, rfl, _, rfl, d, fr, S, ls, F, p, rfl, hD, hp, ?_⟩
    exact ⟨_, rfl, d, _, _, _, _, rfl, hB.obj, T.k_Desk, T.n_Desk_past, df_past _ _, B.p, _, _, rfl, hB.past.raw.obj, rfl, _, rfl, B.p, fr, S, B.A, p, rfl, hB.past, hN, fo, hp, q⟩
--# Desk.tale
def spTaleD (K : PySem.W.Frag) : Sp := fun vs H Q _ => ∃ (d : Addr) (fr : List Int) (S : De) (ls : List Line) (F : Addr → Prop), vs = [.ref d] ∧ DeK K H d fr S ls F ∧ ∀ (H' : Hp) (r : Addr), Same H H' → H r = none → LnAt H' r ls → Q (.ref r) H'
theorem sc_Desk_tale : FnScope ["self"] ["self"] (defScope s_Desk_tale) := ⟨rfl, rfl, rfl, by decide +kernel, rfl, by decide +kernel, by decide +kernel⟩
theorem c_Desk_tale {P : Program} {w : World} {K : PySem.W.Frag} {mg : Str → Option Value} {base : Heap} (T : Tx K mg) : C8.Met P w K mg base 1 (He.ga K "Desk") "tale" (spTaleD K) [] := by
  refine metD T.F_Desk_tale T.k_Desk T.m_Desk_tale (fun _ _ _ _ _ _ us hl => match us, hl with | [_], _ => rfl) sc_Desk_tale (fun vs H Q E h => ?_) (fun cdv A outer s H vs Q E hr h => ?_)
  · obtain ⟨d, fr, S, ls, F, rfl, _⟩ := h
    rfl
  · obtain ⟨d, fr, S, ls, F, rfl, hD, q⟩ := h
    refine ⟨_, (pss_one (ps_ret (pe_callTy call_list_of (by rfl) T.f_list (by decide +kernel) (pa_cons (pe_fld (pv 0) (by rfl)) pa_nil)))), ?_⟩
    obtain ⟨B, hB, hF, h3⟩ := id hD
    obtain ⟨vs, hv, ha⟩ := hB.lines
    refine ⟨_, rfl, d, _, _, _, _, rfl, hB.obj, T.k_Desk, T.n_Desk_lines, df_lines _ _, B.L, _, rfl, .inl (SqL.of hv), fun r nr => ?_⟩
    exact q _ r (same_upd nr) nr ⟨vs, upd_same, ha.mono fun _ _ z => z.same (same_upd nr)⟩
--# Desk.old
def spOldD (K : PySem.W.Frag) : Sp := fun vs H Q _ => ∃ (d : Addr) (fr : List Int) (S : De) (ls : List Line) (F : Addr → Prop), vs = [.ref d] ∧ DeK K H d fr S ls F ∧ S.Ok fr ∧ FrOk fr ∧ ∀ (H' : Hp) (r : Addr), Same H H' → H r = none → PrsAt H' r (S.olds fr) → Q (.ref r) H'
theorem rg_at {lo hi : Int} {i : Nat} {x : V} (h : (rgV lo hi)[i]? = some x) : x = .int (lo + (i : Int)) ∧ i < (hi - lo).toNat := by
  unfold rgV at h
  have hi := (List.getElem?_eq_some_iff.mp h).1
  rw [List.length_map, List.length_range] at hi
  rw [List.getElem?_map, List.getElem?_range hi] at h
  exact ⟨(Option.some.inj h).symm, hi⟩
theorem PrsAt.snoc {H : Hp} {D : Addr} {vs : List V} {l : List Pr} {v : V} {e : Pr} (h : PrsAt H D l) (hv : H D = some (.lst vs)) (he : PrV H v e) : PrsAt (upd H D (.lst (vs ++ [v]))) D (l ++ [e]) := by
  obtain ⟨ws, hw, ha⟩ := h
  rw [hv] at hw
  cases (HO.lst.inj (Option.some.inj hw))
  have keep : ∀ {u : V} {e : Pr}, PrV H u e → PrV (upd H D (.lst (vs ++ [v]))) u e := fun z => z.upd hv (fun _ w => nomatch w)
  exact ⟨_, upd_same, All2.app (ha.mono fun _ _ z => keep z) (All2.cons (keep he) All2.nil)⟩
theorem sc_Desk_old : FnScope ["self", "tongues", "phrases", "phrase", "tongue"] ["self"] (defScope s_Desk_old) := ⟨rfl, rfl, rfl, by decide +kernel, rfl, by decide +kernel, by decide +kernel⟩
theorem c_Desk_old {P : Program} {w : World} {K : PySem.W.Frag} {mg : Str → Option Value} {base : Heap} (T : Tx K mg) : C8.Met P w K mg base 5 (He.ga K "Desk") "old" (spOldD K) [] := by
  refine metD T.F_Desk_old T.k_Desk T.m_Desk_old (fun _ _ _ _ _ _ us hl => match us, hl with | [_], _ => rfl) sc_Desk_old (fun vs H Q E h => ?_) (fun cdv A outer s H vs Q E hr h => ?_)
  · obtain ⟨d, fr, S, ls, F, rfl, _⟩ := h
    rfl
  · obtain ⟨d, fr, S, ls, F, rfl, hD, ok, fo, q⟩ := h
    refine ⟨_, (pss_cons (ps_set (i := 1) sc_Desk_old.nd rfl (Or.inr rfl) (pe_listRg rfl (by rfl) T.f_list (prg_2 (by rfl) T.f_range pe_int (pe_op op_add (pe_callB call_len_seq (by rfl) T.f_len (by decide +kernel) (pa_cons (pe_fld (pe_fld (pv 0) (by rfl)) (by rfl)) pa_nil)) pe_int))))
    (pss_cons (ps_set (i := 2) sc_Desk_old.nd rfl (Or.inl rfl) (pe_listRg rfl (by rfl) T.f_list (prg_1 (by rfl) T.f_range (pe_fld (pe_fld (pv 0) (by rfl)) (by rfl)))))
    (pss_one (ps_ret (pe_lc2 (own := [("phrase", 3), ("tongue", 4)]) (vs1 := [4]) (g := gName 3) (g1 := gName 4) (tt := tYes) (by rfl) sc_Desk_old.nd (pi_list (pv 2)) (blkOk_by (own := [("phrase", 3), ("tongue", 4)]) (N := ["self", "tongues", "phrases", "phrase", "tongue"]) (sc := defScope s_Desk_old) (by decide +kernel)) (by decide) (fun _ _ _ _ _ => (pg_name (i := 3) sc_Desk_old.nd rfl (Or.inl rfl))) (fun _ _ _ _ _ => pts_nil) (fun _ _ _ _ _ => (show PI _ _ _ (iList K (tVar 1)) from pi_list (pv 1))) (fun _ _ _ _ _ => (pg_name (i := 4) sc_Desk_old.nd rfl (Or.inl rfl))) (fun _ _ _ _ _ => (pts_one (pt_not (pt_val (C8.pe_mt (c_Desk_is_fresh T) hr (by decide) (pv 0) (pa_cons (pv 3) (pa_cons (pv 4) pa_nil))))))) (fun _ _ _ _ _ => (pe_tup (pa_cons (pv 3) (pa_cons (pv 4) pa_nil))))))))), ?_⟩
    obtain ⟨B, hB, hF, h3⟩ := id hD
    have n6 := ok.six
    have hi7 := fo.hi
    refine ⟨_, rfl, d, _, _, _, _, rfl, hB.obj, T.k_Desk, T.n_Desk_past, df_past _ _, B.p, _, _, _, _, rfl, hB.past.raw.obj, T.k_Past, T.n_Past_froms, pf_froms _ _, B.A.f, _, rfl, .inl (SqL.of hB.past.raw.frm), _, _, rfl, rfl, _, _, rfl, rfl, RgOk.of_le (by omega) (by rw [List.length_map]; omega) (by omega) (by omega), fun b nb => ?_⟩
    have s1 : Same H (upd H b (.lst (rgV 1 ((fr.map V.int).length + 1)))) := same_upd nb
    have hb1 : (upd H b (.lst (rgV 1 ((fr.map V.int).length + 1)))) b = some (.lst (rgV 1 ((fr.map V.int).length + 1))) := upd_same
    generalize upd H b (.lst (rgV 1 ((fr.map V.int).length + 1))) = H1 at s1 hb1 ⊢
    have hB1 : DeskAt H1 (He.ga K "Desk") (He.ga K "Past") d fr S ls B := hB.keep (fun x o _ e => s1 _ _ e) (fun _ _ e => s1 _ _ e)
    refine ⟨_, rfl, d, _, _, _, _, rfl, hB1.obj, T.k_Desk, T.n_Desk_past, df_past _ _, B.p, _, _, _, _, rfl, hB1.past.raw.obj, T.k_Past, T.n_Past_phrases, pf_phrases _ _, _, rfl, RgOk.of_le (by omega) (by omega) (by omega) (by omega), fun a na => ?_⟩
    have s2 : Same H1 (upd H1 a (.lst (rgV 0 (S.n : Int)))) := same_upd na
    have ha2 : (upd H1 a (.lst (rgV 0 (S.n : Int)))) a = some (.lst (rgV 0 (S.n : Int))) := upd_same
    generalize upd H1 a (.lst (rgV 0 (S.n : Int))) = H2 at s2 ha2 ⊢
    have hb2 := s2 _ _ hb1
    have s02 := s1.trans s2
    have hD2 := hD.same s02
    dsimp only [gName, tRet]
    refine lc2_two (i0 := 3) (j0 := 4) (K := K) (a := a) (b := b) (xs := rgV 0 (S.n : Int)) (ys := rgV 1 ((fr.map V.int).length + 1)) (fun D i j G => Same H2 G ∧ PrsAt G D (S.oldUp fr i j)) ?_ ?_ ?_ ?_ ?_ ?_ ?_ ?_ ?_
    · exact fun R hR => ⟨_, rfl, a, rfl, ⟨_, SqL.of ha2⟩, hR⟩
    · exact fun x G R hG hR => ⟨_, rfl, b, rfl, ⟨_, hG⟩, hR⟩
    · exact fun x => rfl
    · exact fun x y => rfl
    · intro D nD
      refine ⟨same_upd nD, [], upd_same, ?_⟩
      exact All2.nil
    · rintro D i j G ⟨sG, _⟩
      exact ⟨SqL.of (sG _ _ ha2), SqL.of (sG _ _ hb2)⟩
    · rintro D i G ⟨sG, hG⟩
      refine ⟨sG, ?_⟩
      rw [rgV_length, List.length_map, show ((fr.length : Int) + 1 - 1).toNat = fr.length by omega, ← De.oldTo_succ] at hG
      have e : S.oldUp fr (i + 1) 0 = S.oldTo fr (i + 1) := by
        unfold De.oldUp
        rw [List.range_zero, List.filter_nil, List.map_nil, List.append_nil]
      rw [e]
      exact hG
    · rintro D nD i j x y G ex ey ⟨sG, hG⟩
      obtain ⟨rfl, hi⟩ := rg_at ex
      obtain ⟨rfl, hj⟩ := rg_at ey
      rw [List.length_map] at hj
      have hi' : i < S.n := by omega
      have hj' : j + 1 ≤ fr.length := by omega
      obtain ⟨B2, hB2, _, _⟩ := id (hD2.same sG)
      have e1 : (0 : Int) + (i : Int) = (i : Int) := Int.zero_add _
      have e2 : (1 : Int) + (j : Int) = ((j + 1 : Nat) : Int) := by omega
      rw [e1, e2]
      refine ⟨_, rfl, d, _, _, rfl, hB2.obj, rfl, _, rfl, _, rfl, d, fr, S, ls, F, i, j + 1, rfl, hD2.same sG, ok, fo, hi', hj', fun G1 sG1 => ⟨_, rfl, ?_⟩⟩
      obtain ⟨ws, hws, aws⟩ := hG
      have wlen : ws.length < sizeLine := by
        rw [aws.len]
        have h1 := De.oldUp_len (fr := fr) (S := S) (i := i) (j := j)
        have h2 : fr.length * i ≤ 7 * 6 := Nat.mul_le_mul hi7 (by omega)
        exact small1000 (by omega)
      cases ec : (chain fr (S.row (fr.length + 1) i) (j + 1)) with
      | none =>
        refine iteF ⟨sG.trans sG1, ?_⟩
        rw [De.oldUp_succ, ec, Option.isSome_none, if_neg (by decide), List.append_nil]
        exact ⟨ws, sG1 _ _ hws, aws.mono fun _ _ z => z.same sG1⟩
      | some c =>
        refine iteT ⟨_, rfl, _, rfl, (by show 2 ≤ sizeLine; decide), fun t nt => ?_⟩
        have sG2 := sG1.trans (same_upd nt (o := .tup [V.int (i : Int), V.int ((j + 1 : Nat) : Int)]))
        refine ⟨ws, sG2 _ _ hws, wlen, Same.chg (sG.trans sG2) nD, ?_⟩
        rw [De.oldUp_succ, ec, Option.isSome_some, if_pos rfl]
        exact PrsAt.snoc (l := S.oldUp fr i j) ⟨ws, sG2 _ _ hws, aws.mono fun _ _ z => z.same sG2⟩ (sG2 _ _ hws) ⟨t, rfl, upd_same⟩
    · rintro D nD G ⟨sG, hG⟩
      rw [rgV_length, show ((S.n : Int) - 0).toNat = S.n by omega] at hG
      have e : S.oldUp fr S.n 0 = S.olds fr := by
        unfold De.oldUp
        rw [List.range_zero, List.filter_nil, List.map_nil, List.append_nil]
      rw [e] at hG
      exact q G D (s02.trans sG) (s02.free nD) hG

end PD

namespace PD
open PySem PySem.Spec PyProof.Rows L2

/-! Phrasedesk, law_k13: what the rounds' parts have, too -/
def spPair : Sp := fun vs H Q _ => ∃ (p : Addr) (x y : V), vs = [.ref p] ∧ H p = some (.tup [x, y]) ∧ Q (.bl true) H
theorem sc_is_pair : FnScope ["value"] ["value"] (defScope s_is_pair) := ⟨rfl, rfl, rfl, by decide +kernel, rfl, by decide +kernel, by decide +kernel⟩
theorem c_is_pair {P : Program} {w : World} {K : PySem.W.Frag} {mg : Str → Option Value} {base : Heap} (T : Tx K mg) : C8.Cal P w K mg base 1 "is_pair" (spPair) [] := by
  refine calD T.F_is_pair T.g_is_pair (fun _ _ _ _ _ _ us hl => match us, hl with | [_], _ => rfl) sc_is_pair (fun vs H Q E h => ?_) (fun cdv A outer s H vs Q E hr h => ?_)
  · obtain ⟨p, x, y, rfl, _⟩ := h
    rfl
  · obtain ⟨p, x, y, rfl, hp, q⟩ := h
    refine ⟨_, (pss_one (ps_ret (pe_and (pe_callB call_isi (by rfl) T.f_isinstance (by decide +kernel) (pa_cons (pv 0) (pa_cons (pe_bltn (v := .ty "tuple") (by rfl) T.f_tuple (by decide +kernel) rfl) pa_nil))) (pe_one (pe_cmpR op_eq (pe_callB call_len_seq (by rfl) T.f_len (by decide +kernel) (pa_cons (pv 0) pa_nil)) pe_int (nomark _)))))), ?_⟩
    refine ⟨_, rfl, _, _, _, _, true, rfl, .ty _, .base (.tup hp), is_ty (by decide +kernel), true, rfl, iteT ⟨_, rfl, p, _, rfl, .inr (SqT.of hp), rfl, ?_⟩⟩
    exact qt (decide_eq_true rfl) q
--# rising
def lexLt (a b : Pr) : Prop := a.1 < b.1 ∨ (a.1 = b.1 ∧ a.2 < b.2)
def Rising (ps : List Pr) : Prop := ps.Pairwise lexLt
theorem Rising.nodup {ps : List Pr} (h : Rising ps) : ps.Nodup := List.Pairwise.imp (fun {a b} z e => by
  subst e
  rcases z with z | ⟨_, z⟩ <;> omega) h

end PD

namespace PD
open PySem PySem.Spec PyProof.Rows L2

/-! Phrasedesk: what evened asks of old ones and hands -/
--# is_old_one
def spOldOne : Sp := fun vs H Q _ => ∃ (a : Addr) (fr : List Int) (p : Addr) (q : Pr), vs = [.ref a, .ref p] ∧ LsAt H a fr ∧ H p = some (.tup [.int q.1, .int q.2]) ∧ 0 ≤ q.1 ∧ q.1 ≤ 5 ∧ 1 ≤ q.2 ∧ q.2 ≤ (fr.length : Int) ∧ Q (.bl true) H
theorem sc_is_old_one : FnScope ["froms", "value"] ["froms", "value"] (defScope s_is_old_one) := ⟨rfl, rfl, rfl, by decide +kernel, rfl, by decide +kernel, by decide +kernel⟩
theorem c_is_old_one {P : Program} {w : World} {K : PySem.W.Frag} {mg : Str → Option Value} {base : Heap} (T : Tx K mg) : C8.Cal P w K mg base 4 "is_old_one" (spOldOne) [] := by
  refine calD T.F_is_old_one T.g_is_old_one (fun _ _ _ _ _ _ us hl => match us, hl with | [_, _], _ => rfl) sc_is_old_one (fun vs H Q E h => ?_) (fun cdv A outer s H vs Q E hr h => ?_)
  · obtain ⟨a, fr, p, q, rfl, _⟩ := h
    rfl
  · obtain ⟨a, fr, p, q, rfl, ha, hp, p0, p5, q1, q2, k⟩ := h
    refine ⟨_, (pss_cons (ps_if (PW.pt (pw_or (pt_not (pt_val (C8.pe_c (c_is_pair T) hr (by decide) rfl (pa_cons (pv 1) pa_nil)))) (pw_or (pt_not (pt_val (C8.pe_c (c_is_count T) hr (by decide) rfl (pa_cons (pe_ix ix_tup (pv 1) pe_int (fun _ _ => rfl)) pa_nil)))) (pw_or1 (pt_not (pt_val (C8.pe_c (c_is_tongue T) hr (by decide) rfl (pa_cons (pv 0) (pa_cons (pe_ix ix_tup (pv 1) pe_int (fun _ _ => rfl)) pa_nil)))))))))
      (pss_one (ps_ret pe_bl))
      pss_nil)
    (pss_one (ps_ret (pe_and (pe_cmpR op_lt (pe_ix ix_tup (pv 1) pe_int (fun _ _ => rfl)) (pe_glob (v := .int 6) rfl (T.g_MOST_PHRASES).choose_spec ⟨_, rfl⟩) (nomark _)) (pe_one (pe_cmpR op_gt (pe_ix ix_tup (pv 1) pe_int (fun _ _ => rfl)) pe_int (nomark _))))))), ?_⟩
    refine ⟨_, rfl, p, _, _, rfl, hp, true, rfl, iteF ⟨_, rfl, p, _, _, _, rfl, rfl, SqT.of hp, atI_nat (j := 0) rfl, q.1, rfl, true, bl_of (decide_eq_true p0), iteF ?_⟩⟩
    refine ⟨_, rfl, _, rfl, p, _, _, _, rfl, rfl, SqT.of hp, atI_nat (j := 1) rfl, a, fr, q.2, rfl, ha, true, ?_, iteF ?_⟩
    · rw [decide_eq_true (show 0 ≤ q.2 by omega), decide_eq_true q2]
      rfl
    refine ⟨_, rfl, p, _, _, _, rfl, rfl, SqT.of hp, atI_nat (j := 0) rfl, _, _, rfl, rfl, true, bl_of (decide_eq_true (by omega)), iteT ?_⟩
    exact ⟨_, rfl, p, _, _, _, rfl, rfl, SqT.of hp, atI_nat (j := 1) rfl, _, _, rfl, rfl, qt (decide_eq_true (by omega)) k⟩
--# is_hands
def spHands : Sp := fun vs H Q _ => ∃ h : Int, vs = [.int h] ∧ 1 ≤ h ∧ h ≤ 4 ∧ Q (.bl true) H
theorem sc_is_hands : FnScope ["value"] ["value"] (defScope s_is_hands) := ⟨rfl, rfl, rfl, by decide +kernel, rfl, by decide +kernel, by decide +kernel⟩
theorem c_is_hands {P : Program} {w : World} {K : PySem.W.Frag} {mg : Str → Option Value} {base : Heap} (T : Tx K mg) : C8.Cal P w K mg base 2 "is_hands" (spHands) [] := by
  refine calD T.F_is_hands T.g_is_hands (fun _ _ _ _ _ _ us hl => match us, hl with | [_], _ => rfl) sc_is_hands (fun vs H Q E h => ?_) (fun cdv A outer s H vs Q E hr h => ?_)
  · obtain ⟨h, rfl, _⟩ := h
    rfl
  · obtain ⟨h, rfl, h1, h4, k⟩ := h
    refine ⟨_, (pss_one (ps_ret (pe_and (C8.pe_c (c_is_number T) hr (by decide) rfl (pa_cons (pv 0) pa_nil)) (pe_one (pe_chain op_le op_le pe_int (pv 0) (pe_glob (v := .int 4) rfl (T.g_MOST_HANDS).choose_spec ⟨_, rfl⟩)))))), ?_⟩
    refine ⟨_, rfl, _, _, true, false, rfl, .base (.int h), is_ty (by decide +kernel), is_ty (by decide +kernel), true, rfl, iteT ?_⟩
    exact ⟨_, rfl, _, _, rfl, rfl, true, bl_of (decide_eq_true h1), iteT ⟨_, _, rfl, rfl, qt (decide_eq_true h4) k⟩⟩
--# is_old
theorem cutFrom1 (xs : List V) : cutV xs (some 1) none = xs.drop 1 := by
  unfold cutV
  rw [show HT.sIx xs.length 0 (some 1) = min 1 xs.length from HT.sIx_nat xs.length 0 1, HT.sIx_none]
  cases xs with
  | nil => rfl
  | cons x r =>
    rw [show min 1 (x :: r).length = 1 by
      rw [List.length_cons]
      omega]
    show (List.take ((x :: r).length - 1) r) = r
    rw [List.length_cons, Nat.add_sub_cancel]
    exact List.take_length
theorem allT : ∀ n : Nat, (List.replicate n true).all id = true
  | 0 => rfl
  | n + 1 => by
    rw [List.replicate_succ]
    simp
theorem lt_of_lex {p q : Pr} (h : lexLt p q) : ltPr p q = true := by
  unfold ltPr
  rcases h with z | ⟨z1, z2⟩
  · rw [decide_eq_true z]
    rfl
  · rw [decide_eq_true z1, decide_eq_true z2]
    simp
def spIsOld : Sp := fun vs H Q _ => ∃ (a : Addr) (fr : List Int) (b : Addr) (ps : List Pr), vs = [.ref a, .ref b] ∧ LsAt H a fr ∧ PrsAt H b ps ∧ OldOk fr ps ∧ Rising ps ∧ ∀ H' : Hp, Same H H' → Q (.bl true) H'
theorem sc_is_old : FnScope ["froms", "value", "pair", "following"] ["froms", "value"] (defScope s_is_old) := ⟨rfl, rfl, rfl, by decide +kernel, rfl, by decide +kernel, by decide +kernel⟩
theorem c_is_old {P : Program} {w : World} {K : PySem.W.Frag} {mg : Str → Option Value} {base : Heap} (T : Tx K mg) : C8.Cal P w K mg base 5 "is_old" (spIsOld) [] := by
  refine calD T.F_is_old T.g_is_old (fun _ _ _ _ _ _ us hl => match us, hl with | [_, _], _ => rfl) sc_is_old (fun vs H Q E h => ?_) (fun cdv A outer s H vs Q E hr h => ?_)
  · obtain ⟨a, fr, b, ps, rfl, _⟩ := h
    rfl
  · obtain ⟨a, fr, b, ps, rfl, ha, hb, oo, up, k⟩ := h
    refine ⟨_, (pss_cons (ps_if (PW.pt (pw_or (pt_not (pt_val (pe_callB call_isi (by rfl) T.f_isinstance (by decide +kernel) (pa_cons (pv 1) (pa_cons (pe_bltn (v := .ty "list") (by rfl) T.f_list (by decide +kernel) rfl) pa_nil))))) (pw_or1 (pt_not (pt_val (pe_callB (cr_all rfl) (by rfl) T.f_all (by decide +kernel) (pa_cons (pe_lc (own := [("pair", 2)]) (g := gName 2) (tt := tYes) (by rfl) sc_is_old.nd (pi_list (pv 1)) (blkOk_by (own := [("pair", 2)]) (N := ["froms", "value", "pair", "following"]) (sc := defScope s_is_old) (by decide +kernel)) (fun _ _ _ _ _ => (pg_name (i := 2) sc_is_old.nd rfl (Or.inl rfl))) (fun _ _ _ _ _ => pts_nil) (fun _ _ _ _ _ => (C8.pe_c (c_is_old_one T) hr (by decide) rfl (pa_cons (pv 0) (pa_cons (pv 2) pa_nil))))) pa_nil)))))))
      (pss_one (ps_ret pe_bl))
      pss_nil)
    (pss_one (ps_ret (pe_callB (cr_all rfl) (by rfl) T.f_all (by decide +kernel) (pa_cons (pe_lc (own := [("pair", 2), ("following", 3)]) (g := gTup K 2 (gCons (gName 2) (gCons (gName 3) (gNil)))) (tt := tYes) (by rfl) sc_is_old.nd (pi_zip (by rfl) T.f_zip (pa_cons (pv 1) (pa_cons (pe_slice sl_list (pv 1) (po_some pe_int) po_none) pa_nil))) (blkOk_by (own := [("pair", 2), ("following", 3)]) (N := ["froms", "value", "pair", "following"]) (sc := defScope s_is_old) (by decide +kernel)) (fun _ _ _ _ _ => (pg_tup rfl (pgs_cons (pg_name (i := 2) sc_is_old.nd rfl (Or.inl rfl) (Or.inr rfl)) (pgs_cons (pg_name (i := 3) sc_is_old.nd rfl (Or.inl rfl) (Or.inr rfl)) pgs_nil)))) (fun _ _ _ _ _ => pts_nil) (fun _ _ _ _ _ => (pe_cmpR (op_ltP hr.units0) (pv 2) (pv 3) (nomark _)))) pa_nil))))), ?_⟩
    obtain ⟨ws, hw, hps⟩ := hb
    have few := oo.few
    have len := hps.len
    refine ⟨_, rfl, _, _, _, _, true, rfl, .ty _, .base (.lst hw), is_ty (by decide +kernel), true, rfl, iteF ?_⟩
    refine ⟨_, rfl, b, rfl, ⟨_, SqL.of hw⟩, fun D nD => ?_⟩
    refine lc_list (K := K) (a := b) (xs := ws) (fun i H1 => Same H H1 ∧ H1 D = some (.lst ((List.replicate i true).map V.bl))) ⟨same_upd nD, upd_same⟩ (fun i H1 _ z => SqL.of (z.1 _ _ hw)) ?_ ?_
    · rintro i x H1 hx ⟨s1, hD⟩
      obtain ⟨q, eq, u, rfl, hu⟩ := hps.at hx
      obtain ⟨q1, q2, q3, q4⟩ := oo.each q (List.mem_of_getElem? eq)
      have li := (List.getElem?_eq_some_iff.mp hx).1
      refine ⟨rfl, _, rfl, _, rfl, a, fr, u, q, rfl, ha.same s1, s1 _ _ hu, q1, q2, q3, q4, _, hD, ?_, Same.chg s1 nD, ?_⟩
      · rw [List.length_map, List.length_replicate]
        exact small5000 (by omega)
      · rw [upd_same, List.replicate_succ', List.map_append]
        rfl
    rintro H1 ⟨s1, hD⟩
    refine ⟨D, _, rfl, SqL.of hD, true, bl_of (allT _), iteF ?_⟩
    refine ⟨_, rfl, _, rfl, _, rfl, b, ws, rfl, SqL.of (s1 _ _ hw), fun c nc => ?_⟩
    have s2 := s1.trans (same_upd nc (o := .lst (cutV ws (some 1) none)))
    have hc : upd H1 c (.lst (cutV ws (some 1) none)) c = some (.lst (ws.drop 1)) := by rw [upd_same, cutFrom1]
    generalize upd H1 c (.lst (cutV ws (some 1) none)) = H2 at s2 hc ⊢
    refine ⟨b, c, ws, ws.drop 1, rfl, SqL.of (s2 _ _ hw), SqL.of hc, fun D2 nD2 => ?_⟩
    have ncD : c ≠ D2 := ne_of_none hc nD2
    refine lc_it (walk_zip (K := K) (a := b) (b := c) (xs := ws) (ys := ws.drop 1) (n := ws.length - 1) (by rw [List.length_drop]; omega)) (fun i H3 => Same H2 H3 ∧ H3 D2 = some (.lst ((List.replicate i true).map V.bl))) ⟨same_upd nD2, upd_same⟩ (fun i H3 _ z => ⟨SqL.of (z.1 _ _ (s2 _ _ hw)), SqL.of (z.1 _ _ hc)⟩) ?_ ?_
    · rintro i v H3 H4 hi ⟨s3, hD2⟩ ⟨U, x, y, rfl, nU, rfl, e1, e2⟩
      have e1 : ws[i]? = some x := e1
      have e2 : (ws.drop 1)[i]? = some y := e2
      rw [List.getElem?_drop, Nat.add_comm] at e2
      obtain ⟨p, ep, u, rfl, hu⟩ := hps.at e1
      obtain ⟨q, eq, t, rfl, ht⟩ := hps.at e2
      have sU : Same H3 (upd H3 U (.tup [V.ref u, V.ref t])) := same_upd nU
      have s4 := (s2.trans s3).trans sU
      have lex : lexLt p q := by
        obtain ⟨h1, e3⟩ := List.getElem?_eq_some_iff.mp ep
        obtain ⟨h2, e4⟩ := List.getElem?_eq_some_iff.mp eq
        rw [← e3, ← e4]
        exact List.pairwise_iff_getElem.mp up i (i + 1) h1 h2 (Nat.lt_succ_self _)
      refine ⟨U, _, rfl, .inl (.inl upd_same), rfl, _, _, rfl, _, _, rfl, rfl, rfl, ?_⟩
      refine ⟨_, rfl, _, rfl, u, t, p, q, rfl, rfl, s4 _ _ hu, s4 _ _ ht, _, sU _ _ hD2, ?_, Same.chg (s3.trans sU) nD2, ?_⟩
      · rw [List.length_map, List.length_replicate]
        exact small5000 (by omega)
      · rw [upd_same, List.replicate_succ', List.map_append, lt_of_lex lex]
        rfl
    · rintro H3 ⟨s3, hD2⟩
      exact ⟨D2, _, rfl, SqL.of hD2, qt (allT _) (k _ (s2.trans s3))⟩

end PD

namespace PD
open PySem PySem.Spec PyProof.Rows L2

/-! Phrasedesk: what is no number, no pair, no froms: the program's looks at any data -/
--# any data
mutual
/-- v is d at H -/
inductive Gn (H : Hp) : V → PyData → Prop
  | non : Gn H .non .none
  | bl (b : Bool) : Gn H (.bl b) (.bool b)
  | int (i : Int) : Gn H (.int i) (.int i)
  | str (x : Str) : Gn H (.str x) (.str x)
  | lst {a : Addr} {xs : List V} {ds : List PyData} : H a = some (.lst xs) → GnAll H xs ds → Gn H (.ref a) (.list ds)
  | tup {a : Addr} {xs : List V} {ds : List PyData} : H a = some (.tup xs) → GnAll H xs ds → Gn H (.ref a) (.tuple ds)
  | dct {a : Addr} : H a = some (.dK []) → Gn H (.ref a) (.dict [])
inductive GnAll (H : Hp) : List V → List PyData → Prop
  | nil : GnAll H [] []
  | cons {v : V} {vs : List V} {d : PyData} {ds : List PyData} : Gn H v d → GnAll H vs ds → GnAll H (v :: vs) (d :: ds)
end
section
variable {H H' : Hp}
mutual
theorem Gn.ext (e : ∀ b o, H b = some o → (∀ ps, o ≠ .tbl ps) → H' b = some o) : ∀ {v : V} {d : PyData}, Gn H v d → Gn H' v d
  | _, _, .non => .non
  | _, _, .bl b => .bl b
  | _, _, .int i => .int i
  | _, _, .str x => .str x
  | _, _, .lst h r => .lst (e _ _ h fun _ z => nomatch z) (r.ext e)
  | _, _, .tup h r => .tup (e _ _ h fun _ z => nomatch z) (r.ext e)
  | _, _, .dct h => .dct (e _ _ h fun _ z => nomatch z)
theorem GnAll.ext (e : ∀ b o, H b = some o → (∀ ps, o ≠ .tbl ps) → H' b = some o) : ∀ {vs : List V} {ds : List PyData}, GnAll H vs ds → GnAll H' vs ds
  | _, _, .nil => .nil
  | _, _, .cons h r => .cons (h.ext e) (r.ext e)
end
theorem Gn.same (s : Same H H') {v : V} {d : PyData} (h : Gn H v d) : Gn H' v d := h.ext fun b o e _ => s b o e
theorem GnAll.same (s : Same H H') {vs : List V} {ds : List PyData} (h : GnAll H vs ds) : GnAll H' vs ds := h.ext fun b o e _ => s b o e
theorem GnAll.len : ∀ {vs : List V} {ds : List PyData}, GnAll H vs ds → vs.length = ds.length
  | _, _, .nil => rfl
  | _, _, .cons _ r => by rw [List.length_cons, List.length_cons, r.len]
theorem GnAll.get : ∀ {vs : List V} {ds : List PyData} {i : Nat} {v : V}, GnAll H vs ds → vs[i]? = some v → ∃ d, ds[i]? = some d ∧ Gn H v d
  | _, _, _, _, .nil, e => by simp at e
  | _, _, 0, _, .cons h _, e => ⟨_, rfl, by simp at e; subst e; exact h⟩
  | _, _, i + 1, v, .cons _ r, e => by
    obtain ⟨d, h1, h2⟩ := GnAll.get (i := i) (v := v) r (by simpa using e)
    exact ⟨d, by simpa using h1, h2⟩
theorem GnAll.at : ∀ {vs : List V} {ds : List PyData} {i : Nat} {d : PyData}, GnAll H vs ds → ds[i]? = some d → ∃ v, vs[i]? = some v ∧ Gn H v d
  | _, _, _, _, .nil, e => by simp at e
  | _, _, 0, _, .cons h _, e => ⟨_, rfl, by simp at e; subst e; exact h⟩
  | _, _, i + 1, d, .cons _ r, e => by
    obtain ⟨v, h1, h2⟩ := GnAll.at (i := i) (d := d) r (by simpa using e)
    exact ⟨v, by simpa using h1, h2⟩
mutual
theorem gn_dn {P : Addr → Prop} : ∀ {v : V} {d : PyData}, Dn P H v d → Gn H v d
  | _, _, .non => .non
  | _, _, .bl b => .bl b
  | _, _, .int i => .int i
  | _, _, .str x => .str x
  | _, _, .lst _ h r => .lst h (gna_dn r)
  | _, _, .tup h r => .tup h (gna_dn r)
theorem gna_dn {P : Addr → Prop} : ∀ {vs : List V} {ds : List PyData}, DnAll P H vs ds → GnAll H vs ds
  | _, _, .nil => .nil
  | _, _, .cons h r => .cons (gn_dn h) (gna_dn r)
end
end
def tyN : PyData → String
  | .none => "NoneType"
  | .bool _ => "bool"
  | .int _ => "int"
  | .str _ => "str"
  | .list _ => "list"
  | .tuple _ => "tuple"
  | .dict _ => "dict"
theorem gn_ty {K : PySem.W.Frag} {H : Hp} {v : V} {d : PyData} (h : Gn H v d) : TyX K H v (.type (tyN d)) := by
  cases h with
  | non => exact .base .non
  | bl b => exact .base (.bl b)
  | int i => exact .base (.int i)
  | str x => exact .base (.str x)
  | lst e _ => exact .base (.lst e)
  | tup e _ => exact .base (.tup e)
  | dct e => exact .base (.dK e)
def isInt : PyData → Bool
  | .bool _ => true
  | .int _ => true
  | _ => false
def isBo : PyData → Bool
  | .bool _ => true
  | _ => false
def isLs : PyData → Bool
  | .list _ => true
  | _ => false
def isTu : PyData → Bool
  | .tuple _ => true
  | _ => false
def isSt : PyData → Bool
  | .str _ => true
  | _ => false
theorem ki_int {K : PySem.W.Frag} (d : PyData) : PySem.W.kitOne K (.type (tyN d)) (.type "int") = some (isInt d) := by
  cases d with
  | none => exact is_ty (show kitB "NoneType" "int" = some false by decide +kernel)
  | bool _ => exact is_ty (show kitB "bool" "int" = some true by decide +kernel)
  | int _ => exact is_ty (show kitB "int" "int" = some true by decide +kernel)
  | str _ => exact is_ty (show kitB "str" "int" = some false by decide +kernel)
  | list _ => exact is_ty (show kitB "list" "int" = some false by decide +kernel)
  | tuple _ => exact is_ty (show kitB "tuple" "int" = some false by decide +kernel)
  | dict _ => exact is_ty (show kitB "dict" "int" = some false by decide +kernel)
theorem ki_bo {K : PySem.W.Frag} (d : PyData) : PySem.W.kitOne K (.type (tyN d)) (.type "bool") = some (isBo d) := by
  cases d with
  | none => exact is_ty (show kitB "NoneType" "bool" = some false by decide +kernel)
  | bool _ => exact is_ty (show kitB "bool" "bool" = some true by decide +kernel)
  | int _ => exact is_ty (show kitB "int" "bool" = some false by decide +kernel)
  | str _ => exact is_ty (show kitB "str" "bool" = some false by decide +kernel)
  | list _ => exact is_ty (show kitB "list" "bool" = some false by decide +kernel)
  | tuple _ => exact is_ty (show kitB "tuple" "bool" = some false by decide +kernel)
  | dict _ => exact is_ty (show kitB "dict" "bool" = some false by decide +kernel)
theorem ki_ls {K : PySem.W.Frag} (d : PyData) : PySem.W.kitOne K (.type (tyN d)) (.type "list") = some (isLs d) := by
  cases d with
  | none => exact is_ty (show kitB "NoneType" "list" = some false by decide +kernel)
  | bool _ => exact is_ty (show kitB "bool" "list" = some false by decide +kernel)
  | int _ => exact is_ty (show kitB "int" "list" = some false by decide +kernel)
  | str _ => exact is_ty (show kitB "str" "list" = some false by decide +kernel)
  | list _ => exact is_ty (show kitB "list" "list" = some true by decide +kernel)
  | tuple _ => exact is_ty (show kitB "tuple" "list" = some false by decide +kernel)
  | dict _ => exact is_ty (show kitB "dict" "list" = some false by decide +kernel)
theorem ki_tu {K : PySem.W.Frag} (d : PyData) : PySem.W.kitOne K (.type (tyN d)) (.type "tuple") = some (isTu d) := by
  cases d with
  | none => exact is_ty (show kitB "NoneType" "tuple" = some false by decide +kernel)
  | bool _ => exact is_ty (show kitB "bool" "tuple" = some false by decide +kernel)
  | int _ => exact is_ty (show kitB "int" "tuple" = some false by decide +kernel)
  | str _ => exact is_ty (show kitB "str" "tuple" = some false by decide +kernel)
  | list _ => exact is_ty (show kitB "list" "tuple" = some false by decide +kernel)
  | tuple _ => exact is_ty (show kitB "tuple" "tuple" = some true by decide +kernel)
  | dict _ => exact is_ty (show kitB "dict" "tuple" = some false by decide +kernel)
theorem ki_st {K : PySem.W.Frag} (d : PyData) : PySem.W.kitOne K (.type (tyN d)) (.type "str") = some (isSt d) := by
  cases d with
  | none => exact is_ty (show kitB "NoneType" "str" = some false by decide +kernel)
  | bool _ => exact is_ty (show kitB "bool" "str" = some false by decide +kernel)
  | int _ => exact is_ty (show kitB "int" "str" = some false by decide +kernel)
  | str _ => exact is_ty (show kitB "str" "str" = some true by decide +kernel)
  | list _ => exact is_ty (show kitB "list" "str" = some false by decide +kernel)
  | tuple _ => exact is_ty (show kitB "tuple" "str" = some false by decide +kernel)
  | dict _ => exact is_ty (show kitB "dict" "str" = some false by decide +kernel)
def numD : PyData → Bool
  | .int _ => true
  | _ => false
def cntD : PyData → Bool
  | .int i => decide (0 ≤ i)
  | _ => false
--# is_count
def spCountG : Sp := fun vs H Q _ => ∃ (v : V) (d : PyData), vs = [v] ∧ Gn H v d ∧ Q (.bl (cntD d)) H
theorem c_is_countG {P : Program} {w : World} {K : PySem.W.Frag} {mg : Str → Option Value} {base : Heap} (T : Tx K mg) : C8.Cal P w K mg base 2 "is_count" (spCountG) [] := by
  refine calD T.F_is_count T.g_is_count (fun _ _ _ _ _ _ us hl => match us, hl with | [_], _ => rfl) sc_is_count (fun vs H Q E h => ?_) (fun cdv A outer s H vs Q E hr h => ?_)
  · obtain ⟨v, d, rfl, _⟩ := h
    rfl
  · obtain ⟨v, d, rfl, hg, q⟩ := h
    refine ⟨_, (pss_one (ps_ret (pe_and (C8.pe_c (c_is_number T) hr (by decide) rfl (pa_cons (pv 0) pa_nil)) (pe_one (pe_cmpR op_ge (pv 0) pe_int (nomark _)))))), ?_⟩
    refine ⟨_, rfl, v, _, isInt d, isBo d, rfl, gn_ty hg, ki_int d, ki_bo d, (isInt d && !isBo d), rfl, ?_⟩
    cases hg with
    | int i => exact iteT ⟨_, rfl, i, 0, rfl, rfl, q⟩
    | non => exact iteF q
    | bl b => exact iteF q
    | str x => exact iteF q
    | lst _ _ => exact iteF q
    | tup _ _ => exact iteF q
    | dct _ => exact iteF q
--# is_number_or_none
def spNumNG : Sp := fun vs H Q _ => ∃ (v : V) (d : PyData), vs = [v] ∧ Gn H v d ∧ Q (.bl (match d with | .none => true | _ => numD d)) H
theorem c_is_number_or_noneG {P : Program} {w : World} {K : PySem.W.Frag} {mg : Str → Option Value} {base : Heap} (T : Tx K mg) : C8.Cal P w K mg base 2 "is_number_or_none" (spNumNG) [] := by
  refine calD T.F_is_number_or_none T.g_is_number_or_none (fun _ _ _ _ _ _ us hl => match us, hl with | [_], _ => rfl) sc_is_number_or_none (fun vs H Q E h => ?_) (fun cdv A outer s H vs Q E hr h => ?_)
  · obtain ⟨v, d, rfl, _⟩ := h
    rfl
  · obtain ⟨v, d, rfl, hg, q⟩ := h
    have ty := gn_ty (K := K) hg
    have k1 := ki_int (K := K) d
    have k2 := ki_bo (K := K) d
    refine ⟨_, (pss_one (ps_ret (pe_or (pe_cmpR op_isN (pv 0) pe_non (nomark _)) (pe_one (C8.pe_c (c_is_number T) hr (by decide) rfl (pa_cons (pv 0) pa_nil)))))), ?_⟩
    cases hg with
    | non => exact ⟨_, rfl, rfl, true, rfl, iteT q⟩
    | int i => exact ⟨_, rfl, rfl, false, rfl, iteF ⟨_, rfl, _, _, true, false, rfl, ty, k1, k2, q⟩⟩
    | bl b => exact ⟨_, rfl, rfl, false, rfl, iteF ⟨_, rfl, _, _, true, true, rfl, ty, k1, k2, q⟩⟩
    | str x => exact ⟨_, rfl, rfl, false, rfl, iteF ⟨_, rfl, _, _, false, false, rfl, ty, k1, k2, q⟩⟩
    | lst _ _ => exact ⟨_, rfl, rfl, false, rfl, iteF ⟨_, rfl, _, _, false, false, rfl, ty, k1, k2, q⟩⟩
    | tup _ _ => exact ⟨_, rfl, rfl, false, rfl, iteF ⟨_, rfl, _, _, false, false, rfl, ty, k1, k2, q⟩⟩
    | dct _ => exact ⟨_, rfl, rfl, false, rfl, iteF ⟨_, rfl, _, _, false, false, rfl, ty, k1, k2, q⟩⟩
--# is_tongue
def tonD (n : Nat) : PyData → Bool
  | .int i => decide (0 ≤ i) && decide (i ≤ (n : Int))
  | _ => false
def spTongueG : Sp := fun vs H Q _ => ∃ (a : Addr) (fr : List Int) (v : V) (d : PyData), vs = [.ref a, v] ∧ LsAt H a fr ∧ Gn H v d ∧ Q (.bl (tonD fr.length d)) H
theorem c_is_tongueG {P : Program} {w : World} {K : PySem.W.Frag} {mg : Str → Option Value} {base : Heap} (T : Tx K mg) : C8.Cal P w K mg base 3 "is_tongue" (spTongueG) [] := by
  refine calD T.F_is_tongue T.g_is_tongue (fun _ _ _ _ _ _ us hl => match us, hl with | [_, _], _ => rfl) sc_is_tongue (fun vs H Q E h => ?_) (fun cdv A outer s H vs Q E hr h => ?_)
  · obtain ⟨a, fr, v, d, rfl, _⟩ := h
    rfl
  · obtain ⟨a, fr, v, d, rfl, ha, hg, q⟩ := h
    refine ⟨_, (pss_one (ps_ret (pe_and (C8.pe_c (c_is_countG T) hr (by decide) rfl (pa_cons (pv 1) pa_nil)) (pe_one (pe_cmpR op_le (pv 1) (pe_callB call_len_seq (by rfl) T.f_len (by decide +kernel) (pa_cons (pv 0) pa_nil)) (nomark _)))))), ?_⟩
    refine ⟨_, rfl, v, d, rfl, hg, cntD d, rfl, ?_⟩
    have off : cntD d = false → tonD fr.length d = false := fun h => by
      cases d with
      | int i => exact Bool.and_eq_false_imp.mpr fun z => absurd z (by rw [show decide (0 ≤ i) = false from h]; decide)
      | _ => rfl
    cases h : cntD d with
    | false =>
      rw [off h] at q
      exact iteF q
    | true =>
      cases hg with
      | int i =>
        refine iteT ⟨_, rfl, _, rfl, a, _, rfl, .inl (SqL.of ha), i, _, rfl, rfl, qt ?_ q⟩
        rw [List.length_map]
        show decide (i ≤ (fr.length : Int)) = (decide (0 ≤ i) && decide (i ≤ (fr.length : Int)))
        rw [show decide (0 ≤ i) = true from h]
        rfl
      | _ => cases h
--# is_froms
def frLs (ds : List PyData) : List Bool := ds.mapIdx fun i d => tonD i d
def frB : PyData → Bool
  | .list ds => decide (1 ≤ ds.length) && (decide (ds.length ≤ 7) && (frLs ds).all id)
  | _ => false
theorem frLs_at {ds : List PyData} {i : Nat} {d : PyData} (h : ds[i]? = some d) : (frLs ds)[i]? = some (tonD i d) := by
  unfold frLs
  rw [List.getElem?_mapIdx, h]
  rfl
def spFromsG : Sp := fun vs H Q _ => ∃ (v : V) (d : PyData), vs = [v] ∧ Gn H v d ∧ ∀ H' : Hp, Same H H' → Q (.bl (frB d)) H'
theorem c_is_fromsG {P : Program} {w : World} {K : PySem.W.Frag} {mg : Str → Option Value} {base : Heap} (T : Tx K mg) : C8.Cal P w K mg base 3 "is_froms" (spFromsG) [] := by
  refine calD T.F_is_froms T.g_is_froms (fun _ _ _ _ _ _ us hl => match us, hl with | [_], _ => rfl) sc_is_froms (fun vs H Q E h => ?_) (fun cdv A outer s H vs Q E hr h => ?_)
  · obtain ⟨v, d, rfl, _⟩ := h
    rfl
  · obtain ⟨v, d, rfl, hg, q⟩ := h
    refine ⟨_, (pss_cons (ps_if (PW.pt (pw_or (pt_not (pt_val (pe_callB call_isi (by rfl) T.f_isinstance (by decide +kernel) (pa_cons (pv 0) (pa_cons (pe_bltn (v := .ty "list") (by rfl) T.f_list (by decide +kernel) rfl) pa_nil))))) (pw_or1 (pt_not (pt_chain op_le op_le (pe_glob (v := .int 2) rfl (T.g_FEWEST_TONGUES).choose_spec ⟨_, rfl⟩) (pe_op op_add (pe_callB call_len_seq (by rfl) T.f_len (by decide +kernel) (pa_cons (pv 0) pa_nil)) pe_int) (pe_glob (v := .int 8) rfl (T.g_MOST_TONGUES).choose_spec ⟨_, rfl⟩))))))
      (pss_one (ps_ret pe_bl))
      pss_nil)
    (pss_one (ps_ret (pe_callB (cr_all rfl) (by rfl) T.f_all (by decide +kernel) (pa_cons (pe_lc (own := [("place", 1), ("source", 2)]) (g := gTup K 2 (gCons (gName 1) (gCons (gName 2) (gNil)))) (tt := tYes) (by rfl) sc_is_froms.nd (pi_enum (by rfl) T.f_enumerate (pa_cons (pv 0) pa_nil)) (blkOk_by (own := [("place", 1), ("source", 2)]) (N := ["value", "place", "source"]) (sc := defScope s_is_froms) (by decide +kernel)) (fun _ _ _ _ _ => (pg_tup rfl (pgs_cons (pg_name (i := 1) sc_is_froms.nd rfl (Or.inl rfl) (Or.inr rfl)) (pgs_cons (pg_name (i := 2) sc_is_froms.nd rfl (Or.inl rfl) (Or.inr rfl)) pgs_nil)))) (fun _ _ _ _ _ => pts_nil) (fun _ _ _ _ _ => (pe_and (C8.pe_c (c_is_countG (P := P) (w := w) (K := K) (mg := mg) (base := base) T) hr (by decide) rfl (pa_cons (pv 2) pa_nil)) (pe_one (pe_cmpR op_le (pv 2) (pv 1) (nomark _)))))) pa_nil))))), ?_⟩
    refine ⟨_, rfl, _, _, _, _, isLs d, rfl, .ty _, gn_ty hg, ki_ls d, isLs d, rfl, ?_⟩
    have q0 := q H (Same.refl _)
    cases hg with
    | @lst a xs ds ha hx =>
      have ln := hx.len
      refine iteF ⟨_, rfl, a, xs, rfl, .inl (SqL.of ha), _, _, rfl, rfl, _, _, rfl, rfl, decide ((2 : Int) ≤ (xs.length : Int) + 1), rfl, ?_⟩
      have eb : frB (.list ds) = (decide (1 ≤ ds.length) && (decide (ds.length ≤ 7) && (frLs ds).all id)) := rfl
      rw [eb] at q0
      by_cases h1 : (2 : Int) ≤ (xs.length : Int) + 1
      case neg =>
        rw [decide_eq_false h1]
        rw [decide_eq_false (show ¬ 1 ≤ ds.length by omega)] at q0
        exact iteF ⟨false, rfl, iteT q0⟩
      rw [decide_eq_true h1]
      rw [decide_eq_true (show 1 ≤ ds.length by omega)] at q0
      refine iteT ⟨_, _, rfl, rfl, decide ((xs.length : Int) + 1 ≤ 8), rfl, ?_⟩
      by_cases h2 : (xs.length : Int) + 1 ≤ 8
      case neg =>
        rw [decide_eq_false h2]
        rw [decide_eq_false (show ¬ ds.length ≤ 7 by omega)] at q0
        exact iteT q0
      rw [decide_eq_true h2]
      refine iteF ⟨_, rfl, a, _, rfl, SqL.of ha, fun D nD => ?_⟩
      refine lc_it (walk_enum (K := K) (a := a) (xs := xs)) (fun i H1 => Same H H1 ∧ H1 D = some (.lst (((frLs ds).take i).map V.bl))) ⟨same_upd nD, upd_same⟩ (fun i H1 _ p => SqL.of (p.1 _ _ ha)) ?_ ?_
      · rintro i v H1 H2 hi2 ⟨s1, hD⟩ ⟨U, x, y, rfl, nU, rfl, e1, e2⟩
        cases (Option.some.inj e1)
        obtain ⟨d, ed, gd⟩ := hx.get e2
        have sU : Same H1 (upd H1 U (.tup [V.int (i : Nat), y])) := same_upd nU
        refine ⟨U, _, rfl, .inl (.inl upd_same), rfl, _, _, rfl, _, _, rfl, rfl, rfl, ?_⟩
        have fin : ∀ b : Bool, b = tonD i d → ∃ acc, (upd H1 U (.tup [V.int (i : Nat), y])) D = some (.lst acc) ∧ acc.length < sizeLine ∧ (Same H (upd (upd H1 U (.tup [V.int (i : Nat), y])) D (.lst (acc ++ [V.bl b]))) ∧ (upd (upd H1 U (.tup [V.int (i : Nat), y])) D (.lst (acc ++ [V.bl b]))) D = some (.lst (((frLs ds).take (i + 1)).map V.bl))) := by
          rintro b rfl
          refine ⟨_, sU _ _ hD, ?_, Same.chg (s1.trans sU) nD, ?_⟩
          · rw [List.length_map, List.length_take]
            exact small1000 (by omega)
          · rw [upd_same, List.take_add_one, frLs_at ed, List.map_append]
            rfl
        refine ⟨_, rfl, y, d, rfl, gd.same (s1.trans sU), cntD d, rfl, ?_⟩
        cases hc : cntD d with
        | false => exact iteF (fin _ (by
            cases d with
            | int i => exact (Bool.and_eq_false_imp.mpr fun z => absurd z (by rw [show decide (0 ≤ i) = false from hc]; decide)).symm
            | _ => rfl))
        | true =>
          cases gd with
          | int z =>
            refine iteT ⟨_, rfl, _, rfl, z, _, rfl, rfl, fin _ ?_⟩
            show decide (z ≤ (i : Int)) = (decide (0 ≤ z) && decide (z ≤ (i : Int)))
            rw [show decide (0 ≤ z) = true from hc]
            rfl
          | _ => cases hc
      · rintro H1 ⟨s1, hD⟩
        have lt : (frLs ds).length = xs.length := by
          unfold frLs
          rw [List.length_mapIdx, ln]
        rw [← lt, List.take_length] at hD
        refine ⟨D, _, rfl, SqL.of hD, qt ?_ (q _ s1)⟩
        rw [eb, decide_eq_true (show 1 ≤ ds.length by omega), decide_eq_true (show ds.length ≤ 7 by omega)]
        rfl
    | non => exact iteT q0
    | bl b => exact iteT q0
    | int i => exact iteT q0
    | str x => exact iteT q0
    | tup _ _ => exact iteT q0
    | dct _ => exact iteT q0

end PD

namespace PD
open PySem PySem.Spec PyProof.Rows L2

/-! Phrasedesk: the law's looks at refusals -/
open LamX NdefX
--# kinds
/-- which of the twelve refusals D is -/
structure KindOf (K : PySem.W.Frag) (D : Addr) (n : Nat) : Prop where
  k0 : PySem.W.kitOne K (.ref D) (.ref (He.ga K "BadFroms")) = some (decide (0 = n))
  k1 : PySem.W.kitOne K (.ref D) (.ref (He.ga K "BadPhrase")) = some (decide (1 = n))
  k2 : PySem.W.kitOne K (.ref D) (.ref (He.ga K "BadTongue")) = some (decide (2 = n))
  k3 : PySem.W.kitOne K (.ref D) (.ref (He.ga K "BadText")) = some (decide (3 = n))
  k4 : PySem.W.kitOne K (.ref D) (.ref (He.ga K "BadSeen")) = some (decide (4 = n))
  k5 : PySem.W.kitOne K (.ref D) (.ref (He.ga K "BadRow")) = some (decide (5 = n))
  k6 : PySem.W.kitOne K (.ref D) (.ref (He.ga K "BadOld")) = some (decide (6 = n))
  k7 : PySem.W.kitOne K (.ref D) (.ref (He.ga K "BadHands")) = some (decide (7 = n))
  k8 : PySem.W.kitOne K (.ref D) (.ref (He.ga K "BadTale")) = some (decide (8 = n))
  k9 : PySem.W.kitOne K (.ref D) (.ref (He.ga K "Overtaken")) = some (decide (9 = n))
  k10 : PySem.W.kitOne K (.ref D) (.ref (He.ga K "Nothing")) = some (decide (10 = n))
  k11 : PySem.W.kitOne K (.ref D) (.ref (He.ga K "TooMany")) = some (decide (11 = n))
  kv : PySem.W.kitOne K (.ref D) (.type "ValueError") = some true
  xc : ExcC K D
  ph : PySem.W.exmOne K (.ref D) (.ref (He.ga K "PhraseError")) = some true
def kindL (n : Nat) : List Bool := (List.range 12).map (fun i => decide (i = n)) ++ [true]
--# _law_kinds
def spKinds (K : PySem.W.Frag) : SpE := fun p vs H Q => ∃ (D : Addr) (n : Nat), vs = [.ref p.1] ∧ KindOf K D n ∧ Zc (.ref D) none p.2 ∧ (∃ vs, p.2.data = .fields vs) ∧ ∀ (H' : Hp) (L : Addr), Same H H' → H' L = some (.lst ((kindL n).map V.bl)) → Q (.ref L) H'
theorem sc_law_kinds : FnScope ["_law_error", "_law_found"] ["_law_error"] (defScope s_law_kinds) := ⟨rfl, rfl, rfl, by decide +kernel, rfl, by decide +kernel, by decide +kernel⟩
theorem c_law_kinds {P : Program} {w : World} {K : PySem.W.Frag} {mg : Str → Option Value} {base : Heap} (T : Tx K mg) : CalE P w K mg base 2 "_law_kinds" (spKinds K) := by
  refine calE T.F_law_kinds T.g_law_kinds (fun _ _ _ _ _ _ us hl => match us, hl with | [_], _ => rfl) sc_law_kinds (fun p vs H Q h => ?_) (fun cdv A outer s H vs Q p h => ?_)
  · obtain ⟨D, n, rfl, _⟩ := h
    rfl
  · obtain ⟨D, n, rfl, kn, hz, hf, q⟩ := h
    refine ⟨_, (pss_cons (ps_set (i := 1) sc_law_kinds.nd rfl (Or.inl rfl) (pe_lst (pa_cons (pe_callB (call_isE2 kn.xc hz hf (by exact List.mem_cons_self)) (by rfl) T.f_isinstance (by decide +kernel) (pa_cons (pv 0) (pa_cons (pe_glob (v := .ref (He.ga K "BadFroms")) rfl T.g_BadFroms rfl) pa_nil))) (pa_cons (pe_callB (call_isE2 kn.xc hz hf (by exact List.mem_cons_self)) (by rfl) T.f_isinstance (by decide +kernel) (pa_cons (pv 0) (pa_cons (pe_glob (v := .ref (He.ga K "BadPhrase")) rfl T.g_BadPhrase rfl) pa_nil))) (pa_cons (pe_callB (call_isE2 kn.xc hz hf (by exact List.mem_cons_self)) (by rfl) T.f_isinstance (by decide +kernel) (pa_cons (pv 0) (pa_cons (pe_glob (v := .ref (He.ga K "BadTongue")) rfl T.g_BadTongue rfl) pa_nil))) pa_nil)))))
    (pss_cons (ps_set (i := 1) sc_law_kinds.nd rfl (Or.inl rfl) (pe_op op_cat (pv 1) (pe_lst (pa_cons (pe_callB (call_isE2 kn.xc hz hf (by exact List.mem_cons_self)) (by rfl) T.f_isinstance (by decide +kernel) (pa_cons (pv 0) (pa_cons (pe_glob (v := .ref (He.ga K "BadText")) rfl T.g_BadText rfl) pa_nil))) (pa_cons (pe_callB (call_isE2 kn.xc hz hf (by exact List.mem_cons_self)) (by rfl) T.f_isinstance (by decide +kernel) (pa_cons (pv 0) (pa_cons (pe_glob (v := .ref (He.ga K "BadSeen")) rfl T.g_BadSeen rfl) pa_nil))) (pa_cons (pe_callB (call_isE2 kn.xc hz hf (by exact List.mem_cons_self)) (by rfl) T.f_isinstance (by decide +kernel) (pa_cons (pv 0) (pa_cons (pe_glob (v := .ref (He.ga K "BadRow")) rfl T.g_BadRow rfl) pa_nil))) pa_nil))))))
    (pss_cons (ps_set (i := 1) sc_law_kinds.nd rfl (Or.inl rfl) (pe_op op_cat (pv 1) (pe_lst (pa_cons (pe_callB (call_isE2 kn.xc hz hf (by exact List.mem_cons_self)) (by rfl) T.f_isinstance (by decide +kernel) (pa_cons (pv 0) (pa_cons (pe_glob (v := .ref (He.ga K "BadOld")) rfl T.g_BadOld rfl) pa_nil))) (pa_cons (pe_callB (call_isE2 kn.xc hz hf (by exact List.mem_cons_self)) (by rfl) T.f_isinstance (by decide +kernel) (pa_cons (pv 0) (pa_cons (pe_glob (v := .ref (He.ga K "BadHands")) rfl T.g_BadHands rfl) pa_nil))) (pa_cons (pe_callB (call_isE2 kn.xc hz hf (by exact List.mem_cons_self)) (by rfl) T.f_isinstance (by decide +kernel) (pa_cons (pv 0) (pa_cons (pe_glob (v := .ref (He.ga K "BadTale")) rfl T.g_BadTale rfl) pa_nil))) pa_nil))))))
    (pss_cons (ps_set (i := 1) sc_law_kinds.nd rfl (Or.inl rfl) (pe_op op_cat (pv 1) (pe_lst (pa_cons (pe_callB (call_isE2 kn.xc hz hf (by exact List.mem_cons_self)) (by rfl) T.f_isinstance (by decide +kernel) (pa_cons (pv 0) (pa_cons (pe_glob (v := .ref (He.ga K "Overtaken")) rfl T.g_Overtaken rfl) pa_nil))) (pa_cons (pe_callB (call_isE2 kn.xc hz hf (by exact List.mem_cons_self)) (by rfl) T.f_isinstance (by decide +kernel) (pa_cons (pv 0) (pa_cons (pe_glob (v := .ref (He.ga K "Nothing")) rfl T.g_Nothing rfl) pa_nil))) (pa_cons (pe_callB (call_isE2 kn.xc hz hf (by exact List.mem_cons_self)) (by rfl) T.f_isinstance (by decide +kernel) (pa_cons (pv 0) (pa_cons (pe_glob (v := .ref (He.ga K "TooMany")) rfl T.g_TooMany rfl) pa_nil))) pa_nil))))))
    (pss_one (ps_ret (pe_op op_cat (pv 1) (pe_lst (pa_cons (pe_callB (call_isE2 kn.xc hz hf (by exact List.mem_cons_self)) (by rfl) T.f_isinstance (by decide +kernel) (pa_cons (pv 0) (pa_cons (pe_bltn (v := .ty "ValueError") (by rfl) T.f_ValueError (by decide +kernel) rfl) pa_nil))) pa_nil))))))))), ?_⟩
    refine ⟨_, rfl, _, _, _, rfl, (fun _ h => h), kn.k0, _, rfl, _, _, _, rfl, (fun _ h => h), kn.k1, _, rfl, _, _, _, rfl, (fun _ h => h), kn.k2, (by show 3 ≤ sizeLine; decide), fun L0 n0 => ?_⟩
    have s0 : Same H (upd H L0 (.lst [V.bl (decide (0 = n)), V.bl (decide (1 = n)), V.bl (decide (2 = n))])) := same_upd n0
    have h0 : (upd H L0 (.lst [V.bl (decide (0 = n)), V.bl (decide (1 = n)), V.bl (decide (2 = n))])) L0 = some (.lst [V.bl (decide (0 = n)), V.bl (decide (1 = n)), V.bl (decide (2 = n))]) := upd_same
    generalize upd H L0 (.lst [V.bl (decide (0 = n)), V.bl (decide (1 = n)), V.bl (decide (2 = n))]) = H0 at s0 h0 ⊢
    refine ⟨_, rfl, _, rfl, _, _, _, rfl, (fun _ h => h), kn.k3, _, rfl, _, _, _, rfl, (fun _ h => h), kn.k4, _, rfl, _, _, _, rfl, (fun _ h => h), kn.k5, (by show 3 ≤ sizeLine; decide), fun m1 nm1 => ⟨L0, m1, _, _, rfl, rfl, same_upd nm1 _ _ h0, upd_same, (by show 3 + 3 ≤ sizeLine; decide), fun L1 n1 => ?_⟩⟩
    have s1 : Same H0 (upd (upd H0 m1 (.lst [V.bl (decide (3 = n)), V.bl (decide (4 = n)), V.bl (decide (5 = n))])) L1 (.lst ([V.bl (decide (0 = n)), V.bl (decide (1 = n)), V.bl (decide (2 = n))] ++ [V.bl (decide (3 = n)), V.bl (decide (4 = n)), V.bl (decide (5 = n))]))) := (same_upd nm1).trans (same_upd n1)
    have h1 : (upd (upd H0 m1 (.lst [V.bl (decide (3 = n)), V.bl (decide (4 = n)), V.bl (decide (5 = n))])) L1 (.lst ([V.bl (decide (0 = n)), V.bl (decide (1 = n)), V.bl (decide (2 = n))] ++ [V.bl (decide (3 = n)), V.bl (decide (4 = n)), V.bl (decide (5 = n))]))) L1 = some (.lst ([V.bl (decide (0 = n)), V.bl (decide (1 = n)), V.bl (decide (2 = n))] ++ [V.bl (decide (3 = n)), V.bl (decide (4 = n)), V.bl (decide (5 = n))])) := upd_same
    generalize upd (upd H0 m1 (.lst [V.bl (decide (3 = n)), V.bl (decide (4 = n)), V.bl (decide (5 = n))])) L1 (.lst ([V.bl (decide (0 = n)), V.bl (decide (1 = n)), V.bl (decide (2 = n))] ++ [V.bl (decide (3 = n)), V.bl (decide (4 = n)), V.bl (decide (5 = n))])) = H1 at s1 h1 ⊢
    refine ⟨_, rfl, _, rfl, _, _, _, rfl, (fun _ h => h), kn.k6, _, rfl, _, _, _, rfl, (fun _ h => h), kn.k7, _, rfl, _, _, _, rfl, (fun _ h => h), kn.k8, (by show 3 ≤ sizeLine; decide), fun m2 nm2 => ⟨L1, m2, _, _, rfl, rfl, same_upd nm2 _ _ h1, upd_same, (by show 6 + 3 ≤ sizeLine; decide), fun L2 n2 => ?_⟩⟩
    have s2 : Same H1 (upd (upd H1 m2 (.lst [V.bl (decide (6 = n)), V.bl (decide (7 = n)), V.bl (decide (8 = n))])) L2 (.lst (([V.bl (decide (0 = n)), V.bl (decide (1 = n)), V.bl (decide (2 = n))] ++ [V.bl (decide (3 = n)), V.bl (decide (4 = n)), V.bl (decide (5 = n))]) ++ [V.bl (decide (6 = n)), V.bl (decide (7 = n)), V.bl (decide (8 = n))]))) := (same_upd nm2).trans (same_upd n2)
    have h2 : (upd (upd H1 m2 (.lst [V.bl (decide (6 = n)), V.bl (decide (7 = n)), V.bl (decide (8 = n))])) L2 (.lst (([V.bl (decide (0 = n)), V.bl (decide (1 = n)), V.bl (decide (2 = n))] ++ [V.bl (decide (3 = n)), V.bl (decide (4 = n)), V.bl (decide (5 = n))]) ++ [V.bl (decide (6 = n)), V.bl (decide (7 = n)), V.bl (decide (8 = n))]))) L2 = some (.lst (([V.bl (decide (0 = n)), V.bl (decide (1 = n)), V.bl (decide (2 = n))] ++ [V.bl (decide (3 = n)), V.bl (decide (4 = n)), V.bl (decide (5 = n))]) ++ [V.bl (decide (6 = n)), V.bl (decide (7 = n)), V.bl (decide (8 = n))])) := upd_same
    generalize upd (upd H1 m2 (.lst [V.bl (decide (6 = n)), V.bl (decide (7 = n)), V.bl (decide (8 = n))])) L2 (.lst (([V.bl (decide (0 = n)), V.bl (decide (1 = n)), V.bl (decide (2 = n))] ++ [V.bl (decide (3 = n)), V.bl (decide (4 = n)), V.bl (decide (5 = n))]) ++ [V.bl (decide (6 = n)), V.bl (decide (7 = n)), V.bl (decide (8 = n))])) = H2 at s2 h2 ⊢
    refine ⟨_, rfl, _, rfl, _, _, _, rfl, (fun _ h => h), kn.k9, _, rfl, _, _, _, rfl, (fun _ h => h), kn.k10, _, rfl, _, _, _, rfl, (fun _ h => h), kn.k11, (by show 3 ≤ sizeLine; decide), fun m3 nm3 => ⟨L2, m3, _, _, rfl, rfl, same_upd nm3 _ _ h2, upd_same, (by show 9 + 3 ≤ sizeLine; decide), fun L3 n3 => ?_⟩⟩
    have s3 : Same H2 (upd (upd H2 m3 (.lst [V.bl (decide (9 = n)), V.bl (decide (10 = n)), V.bl (decide (11 = n))])) L3 (.lst ((([V.bl (decide (0 = n)), V.bl (decide (1 = n)), V.bl (decide (2 = n))] ++ [V.bl (decide (3 = n)), V.bl (decide (4 = n)), V.bl (decide (5 = n))]) ++ [V.bl (decide (6 = n)), V.bl (decide (7 = n)), V.bl (decide (8 = n))]) ++ [V.bl (decide (9 = n)), V.bl (decide (10 = n)), V.bl (decide (11 = n))]))) := (same_upd nm3).trans (same_upd n3)
    have h3 : (upd (upd H2 m3 (.lst [V.bl (decide (9 = n)), V.bl (decide (10 = n)), V.bl (decide (11 = n))])) L3 (.lst ((([V.bl (decide (0 = n)), V.bl (decide (1 = n)), V.bl (decide (2 = n))] ++ [V.bl (decide (3 = n)), V.bl (decide (4 = n)), V.bl (decide (5 = n))]) ++ [V.bl (decide (6 = n)), V.bl (decide (7 = n)), V.bl (decide (8 = n))]) ++ [V.bl (decide (9 = n)), V.bl (decide (10 = n)), V.bl (decide (11 = n))]))) L3 = some (.lst ((([V.bl (decide (0 = n)), V.bl (decide (1 = n)), V.bl (decide (2 = n))] ++ [V.bl (decide (3 = n)), V.bl (decide (4 = n)), V.bl (decide (5 = n))]) ++ [V.bl (decide (6 = n)), V.bl (decide (7 = n)), V.bl (decide (8 = n))]) ++ [V.bl (decide (9 = n)), V.bl (decide (10 = n)), V.bl (decide (11 = n))])) := upd_same
    generalize upd (upd H2 m3 (.lst [V.bl (decide (9 = n)), V.bl (decide (10 = n)), V.bl (decide (11 = n))])) L3 (.lst ((([V.bl (decide (0 = n)), V.bl (decide (1 = n)), V.bl (decide (2 = n))] ++ [V.bl (decide (3 = n)), V.bl (decide (4 = n)), V.bl (decide (5 = n))]) ++ [V.bl (decide (6 = n)), V.bl (decide (7 = n)), V.bl (decide (8 = n))]) ++ [V.bl (decide (9 = n)), V.bl (decide (10 = n)), V.bl (decide (11 = n))])) = H3 at s3 h3 ⊢
    refine ⟨_, rfl, _, rfl, _, _, _, rfl, (fun _ h => h), kn.kv, (by show 1 ≤ sizeLine; decide), fun m4 nm4 => ⟨L3, m4, _, _, rfl, rfl, same_upd nm4 _ _ h3, upd_same, (by show 12 + 1 ≤ sizeLine; decide), fun L4 n4 => ?_⟩⟩
    exact q _ L4 ((s0.trans (s1.trans (s2.trans s3))).trans ((same_upd nm4).trans (same_upd n4))) upd_same
--# _law_refused
def Refuses (P : Program) (w : World) (K : PySem.W.Frag) (mg : Str → Option Value) (base : Heap) (H0 : Hp) (f : Addr) (v : V) (n : Nat) : Prop := ∃ F sp, H0 f = some (LmO f F) ∧ Calls P w K mg base 13 f sp ∧
  ∀ (H : Hp) (Q : VK) (E : XK), Same H0 H → (∀ (H1 : Hp) (D : Addr), KindOf K D n → Same H H1 → E (.ref D) none H1) → sp [v] H Q E
theorem Refuses.same {P : Program} {w : World} {K : PySem.W.Frag} {mg : Str → Option Value} {base : Heap} {H0 H1 : Hp} {f : Addr} {v : V} {n : Nat} (r : Refuses P w K mg base H0 f v n) (s : Same H0 H1) : Refuses P w K mg base H1 f v n := by
  obtain ⟨F, sp, h1, C, h2⟩ := r
  exact ⟨F, sp, s _ _ h1, C, fun H Q E s' => h2 H Q E (s.trans s')⟩
theorem kind_shp (n : Nat) : SeqAt.shaped (.list ((kindL n).map .bool)) = true := rfl
theorem dpa_bls {K : PySem.W.Frag} {H : Hp} : ∀ bs : List Bool, DpAll K H (bs.map V.bl) (bs.map PyData.bool)
  | [] => .nil
  | b :: bs => .cons (.bl b) (dpa_bls bs)
theorem kind_eqv (n : Nat) : PyData.eqv (.list ((kindL n).map .bool)) (.list ((kindL n).map .bool)) = true := SeqAt.eqv_refl _ rfl
def spRefused (P : Program) (w : World) (K : PySem.W.Frag) (mg : Str → Option Value) (base : Heap) : Sp := fun vs H Q _ => ∃ (f : Addr) (v : V) (n : Nat), vs = [.ref f, v, .int (n : Int)] ∧ n < 12 ∧ Refuses P w K mg base H f v n ∧ ∀ H', Same H H' → Q (.bl true) H'
theorem sc_law_refused : FnScope ["_law_ask", "_law_thing", "_law_which", "_law_sorts", "_law_error", "_law_at"] ["_law_ask", "_law_thing", "_law_which"] (defScope s_law_refused) := ⟨rfl, rfl, rfl, by decide +kernel, rfl, by decide +kernel, by decide +kernel⟩
theorem c_law_refused {P : Program} {w : World} {K : PySem.W.Frag} {mg : Str → Option Value} {base : Heap} (T : Tx K mg) : C8.Cal P w K mg base 14 "_law_refused" (spRefused P w K mg base) [] := by
  refine calD T.F_law_refused T.g_law_refused (fun _ _ _ _ _ _ us hl => match us, hl with | [_, _, _], _ => rfl) sc_law_refused (fun vs H Q E h => ?_) (fun cdv A outer s H vs Q E hr h => ?_)
  · obtain ⟨f, v, n, rfl, _⟩ := h
    rfl
  · obtain ⟨f, v, n, rfl, n12, ref, q⟩ := h
    refine ⟨_, (pss_cons (ps_set (i := 3) sc_law_refused.nd rfl (Or.inl rfl) (pe_lst pa_nil))
    (pss_cons (ps_tryc (CP := He.ga K "PhraseError") (i := 4) (ia := 0) (ib := 1) (k := 13) rfl rfl sc_law_refused.nd rfl rfl rfl T.g_PhraseError hr (by decide) rfl (Or.inl rfl) rfl (Or.inl rfl) (fun b oe cls d pn hz hf => (pss_one (ps_set (i := 3) sc_law_refused.nd rfl (Or.inl rfl) (pe_cE (c_law_kinds T) hr (by decide) hz hf rfl (pa_cons (pv 4) pa_nil))))))
    (pss_one (ps_ret (pe_cmpR (op_eqD hr.units) (pv 3) (pe_op op_cat (pe_lc (own := [("_law_at", 5)]) (g := gName 5) (tt := tYes) (by rfl) sc_law_refused.nd (pi_range1 (by rfl) T.f_range (pa_cons pe_int pa_nil)) (blkOk_by (own := [("_law_at", 5)]) (N := ["_law_ask", "_law_thing", "_law_which", "_law_sorts", "_law_error", "_law_at"]) (sc := defScope s_law_refused) (by decide +kernel)) (fun _ _ _ _ _ => (pg_name (i := 5) sc_law_refused.nd rfl (Or.inl rfl))) (fun _ _ _ _ _ => pts_nil) (fun _ _ _ _ _ => (pe_cmpR op_eq (pv 5) (pv 2) (nomark _)))) (pe_lst (pa_cons pe_bl pa_nil))) (nomark _)))))), ?_⟩
    refine ⟨Nat.zero_le _, fun L nL => ?_⟩
    have s1 : Same H (upd H L (.lst [])) := same_upd nL
    obtain ⟨F, sp, hf, C, hrd⟩ := ref
    refine ⟨f, F, sp, v, rfl, rfl, s1 _ _ hf, C, hrd _ _ _ s1 fun H1 D kn sD => ?_⟩
    refine ⟨true, kn.ph, fun _ a na => ⟨_, rfl, fun oe hz hfd => ⟨D, n, rfl, kn, hz, hfd, fun H2 M s2 hM => ?_⟩⟩, fun z => by cases z⟩
    refine ⟨_, rfl, 12, rfl, by decide, by decide, fun B nB => ?_⟩
    refine lc_it (walk_range (lo := 0) (n := 12)) (fun i H3 => Same H2 H3 ∧ H3 B = some (.lst (((List.range i).map fun j => decide (j = n)).map V.bl))) ⟨same_upd nB, upd_same⟩ (fun _ _ _ _ => trivial) ?_ ?_
    · rintro i y H3 H4 hi ⟨s3, hB⟩ ⟨rfl, rfl⟩
      refine ⟨rfl, _, rfl, _, rfl, rfl, _, hB, ?_, Same.chg s3 nB, ?_⟩
      · rw [List.length_map, List.length_map, List.length_range]
        exact small1000 (by omega)
      · rw [upd_same, List.range_succ, List.map_append, List.map_append]
        show some (HO.lst (_ ++ [V.bl (decide (V.int (0 + (i : Int)) = V.int (n : Int)))])) = _
        have e : decide (V.int (0 + (i : Int)) = V.int (n : Int)) = decide (i = n) := by
          refine decide_eq_decide.mpr ⟨fun z => ?_, fun z => by rw [z, Int.zero_add]⟩
          have := V.int.inj z
          omega
        rw [e]
        rfl
    · rintro H3 ⟨s3, hB⟩
      refine ⟨(by show 1 ≤ sizeLine; decide), fun m nm => ⟨B, m, _, _, rfl, rfl, same_upd nm _ _ hB, upd_same, (by show 12 + 1 ≤ sizeLine; decide), fun R nR => ?_⟩⟩
      have s5 : Same H3 (upd (upd H3 m (.lst [V.bl true])) R (.lst ((((List.range 12).map fun j => decide (j = n)).map V.bl) ++ [V.bl true]))) := (same_upd nm).trans (same_upd nR)
      refine ⟨.list ((kindL n).map .bool), .list ((kindL n).map .bool), .lst (SqL.of (s5 _ _ (s3 _ _ hM))) (dpa_bls _), .lst (SqL.of upd_same) (dpa_bls (kindL n)), kind_shp n, kind_shp n, ?_⟩
      rw [kind_eqv]
      exact q _ ((s1.trans sD).trans (s2.trans (s3.trans s5)))
--# _law_all
def spAllR (P : Program) (w : World) (K : PySem.W.Frag) (mg : Str → Option Value) (base : Heap) : Sp := fun vs H Q _ => ∃ (a t : Addr) (fs : List Addr) (ts : List V) (n : Nat), vs = [.ref a, .ref t, .int (n : Int)] ∧ n < 12 ∧ H a = some (.lst (fs.map V.ref)) ∧ H t = some (.lst ts) ∧ ts.length ≤ 5000 ∧
  (∀ f ∈ fs, ∀ v ∈ ts, Refuses P w K mg base H f v n) ∧ ∀ H', Same H H' → Q (.bl true) H'
theorem sc_law_all : FnScope ["_law_asks", "_law_things", "_law_which", "_law_ask", "_law_thing"] ["_law_asks", "_law_things", "_law_which"] (defScope s_law_all) := ⟨rfl, rfl, rfl, by decide +kernel, rfl, by decide +kernel, by decide +kernel⟩
theorem c_law_all {P : Program} {w : World} {K : PySem.W.Frag} {mg : Str → Option Value} {base : Heap} (T : Tx K mg) : C8.Cal P w K mg base 15 "_law_all" (spAllR P w K mg base) [] := by
  refine calD T.F_law_all T.g_law_all (fun _ _ _ _ _ _ us hl => match us, hl with | [_, _, _], _ => rfl) sc_law_all (fun vs H Q E h => ?_) (fun cdv A outer s H vs Q E hr h => ?_)
  · obtain ⟨a, t, fs, ts, n, rfl, _⟩ := h
    rfl
  · obtain ⟨a, t, fs, ts, n, rfl, n12, ha, ht, hn, ref, q⟩ := h
    refine ⟨_, (pss_cons (ps_for PassesOwn.never rfl (pi_list (pv 0)) (pg_name (i := 3) sc_law_all.nd rfl (Or.inr rfl))
      (pss_one (ps_if (pt_not (pt_val (pe_callB (cr_all rfl) (by rfl) T.f_all (by decide +kernel) (pa_cons (pe_lc (own := [("_law_thing", 4)]) (g := gName 4) (tt := tYes) (by rfl) sc_law_all.nd (pi_list (pv 1)) (blkOk_by (own := [("_law_thing", 4)]) (N := ["_law_asks", "_law_things", "_law_which", "_law_ask", "_law_thing"]) (sc := defScope s_law_all) (by decide +kernel)) (fun _ _ _ _ _ => (pg_name (i := 4) sc_law_all.nd rfl (Or.inl rfl))) (fun _ _ _ _ _ => pts_nil) (fun _ _ _ _ _ => (C8.pe_c (c_law_refused (P := P) (w := w) (K := K) (mg := mg) (base := base) T) hr (by decide) rfl (pa_cons (pv 3) (pa_cons (pv 4) (pa_cons (pv 2) pa_nil)))))) pa_nil))))
        (pss_one (ps_ret pe_bl))
        pss_nil)))
    (pss_one (ps_ret pe_bl))), ?_⟩
    refine ⟨_, rfl, a, rfl, ⟨_, SqL.of ha⟩, ?_⟩
    refine for_list (K := K) (a := a) (xs := fs.map V.ref) (fun i σ H1 => ∃ va vb, σ = [some (.ref a), some (.ref t), some (.int (n : Int)), va, vb] ∧ Same H H1) ⟨none, none, rfl, Same.refl _⟩ (fun i σ H1 _ p => let ⟨_, _, _, s⟩ := p; SqL.of (s _ _ ha)) ?_ ?_
    · rintro i x σ H1 ex ⟨va, vb, rfl, s1⟩
      rw [List.getElem?_map] at ex
      obtain ⟨f, ef, rfl⟩ := Option.map_eq_some_iff.mp ex
      refine ⟨_, rfl, t, rfl, ⟨_, SqL.of (s1 _ _ ht)⟩, fun B nB => ?_⟩
      refine lc_list (K := K) (a := t) (xs := ts) (fun i H2 => Same H1 H2 ∧ H2 B = some (.lst ((List.replicate i true).map V.bl))) ⟨same_upd nB, upd_same⟩ (fun i H2 _ p => SqL.of (p.1 _ _ (s1 _ _ ht))) ?_ ?_
      · rintro j v H2 ev ⟨s2, hB⟩
        have jl := (List.getElem?_eq_some_iff.mp ev).1
        refine ⟨rfl, _, rfl, _, rfl, _, rfl, f, v, n, rfl, n12, (ref f (List.mem_of_getElem? ef) v (List.mem_of_getElem? ev)).same (s1.trans s2), fun H3 s3 => ⟨_, s3 _ _ hB, ?_, Same.chg (s2.trans s3) nB, ?_⟩⟩
        · rw [List.length_map, List.length_replicate]
          exact small5000 (by omega)
        · rw [upd_same, List.replicate_succ', List.map_append]
          rfl
      · rintro H2 ⟨s2, hB⟩
        exact ⟨B, _, rfl, SqL.of hB, true, by rw [all_true], iteF ⟨_, _, rfl, s1.trans s2⟩⟩
    · rintro σ H1 ⟨va, vb, rfl, s1⟩
      exact q _ s1

end PD

namespace PD
open PySem PySem.Spec PyProof.Rows L2

/-! Phrasedesk: rows, old ones, hands, tales: the program's looks at any data -/
open LamX NdefX
--# is_pair
def nonD : PyData → Bool
  | .none => true
  | _ => false
theorem gn_non {H : Hp} {v : V} {d : PyData} (h : Gn H v d) : decide (v = V.non) = nonD d := by
  cases h with
  | non => rfl
  | _ => exact decide_eq_false fun z => nomatch z
def pairD : PyData → Bool
  | .tuple ds => decide (ds.length = 2)
  | _ => false
theorem pair_of {d : PyData} (h : pairD d = true) : ∃ a b, d = .tuple [a, b] := by
  cases d with
  | tuple ds =>
    have l : ds.length = 2 := of_decide_eq_true h
    match ds, l with
    | [a, b], _ => exact ⟨a, b, rfl⟩
  | _ => cases h
theorem dec_len {n m : Nat} : decide (V.int (n : Int) = V.int (m : Int)) = decide (n = m) := by
  refine decide_eq_decide.mpr ⟨fun z => ?_, fun z => by rw [z]⟩
  have := V.int.inj z
  omega
def spPairG : Sp := fun vs H Q _ => ∃ (v : V) (d : PyData), vs = [v] ∧ Gn H v d ∧ Q (.bl (pairD d)) H
theorem c_is_pairG {P : Program} {w : World} {K : PySem.W.Frag} {mg : Str → Option Value} {base : Heap} (T : Tx K mg) : C8.Cal P w K mg base 1 "is_pair" (spPairG) [] := by
  refine calD T.F_is_pair T.g_is_pair (fun _ _ _ _ _ _ us hl => match us, hl with | [_], _ => rfl) sc_is_pair (fun vs H Q E h => ?_) (fun cdv A outer s H vs Q E hr h => ?_)
  · obtain ⟨v, d, rfl, _⟩ := h
    rfl
  · obtain ⟨v, d, rfl, hg, q⟩ := h
    refine ⟨_, (pss_one (ps_ret (pe_and (pe_callB call_isi (by rfl) T.f_isinstance (by decide +kernel) (pa_cons (pv 0) (pa_cons (pe_bltn (v := .ty "tuple") (by rfl) T.f_tuple (by decide +kernel) rfl) pa_nil))) (pe_one (pe_cmpR op_eq (pe_callB call_len_seq (by rfl) T.f_len (by decide +kernel) (pa_cons (pv 0) pa_nil)) pe_int (nomark _)))))), ?_⟩
    refine ⟨_, rfl, _, _, _, _, isTu d, rfl, .ty _, gn_ty hg, ki_tu d, isTu d, rfl, ?_⟩
    cases hg with
    | @tup a xs ds h r =>
      refine iteT ⟨_, rfl, a, _, rfl, .inr (SqT.of h), rfl, qt ?_ q⟩
      show decide (V.int (xs.length : Int) = V.int ((2 : Nat) : Int)) = decide (ds.length = 2)
      rw [dec_len, r.len]
    | _ => exact iteF q
--# is_source_cell
def srcD : PyData → Bool
  | .tuple [a, b] => cntD a && nonD b
  | _ => false
theorem GnAll.two {H : Hp} {xs : List V} {a b : PyData} (h : GnAll H xs [a, b]) : ∃ x y, xs = [x, y] ∧ Gn H x a ∧ Gn H y b := by
  cases h with
  | cons h1 r =>
    cases r with
    | cons h2 r =>
      cases r
      exact ⟨_, _, rfl, h1, h2⟩
def spSrcG : Sp := fun vs H Q _ => ∃ (v : V) (d : PyData), vs = [v] ∧ Gn H v d ∧ Q (.bl (srcD d)) H
theorem src_no {d : PyData} (h : pairD d = false) : srcD d = false := by
  match d, h with
  | .none, _ => rfl
  | .bool _, _ => rfl
  | .int _, _ => rfl
  | .str _, _ => rfl
  | .list _, _ => rfl
  | .dict _, _ => rfl
  | .tuple [], _ => rfl
  | .tuple [_], _ => rfl
  | .tuple [_, _], h => cases h
  | .tuple (_ :: _ :: _ :: _), _ => rfl
--# is_other_cell
def othD : PyData → Bool
  | .none => true
  | .tuple [a, b] => cntD a && cntD b
  | _ => false
theorem oth_no {d : PyData} (h : pairD d = false) (h2 : nonD d = false) : othD d = false := by
  match d, h, h2 with
  | .none, _, h2 => cases h2
  | .bool _, _, _ => rfl
  | .int _, _, _ => rfl
  | .str _, _, _ => rfl
  | .list _, _, _ => rfl
  | .dict _, _, _ => rfl
  | .tuple [], _, _ => rfl
  | .tuple [_], _, _ => rfl
  | .tuple [_, _], h, _ => cases h
  | .tuple (_ :: _ :: _ :: _), _, _ => rfl
def spOthG : Sp := fun vs H Q _ => ∃ (v : V) (d : PyData), vs = [v] ∧ Gn H v d ∧ Q (.bl (othD d)) H
--# is_row
def rowR : List PyData → Bool
  | [] => false
  | c :: r => srcD c && (r.map othD).all id
def rowD (n : Nat) : PyData → Bool
  | .list ds => decide (ds.length = n + 1) && rowR ds
  | _ => false
theorem cut1 (xs : List V) : cutV xs (some 1) none = xs.drop 1 := by
  unfold cutV
  rw [show HT.sIx xs.length 0 (some 1) = min 1 xs.length from HT.sIx_nat xs.length 0 1, HT.sIx_none]
  cases xs with
  | nil => rfl
  | cons x r =>
    rw [show min 1 (x :: r).length = 1 by
      rw [List.length_cons]
      omega]
    show (List.take ((x :: r).length - 1) r) = r
    rw [List.length_cons, Nat.add_sub_cancel]
    exact List.take_length
def spRowG : Sp := fun vs H Q _ => ∃ (a : Addr) (fr : List Int) (v : V) (d : PyData), vs = [.ref a, v] ∧ LsAt H a fr ∧ fr.length ≤ 1000 ∧ Gn H v d ∧ ∀ H', Same H H' → Q (.bl (rowD fr.length d)) H'
--# is_hands
def hanD : PyData → Bool
  | .int i => decide (1 ≤ i) && decide (i ≤ 4)
  | _ => false
def spHandsG : Sp := fun vs H Q _ => ∃ (v : V) (d : PyData), vs = [v] ∧ Gn H v d ∧ Q (.bl (hanD d)) H
theorem c_is_handsG {P : Program} {w : World} {K : PySem.W.Frag} {mg : Str → Option Value} {base : Heap} (T : Tx K mg) : C8.Cal P w K mg base 2 "is_hands" (spHandsG) [] := by
  refine calD T.F_is_hands T.g_is_hands (fun _ _ _ _ _ _ us hl => match us, hl with | [_], _ => rfl) sc_is_hands (fun vs H Q E h => ?_) (fun cdv A outer s H vs Q E hr h => ?_)
  · obtain ⟨v, d, rfl, _⟩ := h
    rfl
  · obtain ⟨v, d, rfl, hg, q⟩ := h
    refine ⟨_, (pss_one (ps_ret (pe_and (C8.pe_c (c_is_number T) hr (by decide) rfl (pa_cons (pv 0) pa_nil)) (pe_one (pe_chain op_le op_le pe_int (pv 0) (pe_glob (v := .int 4) rfl (T.g_MOST_HANDS).choose_spec ⟨_, rfl⟩)))))), ?_⟩
    refine ⟨_, rfl, v, _, isInt d, isBo d, rfl, gn_ty hg, ki_int d, ki_bo d, (isInt d && !isBo d), rfl, ?_⟩
    cases hg with
    | int i =>
      refine iteT ⟨_, rfl, _, _, rfl, rfl, decide (1 ≤ i), rfl, ?_⟩
      have e : hanD (.int i) = (decide (1 ≤ i) && decide (i ≤ 4)) := rfl
      rw [e] at q
      cases h : decide (1 ≤ i) with
      | false =>
        rw [h] at q
        exact iteF q
      | true =>
        rw [h] at q
        exact iteT ⟨_, _, rfl, rfl, q⟩
    | non => exact iteF q
    | bl b => exact iteF q
    | str x => exact iteF q
    | lst _ _ => exact iteF q
    | tup _ _ => exact iteF q
    | dct _ => exact iteF q
--# is_old_one
def inOld : PyData → PyData → Bool
  | .int i, .int j => decide (i < 6) && decide (0 < j)
  | _, _ => false
def oldOneD (n : Nat) : PyData → Bool
  | .tuple [a, b] => cntD a && (tonD n b && inOld a b)
  | _ => false
theorem one_no {n : Nat} {d : PyData} (h : pairD d = false) : oldOneD n d = false := by
  match d, h with
  | .none, _ => rfl
  | .bool _, _ => rfl
  | .int _, _ => rfl
  | .str _, _ => rfl
  | .list _, _ => rfl
  | .dict _, _ => rfl
  | .tuple [], _ => rfl
  | .tuple [_], _ => rfl
  | .tuple [_, _], h => cases h
  | .tuple (_ :: _ :: _ :: _), _ => rfl
def spOldOneG : Sp := fun vs H Q _ => ∃ (a : Addr) (fr : List Int) (v : V) (d : PyData), vs = [.ref a, v] ∧ LsAt H a fr ∧ Gn H v d ∧ Q (.bl (oldOneD fr.length d)) H
theorem c_is_old_oneG {P : Program} {w : World} {K : PySem.W.Frag} {mg : Str → Option Value} {base : Heap} (T : Tx K mg) : C8.Cal P w K mg base 4 "is_old_one" (spOldOneG) [] := by
  refine calD T.F_is_old_one T.g_is_old_one (fun _ _ _ _ _ _ us hl => match us, hl with | [_, _], _ => rfl) sc_is_old_one (fun vs H Q E h => ?_) (fun cdv A outer s H vs Q E hr h => ?_)
  · obtain ⟨a, fr, v, d, rfl, _⟩ := h
    rfl
  · obtain ⟨a, fr, v, d, rfl, ha, hg, q⟩ := h
    refine ⟨_, (pss_cons (ps_if (PW.pt (pw_or (pt_not (pt_val (C8.pe_c (c_is_pairG T) hr (by decide) rfl (pa_cons (pv 1) pa_nil)))) (pw_or (pt_not (pt_val (C8.pe_c (c_is_countG T) hr (by decide) rfl (pa_cons (pe_ix ix_tup (pv 1) pe_int (fun _ _ => rfl)) pa_nil)))) (pw_or1 (pt_not (pt_val (C8.pe_c (c_is_tongueG T) hr (by decide) rfl (pa_cons (pv 0) (pa_cons (pe_ix ix_tup (pv 1) pe_int (fun _ _ => rfl)) pa_nil)))))))))
      (pss_one (ps_ret pe_bl))
      pss_nil)
    (pss_one (ps_ret (pe_and (pe_cmpR op_lt (pe_ix ix_tup (pv 1) pe_int (fun _ _ => rfl)) (pe_glob (v := .int 6) rfl (T.g_MOST_PHRASES).choose_spec ⟨_, rfl⟩) (nomark _)) (pe_one (pe_cmpR op_gt (pe_ix ix_tup (pv 1) pe_int (fun _ _ => rfl)) pe_int (nomark _))))))), ?_⟩
    refine ⟨_, rfl, v, d, rfl, hg, pairD d, rfl, ?_⟩
    cases hp : pairD d with
    | false =>
      rw [one_no hp] at q
      exact iteT q
    | true =>
      obtain ⟨a0, b0, rfl⟩ := pair_of hp
      have e : oldOneD fr.length (.tuple [a0, b0]) = (cntD a0 && (tonD fr.length b0 && inOld a0 b0)) := rfl
      rw [e] at q
      cases hg with
      | @tup t xs _ h r =>
        obtain ⟨x, y, rfl, g1, g2⟩ := r.two
        refine iteF ⟨_, rfl, t, _, _, x, rfl, rfl, SqT.of h, atI_nat (j := 0) rfl, x, a0, rfl, g1, cntD a0, rfl, ?_⟩
        cases hc : cntD a0 with
        | false =>
          rw [hc] at q
          exact iteT q
        | true =>
          rw [hc] at q
          refine iteF ⟨_, rfl, _, rfl, t, _, _, y, rfl, rfl, SqT.of h, atI_nat (j := 1) rfl, a, fr, y, b0, rfl, ha, g2, tonD fr.length b0, rfl, ?_⟩
          cases ht : tonD fr.length b0 with
          | false =>
            rw [ht] at q
            exact iteT q
          | true =>
            rw [ht] at q
            refine iteF ?_
            cases g1 with
            | int i =>
              cases g2 with
              | int j =>
                refine ⟨_, rfl, t, _, _, _, rfl, rfl, SqT.of h, atI_nat (j := 0) rfl, _, _, rfl, rfl, decide (i < 6), rfl, ?_⟩
                have e3 : inOld (.int i) (.int j) = (decide (i < 6) && decide (0 < j)) := rfl
                rw [e3] at q
                cases h6 : decide (i < 6) with
                | false =>
                  rw [h6] at q
                  exact iteF q
                | true =>
                  rw [h6] at q
                  exact iteT ⟨_, rfl, t, _, _, _, rfl, rfl, SqT.of h, atI_nat (j := 1) rfl, _, _, rfl, rfl, q⟩
              | _ => cases ht
            | _ => cases hc
--# is_old
def oldLs (n : Nat) : PyData → List Bool
  | .list ds => ds.map (oldOneD n)
  | _ => [false]
def prD (q : Pr) : PyData := .tuple [.int q.1, .int q.2]
/-- a list of which some is no old one, or of old ones that don't rise -/
def OldBad (n : Nat) (d : PyData) : Prop := (oldLs n d).length ≤ 5000 ∧ ((oldLs n d).all id = false ∨ ∃ ps : List Pr, d = .list (ps.map prD) ∧ (oldLs n d).all id = true ∧ (List.zipWith ltPr ps (ps.drop 1)).all id = false)
theorem prs_gn {H : Hp} : ∀ {xs : List V} {ps : List Pr}, GnAll H xs (ps.map prD) → Prs H xs ps
  | _, [], h => by
    cases h
    exact All2.nil
  | _, p :: ps, h => by
    cases h with
    | cons g r =>
      refine All2.cons ?_ (prs_gn r)
      cases g with
      | tup e t =>
        obtain ⟨x, y, rfl, g1, g2⟩ := t.two
        cases g1
        cases g2
        exact ⟨_, rfl, e⟩
def spOldG : Sp := fun vs H Q _ => ∃ (a : Addr) (fr : List Int) (v : V) (d : PyData), vs = [.ref a, v] ∧ LsAt H a fr ∧ Gn H v d ∧ OldBad fr.length d ∧ ∀ H', Same H H' → Q (.bl false) H'
theorem c_is_oldG {P : Program} {w : World} {K : PySem.W.Frag} {mg : Str → Option Value} {base : Heap} (T : Tx K mg) : C8.Cal P w K mg base 5 "is_old" (spOldG) [] := by
  refine calD T.F_is_old T.g_is_old (fun _ _ _ _ _ _ us hl => match us, hl with | [_, _], _ => rfl) sc_is_old (fun vs H Q E h => ?_) (fun cdv A outer s H vs Q E hr h => ?_)
  · obtain ⟨a, fr, v, d, rfl, _⟩ := h
    rfl
  · obtain ⟨a, fr, v, d, rfl, ha, hg, hb, q⟩ := h
    refine ⟨_, (pss_cons (ps_if (PW.pt (pw_or (pt_not (pt_val (pe_callB call_isi (by rfl) T.f_isinstance (by decide +kernel) (pa_cons (pv 1) (pa_cons (pe_bltn (v := .ty "list") (by rfl) T.f_list (by decide +kernel) rfl) pa_nil))))) (pw_or1 (pt_not (pt_val (pe_callB (cr_all rfl) (by rfl) T.f_all (by decide +kernel) (pa_cons (pe_lc (own := [("pair", 2)]) (g := gName 2) (tt := tYes) (by rfl) sc_is_old.nd (pi_list (pv 1)) (blkOk_by (own := [("pair", 2)]) (N := ["froms", "value", "pair", "following"]) (sc := defScope s_is_old) (by decide +kernel)) (fun _ _ _ _ _ => (pg_name (i := 2) sc_is_old.nd rfl (Or.inl rfl))) (fun _ _ _ _ _ => pts_nil) (fun _ _ _ _ _ => (C8.pe_c (c_is_old_oneG (P := P) (w := w) (K := K) (mg := mg) (base := base) T) hr (by decide) rfl (pa_cons (pv 0) (pa_cons (pv 2) pa_nil))))) pa_nil)))))))
      (pss_one (ps_ret pe_bl))
      pss_nil)
    (pss_one (ps_ret (pe_callB (cr_all rfl) (by rfl) T.f_all (by decide +kernel) (pa_cons (pe_lc (own := [("pair", 2), ("following", 3)]) (g := gTup K 2 (gCons (gName 2) (gCons (gName 3) (gNil)))) (tt := tYes) (by rfl) sc_is_old.nd (pi_zip (by rfl) T.f_zip (pa_cons (pv 1) (pa_cons (pe_slice sl_list (pv 1) (po_some pe_int) po_none) pa_nil))) (blkOk_by (own := [("pair", 2), ("following", 3)]) (N := ["froms", "value", "pair", "following"]) (sc := defScope s_is_old) (by decide +kernel)) (fun _ _ _ _ _ => (pg_tup rfl (pgs_cons (pg_name (i := 2) sc_is_old.nd rfl (Or.inl rfl) (Or.inr rfl)) (pgs_cons (pg_name (i := 3) sc_is_old.nd rfl (Or.inl rfl) (Or.inr rfl)) pgs_nil)))) (fun _ _ _ _ _ => pts_nil) (fun _ _ _ _ _ => (pe_cmpR (op_ltP hr.units0) (pv 2) (pv 3) (nomark _)))) pa_nil))))), ?_⟩
    have q0 := q H (Same.refl _)
    obtain ⟨hn, hb⟩ := hb
    refine ⟨_, rfl, _, _, _, _, isLs d, rfl, .ty _, gn_ty hg, ki_ls d, isLs d, rfl, ?_⟩
    cases hg with
    | @lst t xs ds h r =>
      have ln := r.len
      have hn' : ds.length ≤ 5000 := by
        have z := hn
        rw [show oldLs fr.length (.list ds) = ds.map (oldOneD fr.length) from rfl, List.length_map] at z
        exact z
      refine iteF ⟨_, rfl, t, rfl, ⟨_, SqL.of h⟩, fun D nD => ?_⟩
      refine lc_list (K := K) (a := t) (xs := xs) (fun i H1 => Same H H1 ∧ H1 D = some (.lst (((ds.map (oldOneD fr.length)).take i).map V.bl))) ⟨same_upd nD, upd_same⟩ (fun i H1 _ z => SqL.of (z.1 _ _ h)) ?_ ?_
      · rintro i y H1 hy ⟨s1, hD⟩
        obtain ⟨d, ed, gd⟩ := r.get hy
        have li := (List.getElem?_eq_some_iff.mp hy).1
        refine ⟨rfl, _, rfl, _, rfl, a, fr, y, d, rfl, ha.same s1, gd.same s1, _, hD, ?_, Same.chg s1 nD, ?_⟩
        · rw [List.length_map, List.length_take]
          exact small5000 (by omega)
        · rw [upd_same, List.take_add_one, List.getElem?_map, ed, List.map_append]
          rfl
      · rintro H1 ⟨s1, hD⟩
        have lt : (ds.map (oldOneD fr.length)).length = xs.length := by rw [List.length_map, ln]
        rw [← lt, List.take_length] at hD
        refine ⟨D, _, rfl, SqL.of hD, _, rfl, ?_⟩
        rcases hb with hb | ⟨ps, e, hb, hz⟩
        · rw [show (ds.map (oldOneD fr.length)).all id = false from hb]
          exact iteT (q _ s1)
        rw [show (ds.map (oldOneD fr.length)).all id = true from hb]
        refine iteF ?_
        have e' : ds = ps.map prD := PyData.list.inj e
        subst e'
        have hps := prs_gn r
        have len := hps.len
        rw [List.length_map] at hn'
        refine ⟨_, rfl, _, rfl, _, rfl, t, xs, rfl, SqL.of (s1 _ _ h), fun c nc => ?_⟩
        have s2 := s1.trans (same_upd nc (o := .lst (cutV xs (some 1) none)))
        have hc : upd H1 c (.lst (cutV xs (some 1) none)) c = some (.lst (xs.drop 1)) := by rw [upd_same, cut1]
        generalize upd H1 c (.lst (cutV xs (some 1) none)) = H2 at s2 hc ⊢
        refine ⟨t, c, xs, xs.drop 1, rfl, SqL.of (s2 _ _ h), SqL.of hc, fun D2 nD2 => ?_⟩
        have ncD : c ≠ D2 := ne_of_none hc nD2
        have lz : (List.zipWith ltPr ps (ps.drop 1)).length = xs.length - 1 := by
          rw [List.length_zipWith, List.length_drop]
          omega
        refine lc_it (walk_zip (K := K) (a := t) (b := c) (xs := xs) (ys := xs.drop 1) (n := xs.length - 1) (by rw [List.length_drop]; omega)) (fun i H3 => Same H2 H3 ∧ H3 D2 = some (.lst (((List.zipWith ltPr ps (ps.drop 1)).take i).map V.bl))) ⟨same_upd nD2, upd_same⟩ (fun i H3 _ z => ⟨SqL.of (z.1 _ _ (s2 _ _ h)), SqL.of (z.1 _ _ hc)⟩) ?_ ?_
        · rintro i v H3 H4 hi ⟨s3, hD2⟩ ⟨U, x, y, rfl, nU, rfl, e1, e2⟩
          have e1 : xs[i]? = some x := e1
          have e2 : (xs.drop 1)[i]? = some y := e2
          rw [List.getElem?_drop, Nat.add_comm] at e2
          obtain ⟨p, ep, u, rfl, hu⟩ := hps.at e1
          obtain ⟨q, eq, t2, rfl, ht⟩ := hps.at e2
          have sU : Same H3 (upd H3 U (.tup [V.ref u, V.ref t2])) := same_upd nU
          have s4 := (s2.trans s3).trans sU
          have ez : (List.zipWith ltPr ps (ps.drop 1))[i]? = some (ltPr p q) := by
            rw [List.getElem?_zipWith, ep, List.getElem?_drop, Nat.add_comm, eq]
          refine ⟨U, _, rfl, .inl (.inl upd_same), rfl, _, _, rfl, _, _, rfl, rfl, rfl, ?_⟩
          refine ⟨_, rfl, _, rfl, u, t2, p, q, rfl, rfl, s4 _ _ hu, s4 _ _ ht, _, sU _ _ hD2, ?_, Same.chg (s3.trans sU) nD2, ?_⟩
          · rw [List.length_map, List.length_take]
            exact small5000 (by omega)
          · rw [upd_same, List.take_add_one, ez, List.map_append]
            rfl
        · rintro H3 ⟨s3, hD2⟩
          rw [← lz, List.take_length] at hD2
          exact ⟨D2, _, rfl, SqL.of hD2, qt hz (q _ (s2.trans s3))⟩
    | non => exact iteT q0
    | bl b => exact iteT q0
    | int i => exact iteT q0
    | str x => exact iteT q0
    | tup _ _ => exact iteT q0
    | dct _ => exact iteT q0

end PD

namespace PD
open PySem PySem.Spec PyProof.Rows L2

/-! Phrasedesk: the law's lists of what is refused -/
open LamX NdefX
--# data in the making
open Classical in
/-- the heap without P -/
noncomputable def off (P : Addr → Prop) (H : Hp) : Hp := fun b => if P b then none else H b
theorem off_ne {P : Addr → Prop} {b : Addr} {H : Hp} (h : ¬ P b) : off P H b = H b := if_neg h
theorem off_pos {P : Addr → Prop} {b : Addr} {H : Hp} (h : P b) : off P H b = none := if_pos h
theorem off_upd {a : Addr} {H : Hp} {o : HO} : off (· = a) (upd H a o) = off (· = a) H := by
  funext b
  by_cases h : b = a
  · rw [off_pos (P := (· = a)) h, off_pos (P := (· = a)) h]
  · rw [off_ne (P := (· = a)) h, off_ne (P := (· = a)) h, upd_ne h]
theorem off_some {P : Addr → Prop} {b : Addr} {H : Hp} {o : HO} (h : off P H b = some o) : H b = some o ∧ ¬ P b := by
  by_cases e : P b
  · rw [off_pos e] at h
    cases h
  · rw [off_ne e] at h
    exact ⟨h, e⟩
theorem offs_same {P : Addr → Prop} {H H' : Hp} (s : Same H H') : Same (off P H) (off P H') := fun b o h => by
  obtain ⟨h1, h2⟩ := off_some h
  rw [off_ne h2]
  exact s _ _ h1
theorem off_in {P : Addr → Prop} {H : Hp} : Same (off P H) H := fun _ _ h => (off_some h).1
theorem off_none {P : Addr → Prop} {H : Hp} (h : ∀ a, P a → H a = none) : Same H (off P H) := fun b o e => by
  rw [off_ne fun z => by
    rw [h b z] at e
    cases e]
  exact e
/-- the list at a is ds, and no item of it reaches a -/
def GL (H : Hp) (a : Addr) (ds : List PyData) : Prop := ∃ vs, H a = some (.lst vs) ∧ GnAll (off (· = a) H) vs ds
theorem GL.same {H H' : Hp} {a : Addr} {ds : List PyData} (s : Same H H') (h : GL H a ds) : GL H' a ds := let ⟨vs, e, r⟩ := h; ⟨vs, s _ _ e, r.same (offs_same s)⟩
theorem GL.gn {H : Hp} {a : Addr} {ds : List PyData} (h : GL H a ds) : Gn H (.ref a) (.list ds) := let ⟨_, e, r⟩ := h; .lst e (r.same off_in)
theorem GL.all {H : Hp} {a : Addr} {ds : List PyData} (h : GL H a ds) : ∃ vs, H a = some (.lst vs) ∧ GnAll H vs ds := let ⟨vs, e, r⟩ := h; ⟨vs, e, r.same off_in⟩
theorem GL.new {H : Hp} {a : Addr} {vs : List V} {ds : List PyData} (n : H a = none) (h : GnAll H vs ds) : GL (upd H a (.lst vs)) a ds := ⟨vs, upd_same, by rw [off_upd]; exact h.same (off_none fun b e => by rw [e]; exact n)⟩
theorem GnAll.app {H : Hp} : ∀ {vs ws : List V} {ds es : List PyData}, GnAll H vs ds → GnAll H ws es → GnAll H (vs ++ ws) (ds ++ es)
  | _, _, _, _, .nil, h => h
  | _, _, _, _, .cons a r, h => .cons a (r.app h)
theorem GnAll.flat {H : Hp} {vs : List V} {ds : List PyData} (g : GnAll H vs ds) : ∀ n, GnAll H (List.replicate n vs).flatten (List.replicate n ds).flatten
  | 0 => .nil
  | n + 1 => by
    rw [List.replicate_succ, List.replicate_succ, List.flatten_cons, List.flatten_cons]
    exact g.app (GnAll.flat g n)
theorem GL.snoc {H : Hp} {a : Addr} {vs : List V} {v : V} {ds : List PyData} {d : PyData} (e : H a = some (.lst vs)) (h : GL H a ds) (g : Gn (off (· = a) H) v d) : GL (upd H a (.lst (vs ++ [v]))) a (ds ++ [d]) := by
  obtain ⟨us, e', r⟩ := h
  rw [e] at e'
  cases e'
  exact ⟨_, upd_same, by rw [off_upd]; exact r.app (.cons g .nil)⟩
/-- the term gives d, which reaches nothing of P -/
def DT (P : Addr → Prop) (t : TE) (σ : L2.St) (G : Hp) (d : PyData) : Prop := ∀ (H : Hp) (Q : VK), (∀ b, P b → G b ≠ none) → Same G H → (∀ H' v, Same H H' → Gn (off P H') v d → Q v H') → t σ H Q
def DG (P : Addr → Prop) (t : TA) (σ : L2.St) (G : Hp) (ds : List PyData) : Prop := ∀ (H : Hp) (Q : List V → Hp → Prop), (∀ b, P b → G b ≠ none) → Same G H → (∀ H' vs, Same H H' → GnAll (off P H') vs ds → Q vs H') → t σ H Q
/-- the term gives a new list -/
def DL (t : TE) (σ : L2.St) (G : Hp) (ds : List PyData) : Prop := ∀ (H : Hp) (Q : VK), Same G H → (∀ H' a, Same H H' → H a = none → GL H' a ds → Q (.ref a) H') → t σ H Q
abbrev P0 : Addr → Prop := fun _ => False
theorem p0 {G : Hp} : ∀ b, P0 b → G b ≠ none := fun _ h => h.elim
theorem gn_p0 {H : Hp} {v : V} {d : PyData} (h : Gn H v d) : Gn (off P0 H) v d := h.same (off_none fun _ h => h.elim)
theorem gna_p0 {H : Hp} {v : List V} {d : List PyData} (h : GnAll H v d) : GnAll (off P0 H) v d := h.same (off_none fun _ h => h.elim)
section
variable {P : Addr → Prop} {σ : L2.St} {G : Hp} {t ta tb : TE} {ts : TA} {d : PyData} {ds es : List PyData}
theorem fresh_p {H : Hp} {p : Addr} (hp : ∀ b, P b → G b ≠ none) (s : Same G H) (n : H p = none) : ¬ P p := fun h => by
  cases e : G p with
  | none => exact hp p h e
  | some o =>
    rw [s _ _ e] at n
    cases n
theorem DT.non : DT P (tC V.non) σ G .none := fun H Q _ _ k => k H _ (Same.refl _) .non
theorem DT.bl (b : Bool) : DT P (tC (V.bl b)) σ G (.bool b) := fun H Q _ _ k => k H _ (Same.refl _) (.bl b)
theorem DT.int (i : Int) : DT P (tC (V.int i)) σ G (.int i) := fun H Q _ _ k => k H _ (Same.refl _) (.int i)
theorem DT.str (x : Str) : DT P (tC (V.str x)) σ G (.str x) := fun H Q _ _ k => k H _ (Same.refl _) (.str x)
theorem DT.dnew : DT P tDNewK σ G (.dict []) := fun H Q hp s k p np => k _ _ (same_upd np) (.dct (by rw [off_ne (fresh_p hp s np)]; exact upd_same))
theorem DT.var {i : Nat} {v : V} (e : σ[i]? = some (some v)) (g : Gn (off P G) v d) : DT P (tVar i) σ G d := fun H Q _ s k => ⟨v, e, k H v (Same.refl _) (g.same (offs_same s))⟩
theorem DG.nil : DG P tNil σ G [] := fun H Q _ _ k => k H _ (Same.refl _) .nil
theorem DG.cons (h : DT P t σ G d) (r : DG P ts σ G ds) : DG P (tCons t ts) σ G (d :: ds) := fun H Q hp s k => h H _ hp s fun H1 v s1 g => r H1 _ hp (s.trans s1) fun H2 vs s2 gs => k H2 (v :: vs) (s1.trans s2) (.cons (g.same (offs_same s2)) gs)
theorem DT.lst (r : DG P ts σ G ds) (hl : ds.length ≤ 5000) : DT P (tLst ts) σ G (.list ds) := fun H Q hp s k => r H _ hp s fun H1 vs s1 gs => ⟨by rw [gs.len]; exact Nat.le_of_lt (small5000 hl), fun p np => k _ _ (s1.trans (same_upd np)) (.lst (by rw [off_ne (fresh_p hp (s.trans s1) np)]; exact upd_same) (gs.same (offs_same (same_upd np))))⟩
theorem DT.tup (r : DG P ts σ G ds) (hl : ds.length ≤ 5000) : DT P (tTup ts) σ G (.tuple ds) := fun H Q hp s k => r H _ hp s fun H1 vs s1 gs => ⟨by rw [gs.len]; exact Nat.le_of_lt (small5000 hl), fun p np => k _ _ (s1.trans (same_upd np)) (.tup (by rw [off_ne (fresh_p hp (s.trans s1) np)]; exact upd_same) (gs.same (offs_same (same_upd np))))⟩
theorem DT.op0 {f : Int → Int → Int} {i j : Int} (ha : DT P ta σ G (.int i)) (hb : DT P tb σ G (.int j)) : DT P (tOp (rI0 fun i j => V.int (f i j)) ta tb) σ G (.int (f i j)) := fun H Q hp s k => ha H _ hp s fun H1 v s1 g => hb H1 _ hp (s.trans s1) fun H2 w s2 g2 => by
  cases g
  cases g2
  exact ⟨i, j, rfl, rfl, k H2 _ (s1.trans s2) (.int _)⟩
theorem DT.opC {C : Int → Int → Prop} {f : Int → Int → Int} {i j : Int} (ha : DT P ta σ G (.int i)) (hb : DT P tb σ G (.int j)) (c : C i j) : DT P (tOp (rI C fun i j => V.int (f i j)) ta tb) σ G (.int (f i j)) := fun H Q hp s k => ha H _ hp s fun H1 v s1 g => hb H1 _ hp (s.trans s1) fun H2 w s2 g2 => by
  cases g
  cases g2
  exact ⟨i, j, rfl, rfl, c, k H2 _ (s1.trans s2) (.int _)⟩
theorem DT.un {f : Int → Int} {i : Int} (ha : DT P ta σ G (.int i)) : DT P (tUn (rU fun i => V.int (f i)) ta) σ G (.int (f i)) := fun H Q hp s k => ha H _ hp s fun H1 v s1 g => by
  cases g
  exact ⟨i, rfl, k H1 _ s1 (.int _)⟩
theorem DT.cat (ha : DT P ta σ G (.list ds)) (hb : DT P tb σ G (.list es)) (hl : ds.length + es.length ≤ 5000) : DT P (tOp rCat ta tb) σ G (.list (ds ++ es)) := fun H Q hp s k => ha H _ hp s fun H1 v s1 g => hb H1 _ hp (s.trans s1) fun H2 w s2 g2 => by
  have g' := g.same (offs_same s2)
  cases g' with
  | @lst l xs _ h r =>
    cases g2 with
    | @lst b ys _ h2 r2 =>
      have l1 := r.len
      have l2 := r2.len
      refine ⟨l, b, xs, ys, rfl, rfl, off_in _ _ h, off_in _ _ h2, Nat.le_of_lt (small5000 (by omega)), fun p np => k _ _ ((s1.trans s2).trans (same_upd np)) ?_⟩
      exact .lst (by rw [off_ne (fresh_p hp ((s.trans s1).trans s2) np)]; exact upd_same) ((r.app r2).same (offs_same (same_upd np)))
theorem DT.rep {n : Int} (ha : DT P ta σ G (.list ds)) (hb : DT P tb σ G (.int n)) (h0 : -5000 ≤ n) (h1 : n ≤ 5000) (hl : ds.length * n.toNat ≤ 5000) : DT P (tOp rRep ta tb) σ G (.list (List.replicate n.toNat ds).flatten) := fun H Q hp s k => ha H _ hp s fun H1 v s1 g => hb H1 _ hp (s.trans s1) fun H2 w s2 g2 => by
  have g' := g.same (offs_same s2)
  cases g2
  cases g' with
  | @lst l xs _ h r =>
    have l1 := r.len
    refine ⟨l, n, xs, rfl, rfl, off_in _ _ h, by omega, by omega, Nat.le_of_lt (small5000 (by rw [l1]; exact hl)), fun p np => k _ _ ((s1.trans s2).trans (same_upd np)) ?_⟩
    exact .lst (by rw [off_ne (fresh_p hp ((s.trans s1).trans s2) np)]; exact upd_same) ((r.flat _).same (offs_same (same_upd np)))
theorem DL.lst (r : DG P0 ts σ G ds) (hl : ds.length ≤ 5000) : DL (tLst ts) σ G ds := fun H Q s k => r H _ p0 s fun H1 vs s1 gs => ⟨by rw [gs.len]; exact Nat.le_of_lt (small5000 hl), fun p np => k _ _ (s1.trans (same_upd np)) (s1.free np) (GL.new np (gs.same off_in))⟩
theorem DL.cat (ha : DT P0 ta σ G (.list ds)) (hb : DT P0 tb σ G (.list es)) (hl : ds.length + es.length ≤ 5000) : DL (tOp rCat ta tb) σ G (ds ++ es) := fun H Q s k => ha H _ p0 s fun H1 v s1 g => hb H1 _ p0 (s.trans s1) fun H2 w s2 g2 => by
  have g' := g.same (offs_same s2)
  cases g' with
  | @lst l xs _ h r =>
    cases g2 with
    | @lst b ys _ h2 r2 =>
      have l1 := r.len
      have l2 := r2.len
      exact ⟨l, b, xs, ys, rfl, rfl, off_in _ _ h, off_in _ _ h2, Nat.le_of_lt (small5000 (by omega)), fun p np => k _ _ ((s1.trans s2).trans (same_upd np)) ((s1.trans s2).free np) (GL.new np ((r.app r2).same off_in))⟩
theorem DL.use {H : Hp} {Q : VK} (h : DL t σ H ds) (k : ∀ H' a, Same H H' → H a = none → GL H' a ds → Q (.ref a) H') : t σ H Q := h H Q (Same.refl _) k
theorem DL.ret {H : Hp} {D : Ends} (h : DL t σ H ds) (k : ∀ H' a, Same H H' → H a = none → GL H' a ds → D.rt (.ref a) H') : tRet t D σ H := h H _ (Same.refl _) k
theorem DL.asgN {H : Hp} {D : Ends} {i : Nat} (h : DL t σ H ds) (k : ∀ H' a, Same H H' → H a = none → GL H' a ds → D.nx (σ.set i (some (.ref a))) H') : tAsg t (gName i) D σ H := h H _ (Same.refl _) k
theorem DL.asg {H : Hp} {D : Ends} {i : Nat} {b : TS} (h : DL t σ H ds) (k : ∀ H' a, Same H H' → H a = none → GL H' a ds → b D (σ.set i (some (.ref a))) H') : tSeq (tAsg t (gName i)) b D σ H := h H _ (Same.refl _) k
/-- a comprehension's item is laid -/
theorem lc_snoc {H0 H1 : Hp} {D : Addr} {N : Hp → Prop} (n0 : H0 D = none) (s : Same H0 H1) (gD : GL H1 D es) (h : DT (· = D) t σ H1 d) (hl : es.length ≤ 5000) (k : ∀ H2, Same H0 H2 → GL H2 D (es ++ [d]) → N H2) : t σ H1 (fun y H4 => ∃ acc, H4 D = some (.lst acc) ∧ acc.length < sizeLine ∧ N (upd H4 D (.lst (acc ++ [y])))) := by
  have e := gD
  obtain ⟨vs, hD, r⟩ := e
  refine h H1 _ (fun b hb => by rw [hb, hD]; exact fun z => nomatch z) (Same.refl _) fun H2 v s2 g2 => ⟨vs, s2 _ _ hD, by rw [r.len]; exact small5000 hl, k _ (Same.chg (s.trans s2) n0) ((gD.same s2).snoc (s2 _ _ hD) g2)⟩
theorem lc_snocY {H0 H1 : Hp} {D : Addr} (N : Hp → Prop) {R : Hp → Prop} (n0 : H0 D = none) (s : Same H0 H1) (gD : GL H1 D es) (h : DT (· = D) t σ H1 d) (hl : es.length ≤ 5000) (k : ∀ H2, Same H0 H2 → GL H2 D (es ++ [d]) → N H2) : tYes σ H1 (fun b H3 => if b = true then t σ H3 (fun y H4 => ∃ acc, H4 D = some (.lst acc) ∧ acc.length < sizeLine ∧ N (upd H4 D (.lst (acc ++ [y])))) else R H3) := lc_snoc n0 s gD h hl k
theorem DT.use {H : Hp} {Q : VK} (h : DT P0 t σ H d) (k : ∀ H' v, Same H H' → Gn H' v d → Q v H') : t σ H Q := h H Q p0 (Same.refl _) fun H' v s g => k H' v s (g.same off_in)
end
--# _law_strange
def strD (far : Int) : List PyData := [.none, .str "1", .bool true, .bool false, .list [.int 1], .tuple [.int 1], .dict [], .int (-1), .int (-1 - far)]
def spStrange : Sp := fun vs H Q _ => ∃ far : Int, vs = [.int far] ∧ ∀ (H' : Hp) (a : Addr), Same H H' → GL H' a (strD far) → Q (.ref a) H'
theorem sc_law_strange : FnScope ["_law_far"] ["_law_far"] (defScope s_law_strange) := ⟨rfl, rfl, rfl, by decide +kernel, rfl, by decide +kernel, by decide +kernel⟩
theorem c_law_strange {P : Program} {w : World} {K : PySem.W.Frag} {mg : Str → Option Value} {base : Heap} (T : Tx K mg) : C8.Cal P w K mg base 2 "_law_strange" (spStrange) [] := by
  refine calD T.F_law_strange T.g_law_strange (fun _ _ _ _ _ _ us hl => match us, hl with | [_], _ => rfl) sc_law_strange (fun vs H Q E h => ?_) (fun cdv A outer s H vs Q E hr h => ?_)
  · obtain ⟨far, rfl, _⟩ := h
    rfl
  · obtain ⟨far, rfl, q⟩ := h
    refine ⟨_, (pss_one (ps_ret (pe_lst (pa_cons pe_non (pa_cons pe_str (pa_cons pe_bl (pa_cons pe_bl (pa_cons (pe_lst (L2.pa_cons pe_int L2.pa_nil)) (pa_cons (pe_tup (pa_cons pe_int pa_nil)) (pa_cons pe_dnewK (pa_cons (pe_un un_neg pe_int) (pa_cons (pe_op op_sub (pe_un un_neg pe_int) (pv 0)) pa_nil)))))))))))), ?_⟩
    have g : Gn (off P0 H) (V.int far) (.int far) := .int _
    refine DL.ret (ds := strD far) ?_ fun H' a s _ gl => q H' a s gl
    unfold strD
    (repeat' (first | exact DG.nil | exact DT.non | exact DT.bl _ | exact DT.int _ | exact DT.str _ | exact DT.dnew | refine DG.cons ?_ ?_ | refine DL.lst ?_ ?_ | refine DL.cat ?_ ?_ ?_ | refine DT.lst ?_ ?_ | refine DT.tup ?_ ?_ | refine DT.cat ?_ ?_ ?_ | refine DT.rep ?_ ?_ ?_ ?_ ?_ | refine DT.op0 ?_ ?_ | refine DT.un ?_ | refine DT.opC ?_ ?_ ?_ | (refine DT.var rfl ?_; assumption) | (show _ ≤ _; decide) | (simp only [List.length_cons, List.length_nil, List.length_append]; omega) | omega))
--# _law_no_froms
theorem str_ton {far : Int} (h0 : 0 ≤ far) {d : PyData} (h : d ∈ strD far) (n : Nat) : tonD n d = false := by
  unfold strD at h
  simp only [List.mem_cons, List.not_mem_nil, or_false] at h
  rcases h with rfl | rfl | rfl | rfl | rfl | rfl | rfl | rfl | rfl
  all_goals first | rfl | skip
  show (decide (0 ≤ -1 - far) && decide (-1 - far ≤ (n : Int))) = false
  rw [decide_eq_false (show ¬ 0 ≤ -1 - far by omega)]
  rfl
theorem frB_at {ds : List PyData} {i : Nat} {d : PyData} (h : ds[i]? = some d) (hs : tonD i d = false) : frB (.list ds) = false := by
  have e : frB (.list ds) = (decide (1 ≤ ds.length) && (decide (ds.length ≤ 7) && (frLs ds).all id)) := rfl
  have z : (frLs ds).all id = false := by
    rw [List.all_eq_false]
    exact ⟨false, List.mem_of_getElem? (i := i) (by rw [frLs_at h, hs]), by decide⟩
  rw [e, z, Bool.and_false, Bool.and_false]
theorem frB_mem {ds : List PyData} {d : PyData} (h : d ∈ ds) (hs : ∀ n, tonD n d = false) : frB (.list ds) = false := by
  obtain ⟨i, hi⟩ := List.getElem?_of_mem h
  exact frB_at hi (hs i)
theorem frB_long {ds : List PyData} (h : 7 < ds.length) : frB (.list ds) = false := by
  have e : frB (.list ds) = (decide (1 ≤ ds.length) && (decide (ds.length ≤ 7) && (frLs ds).all id)) := rfl
  rw [e, decide_eq_false (show ¬ ds.length ≤ 7 by omega), Bool.false_and, Bool.and_false]
theorem flat1 (x : PyData) : ∀ n : Nat, (List.replicate n [x]).flatten.length = n
  | 0 => rfl
  | n + 1 => by
    rw [List.replicate_succ, List.flatten_cons, List.length_append, flat1 x n, List.length_cons, List.length_nil]
    omega
def AllBad (H : Hp) (a : Addr) (n : Nat) (bad : PyData → Prop) : Prop := ∃ ds, GL H a ds ∧ ds.length = n ∧ ∀ d ∈ ds, bad d
def froms0 (far : Int) : List PyData := [.none, .int 5, .str "0", .tuple [], .tuple [.int 0], .dict [], .list [], .list (List.replicate (8 : Int).toNat [PyData.int 0]).flatten, .list (List.replicate (8 + far.fmod 9).toNat [PyData.int 0]).flatten, .list [.int 1], .list [.int 0, .int 2], .list [.int 0, .int 0, .int (3 + far)]]
theorem froms0_bad {far : Int} (h0 : 0 ≤ far) : ∀ d ∈ froms0 far, frB d = false := by
  intro d h
  have m0 : 0 ≤ far.fmod 9 := Int.fmod_nonneg_of_pos _ (by decide)
  unfold froms0 at h
  simp only [List.mem_cons, List.not_mem_nil, or_false] at h
  rcases h with rfl | rfl | rfl | rfl | rfl | rfl | rfl | rfl | rfl | rfl | rfl | rfl
  · rfl
  · rfl
  · rfl
  · rfl
  · rfl
  · rfl
  · rfl
  · rfl
  · exact frB_long (by rw [flat1]; omega)
  · rfl
  · rfl
  · refine frB_at (i := 2) (d := .int (3 + far)) rfl ?_
    show (decide (0 ≤ 3 + far) && decide (3 + far ≤ 2)) = false
    rw [decide_eq_false (show ¬ 3 + far ≤ 2 by omega), Bool.and_false]
def fromsR (d : PyData) (n : Int) : PyData := .list (((List.replicate n.toNat [PyData.int 0]).flatten ++ [d]) ++ (List.replicate (6 - n).toNat [PyData.int 0]).flatten)
def spNoFroms : Sp := fun vs H Q _ => ∃ far : Int, vs = [.int far] ∧ 0 ≤ far ∧ ∀ (H' : Hp) (a : Addr), Same H H' → AllBad H' a 69 (fun d => frB d = false) → Q (.ref a) H'
theorem sc_law_no_froms : FnScope ["_law_far", "_law_found", "_law_one", "_law_many"] ["_law_far"] (defScope s_law_no_froms) := ⟨rfl, rfl, rfl, by decide +kernel, rfl, by decide +kernel, by decide +kernel⟩
theorem c_law_no_froms {P : Program} {w : World} {K : PySem.W.Frag} {mg : Str → Option Value} {base : Heap} (T : Tx K mg) : C8.Cal P w K mg base 3 "_law_no_froms" (spNoFroms) [] := by
  refine calD T.F_law_no_froms T.g_law_no_froms (fun _ _ _ _ _ _ us hl => match us, hl with | [_], _ => rfl) sc_law_no_froms (fun vs H Q E h => ?_) (fun cdv A outer s H vs Q E hr h => ?_)
  · obtain ⟨far, rfl, _⟩ := h
    rfl
  · obtain ⟨far, rfl, h0, q⟩ := h
    refine ⟨_, (pss_cons (ps_set (i := 1) sc_law_no_froms.nd rfl (Or.inl rfl) (pe_lst (pa_cons pe_non (pa_cons pe_int (pa_cons pe_str (pa_cons (pe_tup pa_nil) (pa_cons (pe_tup (pa_cons pe_int pa_nil)) (pa_cons pe_dnewK (pa_cons (pe_lst pa_nil) (pa_cons (pe_op op_rep (pe_lst (pa_cons pe_int pa_nil)) pe_int) (pa_cons (pe_op op_rep (pe_lst (pa_cons pe_int pa_nil)) (pe_op op_add pe_int (pe_op op_modN (pv 0) pe_int))) (pa_cons (pe_lst (pa_cons pe_int pa_nil)) (pa_cons (pe_lst (pa_cons pe_int (pa_cons pe_int pa_nil))) (pa_cons (pe_lst (pa_cons pe_int (pa_cons pe_int (pa_cons (pe_op op_add pe_int (pv 0)) pa_nil)))) pa_nil))))))))))))))
    (pss_cons (ps_for PassesOwn.never rfl (pi_list (C8.pe_c (c_law_strange T) hr (by decide) rfl (pa_cons (pv 0) pa_nil))) (pg_name (i := 2) sc_law_no_froms.nd rfl (Or.inr rfl))
      (pss_cons (ps_set (i := 1) sc_law_no_froms.nd rfl (Or.inl rfl) (pe_op op_cat (pv 1) (pe_lst (pa_cons (pe_lst (pa_cons (pv 2) pa_nil)) (pa_cons (pe_lst (pa_cons pe_int (pa_cons (pv 2) pa_nil))) (pa_cons (pe_lst (pa_cons pe_int (pa_cons pe_int (pa_cons (pv 2) (pa_cons pe_int pa_nil))))) pa_nil))))))
      (pss_one (ps_set (i := 1) sc_law_no_froms.nd rfl (Or.inl rfl) (pe_op op_cat (pv 1) (pe_lc (own := [("_law_many", 3)]) (g := gName 3) (tt := tYes) (by rfl) sc_law_no_froms.nd (pi_tup (pe_tup (pa_cons pe_int (pa_cons pe_int (pa_cons pe_int pa_nil))))) (blkOk_by (own := [("_law_many", 3)]) (N := ["_law_far", "_law_found", "_law_one", "_law_many"]) (sc := defScope s_law_no_froms) (by decide +kernel)) (fun _ _ _ _ _ => (pg_name (i := 3) sc_law_no_froms.nd rfl (Or.inl rfl))) (fun _ _ _ _ _ => pts_nil) (fun _ _ _ _ _ => (pe_op op_cat (pe_op op_cat (pe_op op_rep (pe_lst (pa_cons pe_int pa_nil)) (pv 3)) (pe_lst (pa_cons (pv 2) pa_nil))) (pe_op op_rep (pe_lst (pa_cons pe_int pa_nil)) (pe_op op_sub pe_int (pv 3)))))))))))
    (pss_one (ps_ret (pe_op op_cat (pv 1) (pe_lst (pa_cons (pe_lst (pa_cons pe_int (pa_cons pe_int (pa_cons pe_int (pa_cons pe_int (pa_cons pe_int (pa_cons pe_int pa_nil))))))) (pa_cons (pe_lst (pa_cons pe_int (pa_cons pe_int (pa_cons pe_int (pa_cons pe_int (pa_cons pe_int pa_nil)))))) (pa_cons (pe_lst (pa_cons pe_int (pa_cons pe_int (pa_cons pe_int (pa_cons pe_int (pa_cons pe_int (pa_cons pe_int (pa_cons pe_int pa_nil)))))))) pa_nil))))))))), ?_⟩
    have g : Gn (off P0 H) (V.int far) (.int far) := .int _
    have m0 : 0 ≤ far.fmod 9 := Int.fmod_nonneg_of_pos _ (by decide)
    have m9 : far.fmod 9 < 9 := Int.fmod_lt_of_pos _ (by decide)
    refine DL.asg (ds := froms0 far) ?_ fun H1 a s1 n1 g1 => ?_
    · unfold froms0
      (repeat' (first | exact DG.nil | exact DT.non | exact DT.bl _ | exact DT.int _ | exact DT.str _ | exact DT.dnew | refine DG.cons ?_ ?_ | refine DL.lst ?_ ?_ | refine DL.cat ?_ ?_ ?_ | refine DT.lst ?_ ?_ | refine DT.tup ?_ ?_ | refine DT.cat ?_ ?_ ?_ | refine DT.rep ?_ ?_ ?_ ?_ ?_ | refine DT.op0 ?_ ?_ | refine DT.un ?_ | refine DT.opC ?_ ?_ ?_ | (refine DT.var rfl ?_; assumption) | (show _ ≤ _; decide) | (simp only [List.length_cons, List.length_nil, List.length_append]; omega) | omega))
    refine ⟨_, rfl, far, rfl, fun H2 b s2 gb => ?_⟩
    obtain ⟨ws, hb, gws⟩ := gb.all
    have lw := gws.len
    refine ⟨b, rfl, ⟨_, SqL.of hb⟩, ?_⟩
    refine for_list (K := K) (a := b) (xs := ws) (fun i σ H3 => ∃ c ds va vb, σ = [some (.int far), some (.ref c), va, vb] ∧ Same H2 H3 ∧ GL H3 c ds ∧ ds.length = 12 + 6 * i ∧ ∀ d ∈ ds, frB d = false) ⟨a, _, none, none, rfl, Same.refl _, g1.same s2, rfl, froms0_bad h0⟩ (fun i σ H3 _ p => let ⟨_, _, _, _, _, s, _⟩ := p; SqL.of (s _ _ hb)) ?_ ?_
    · rintro i x σ H3 ex ⟨c, ds, va, vb, rfl, s3, gc, lc, bad⟩
      obtain ⟨d, ed, gx⟩ := gws.get ex
      have hi : i < 9 := by
        have z := (List.getElem?_eq_some_iff.mp ed).1
        exact z
      have hs := str_ton h0 (List.mem_of_getElem? ed)
      have gx3 := gn_p0 (gx.same s3)
      have gc3 := gn_p0 gc.gn
      refine DL.asg (ds := ds ++ [.list [d], .list [.int 0, d], .list [.int 0, .int 1, d, .int 0]]) ?_ fun H4 c2 s4 n4 g4 => ?_
      · (repeat' (first | exact DG.nil | exact DT.non | exact DT.bl _ | exact DT.int _ | exact DT.str _ | exact DT.dnew | refine DG.cons ?_ ?_ | refine DL.lst ?_ ?_ | refine DL.cat ?_ ?_ ?_ | refine DT.lst ?_ ?_ | refine DT.tup ?_ ?_ | refine DT.cat ?_ ?_ ?_ | refine DT.rep ?_ ?_ ?_ ?_ ?_ | refine DT.op0 ?_ ?_ | refine DT.un ?_ | refine DT.opC ?_ ?_ ?_ | (refine DT.var rfl ?_; assumption) | (show _ ≤ _; decide) | (simp only [List.length_cons, List.length_nil, List.length_append]; omega) | omega))
      have gx4 := gn_p0 ((gx.same s3).same s4)
      have gc4 := gn_p0 g4.gn
      refine DL.asgN (ds := (ds ++ [.list [d], .list [.int 0, d], .list [.int 0, .int 1, d, .int 0]]) ++ [4, 5, 6].map (fromsR d)) ?_ fun H5 c3 s5 n5 g5 => ⟨c3, _, _, _, rfl, s3.trans (s4.trans s5), g5, ?_, ?_⟩
      · refine DL.cat (by (repeat' (first | exact DG.nil | exact DT.non | exact DT.bl _ | exact DT.int _ | exact DT.str _ | exact DT.dnew | refine DG.cons ?_ ?_ | refine DL.lst ?_ ?_ | refine DL.cat ?_ ?_ ?_ | refine DT.lst ?_ ?_ | refine DT.tup ?_ ?_ | refine DT.cat ?_ ?_ ?_ | refine DT.rep ?_ ?_ ?_ ?_ ?_ | refine DT.op0 ?_ ?_ | refine DT.un ?_ | refine DT.opC ?_ ?_ ?_ | (refine DT.var rfl ?_; assumption) | (show _ ≤ _; decide) | (simp only [List.length_cons, List.length_nil, List.length_append]; omega) | omega))) ?_ (by simp only [List.length_cons, List.length_nil, List.length_append, List.length_map]; omega)
        intro H6 Q6 _ s6 k6
        refine ⟨(by show 3 ≤ sizeLine; decide), fun t nt => ?_⟩
        have s7 : Same H6 (upd H6 t (.tup [V.int 4, V.int 5, V.int 6])) := same_upd nt
        have h7 : (upd H6 t (.tup [V.int 4, V.int 5, V.int 6])) t = some (.tup ([4, 5, 6].map V.int)) := upd_same
        generalize upd H6 t (.tup [V.int 4, V.int 5, V.int 6]) = H7 at s7 h7 ⊢
        refine ⟨t, rfl, ⟨_, SqT.of h7⟩, fun D nD => ?_⟩
        refine lc_it (walk_tup (K := K) (a := t) (xs := [4, 5, 6].map V.int)) (fun i H8 => Same H7 H8 ∧ GL H8 D (([4, 5, 6].take i).map (fromsR d))) ⟨same_upd nD, GL.new nD .nil⟩ (fun i H8 _ w => SqT.of (w.1 _ _ h7)) ?_ ?_
        · rintro j v H8 H9 hj ⟨s8, gD⟩ ⟨rfl, ev⟩
          have hj : j < 3 := hj
          obtain ⟨n, rfl, en⟩ := ivs_of ev
          have n46 : 4 ≤ n ∧ n ≤ 6 := by
            have z := List.mem_of_getElem? en
            simp only [List.mem_cons, List.not_mem_nil, or_false] at z
            omega
          have gx7 : Gn H7 x d := gx.same (s3.trans (s4.trans (s6.trans s7)))
          have gx8 : Gn (off (· = D) H9) x d := (gx7.same (off_none (P := (· = D)) fun b (e : b = D) => e ▸ nD)).same (offs_same s8)
          have gn8 : Gn (off (· = D) H9) (.int n) (.int n) := .int _
          refine ⟨rfl, lc_snocY (fun H' => Same H7 H' ∧ GL H' D (([4, 5, 6].take (j + 1)).map (fromsR d))) nD s8 gD (d := fromsR d n) ?_ (by simp only [List.length_map, List.length_take]; omega) fun H10 s10 g10 => ⟨s10, ?_⟩⟩
          · unfold fromsR
            (repeat' (first | exact DG.nil | exact DT.non | exact DT.bl _ | exact DT.int _ | exact DT.str _ | exact DT.dnew | refine DG.cons ?_ ?_ | refine DL.lst ?_ ?_ | refine DL.cat ?_ ?_ ?_ | refine DT.lst ?_ ?_ | refine DT.tup ?_ ?_ | refine DT.cat ?_ ?_ ?_ | refine DT.rep ?_ ?_ ?_ ?_ ?_ | refine DT.op0 ?_ ?_ | refine DT.un ?_ | refine DT.opC ?_ ?_ ?_ | (refine DT.var rfl ?_; assumption) | (show _ ≤ _; decide) | (simp only [List.length_cons, List.length_nil, List.length_append]; omega) | omega))
            all_goals simp only [List.length_cons, List.length_nil, List.length_append, flat1]
            all_goals omega
          · rw [List.take_add_one, en, List.map_append]
            exact g10
        · rintro H8 ⟨s8, gD⟩
          exact k6 _ _ (s7.trans s8) (gn_p0 gD.gn)
      · simp only [List.length_cons, List.length_nil, List.length_append, List.length_map]
        omega
      · intro e he
        rw [List.mem_append, List.mem_append] at he
        rcases he with (he | he) | he
        · exact bad e he
        · simp only [List.mem_cons, List.not_mem_nil, or_false] at he
          rcases he with rfl | rfl | rfl
          · exact frB_mem (by simp) hs
          · exact frB_mem (by simp) hs
          · exact frB_mem (by simp) hs
        · obtain ⟨n, _, rfl⟩ := List.mem_map.mp he
          exact frB_mem (by simp) hs
    · rintro σ H3 ⟨c, ds, va, vb, rfl, s3, gc, lc, bad⟩
      have gc3 := gn_p0 gc.gn
      dsimp only
      refine DL.ret (ds := ds ++ [.list [.int 0, .int 1, .int 2, .int 3, .int 4, .int 6], .list [.int 0, .int 0, .int 0, .int 0, .int 5], .list [.int 0, .int 0, .int 0, .int 0, .int 0, .int 0, .int 7]]) ?_ fun H4 c2 s4 n4 g4 => ?_
      · have l9 : ws.length = 9 := lw
        (repeat' (first | exact DG.nil | exact DT.non | exact DT.bl _ | exact DT.int _ | exact DT.str _ | exact DT.dnew | refine DG.cons ?_ ?_ | refine DL.lst ?_ ?_ | refine DL.cat ?_ ?_ ?_ | refine DT.lst ?_ ?_ | refine DT.tup ?_ ?_ | refine DT.cat ?_ ?_ ?_ | refine DT.rep ?_ ?_ ?_ ?_ ?_ | refine DT.op0 ?_ ?_ | refine DT.un ?_ | refine DT.opC ?_ ?_ ?_ | (refine DT.var rfl ?_; assumption) | (show _ ≤ _; decide) | (simp only [List.length_cons, List.length_nil, List.length_append]; omega) | omega))
      refine q _ _ (s1.trans (s2.trans (s3.trans s4))) ⟨_, g4, ?_, ?_⟩
      · have l9 : ws.length = 9 := lw
        simp only [List.length_cons, List.length_nil, List.length_append]
        omega
      · intro e he
        rw [List.mem_append] at he
        rcases he with he | he
        · exact bad e he
        · simp only [List.mem_cons, List.not_mem_nil, or_false] at he
          rcases he with rfl | rfl | rfl <;> rfl

end PD

namespace PD
open PySem PySem.Spec PyProof.Rows L2

/-! Phrasedesk: the law's lists of what are no old ones -/
open LamX NdefX
--# loops over data
section
variable {K : PySem.W.Frag} {P : Addr → Prop} {σ : L2.St} {G : Hp} {t ta tb tl te : TE} {ts : TA} {d : PyData} {ds es : List PyData}
theorem DT.varI {i : Nat} {n : Int} (e : σ[i]? = some (some (.int n))) : DT P (tVar i) σ G (.int n) := DT.var e (.int n)
theorem DT.strange {far : Int} (e : σ[0]? = some (some (.int far))) : DT P0 (tCall spStrange [] C8.E0 (tCons (tVar 0) tNil)) σ G (.list (strD far)) := fun H Q _ s k => ⟨_, e, far, rfl, fun H' a s' gl => k H' _ s' (gn_p0 gl.gn)⟩
theorem cut_to (xs : List V) (h : Nat) : cutV xs none (some (h : Int)) = xs.take h := by
  unfold cutV
  rw [HT.sIx_nat, HT.sIx_none, Nat.sub_zero, List.drop_zero]
  rcases Nat.le_total h xs.length with z | z
  · rw [Nat.min_eq_left z]
  · rw [Nat.min_eq_right z, List.take_length, List.take_of_length_le z]
theorem cut_from (xs : List V) (n : Nat) : cutV xs (some (n : Int)) none = xs.drop n := by
  unfold cutV
  rw [HT.sIx_nat, HT.sIx_none]
  rcases Nat.le_total n xs.length with z | z
  · rw [Nat.min_eq_left z, List.take_of_length_le (by rw [List.length_drop]; omega)]
  · rw [Nat.min_eq_right z, Nat.sub_self, List.take_zero, List.drop_of_length_le z]
theorem GnAll.take {H : Hp} : ∀ {vs : List V} {ds : List PyData}, GnAll H vs ds → ∀ n, GnAll H (vs.take n) (ds.take n)
  | _, _, _, 0 => by
    rw [List.take_zero, List.take_zero]
    exact .nil
  | _, _, .nil, n + 1 => .nil
  | _, _, .cons a r, n + 1 => .cons a (r.take n)
theorem GnAll.drop {H : Hp} : ∀ {vs : List V} {ds : List PyData}, GnAll H vs ds → ∀ n, GnAll H (vs.drop n) (ds.drop n)
  | _, _, h, 0 => h
  | _, _, .nil, n + 1 => .nil
  | _, _, .cons a r, n + 1 => r.drop n
theorem DT.slTo {n : Int} (ha : DT P ta σ G (.list ds)) (hb : DT P tb σ G (.int n)) (h0 : 0 ≤ n) : DT P (tSl (rSlL K) ta tNoPart (tPart tb)) σ G (.list (ds.take n.toNat)) := fun H Q hp s k => ha H _ hp s fun H1 v s1 g => hb H1 _ hp (s.trans s1) fun H2 w s2 g2 => by
  have g' := g.same (offs_same s2)
  cases g2
  cases g' with
  | @lst l xs _ h r =>
    refine ⟨n, rfl, l, xs, rfl, SqL.of (off_in _ _ h), fun p np => k _ _ ((s1.trans s2).trans (same_upd np)) ?_⟩
    refine .lst (by rw [off_ne (fresh_p hp ((s.trans s1).trans s2) np)]; exact upd_same) ((?_ : GnAll (off P H2) _ _).same (offs_same (same_upd np)))
    rw [show n = ((n.toNat : Nat) : Int) by omega, cut_to]
    exact r.take _
theorem DT.slFrom {n : Int} (ha : DT P ta σ G (.list ds)) (hb : DT P tb σ G (.int n)) (h0 : 0 ≤ n) : DT P (tSl (rSlL K) ta (tPart tb) tNoPart) σ G (.list (ds.drop n.toNat)) := fun H Q hp s k => ha H _ hp s fun H1 v s1 g => hb H1 _ hp (s.trans s1) fun H2 w s2 g2 => by
  have g' := g.same (offs_same s2)
  cases g2
  cases g' with
  | @lst l xs _ h r =>
    refine ⟨n, rfl, l, xs, rfl, SqL.of (off_in _ _ h), fun p np => k _ _ ((s1.trans s2).trans (same_upd np)) ?_⟩
    refine .lst (by rw [off_ne (fresh_p hp ((s.trans s1).trans s2) np)]; exact upd_same) ((?_ : GnAll (off P H2) _ _).same (offs_same (same_upd np)))
    rw [show n = ((n.toNat : Nat) : Int) by omega, cut_from]
    exact r.drop _
theorem lc_data {j : Nat} {vsn : List Nat} (f : PyData → PyData) (hw : ∀ x, wipe ((wipe σ vsn).set j (some x)) vsn = wipe σ vsn) (h : DT P0 tl σ G (.tuple ds)) (hl : ds.length ≤ 5000)
    (ke : ∀ (x : V) (d : PyData) (D : Addr) (H : Hp), d ∈ ds → Gn (off (· = D) H) x d → (∀ v e, Gn G v e → Gn (off (· = D) H) v e) → DT (· = D) te ((wipe σ vsn).set j (some x)) H (f d)) :
    DT P0 (tLc (iTup K tl) (gName j) tYes te vsn) σ G (.list (ds.map f)) := by
  intro H0 Q _ s0 k
  refine h H0 _ p0 s0 fun H1 v s1 g => ?_
  cases g with
  | @tup t xs _ e r =>
    have e' := off_in _ _ e
    have r' := r.same off_in
    have ln := r'.len
    refine ⟨t, rfl, ⟨_, SqT.of e'⟩, fun D nD => ?_⟩
    refine lc_it (walk_tup (K := K) (a := t) (xs := xs)) (fun i H8 => Same H1 H8 ∧ GL H8 D ((ds.take i).map f)) ⟨same_upd nD, GL.new nD .nil⟩ (fun i H8 _ w => SqT.of (w.1 _ _ e')) ?_ ?_
    · rintro i v H8 H9 hi ⟨s8, gD⟩ ⟨rfl, ev⟩
      obtain ⟨d, ed, gd⟩ := r'.get ev
      have lift : ∀ v e, Gn H1 v e → Gn (off (· = D) H9) v e := fun v e g => (g.same (off_none (P := (· = D)) fun b (e : b = D) => e ▸ nD)).same (offs_same s8)
      refine ⟨hw _, lc_snocY (fun H' => Same H1 H' ∧ GL H' D ((ds.take (i + 1)).map f)) nD s8 gD (d := f d) (ke v d D H9 (List.mem_of_getElem? ed) (lift _ _ gd) fun v e g => lift _ _ (g.same (s0.trans s1))) (by rw [List.length_map, List.length_take]; omega) fun H10 s10 g10 => ⟨s10, ?_⟩⟩
      rw [List.take_add_one, ed, List.map_append]
      exact g10
    · rintro H8 ⟨s8, gD⟩
      rw [ln, List.take_length] at gD
      exact k _ _ (s1.trans s8) (gn_p0 gD.gn)
theorem for_data {g : TG} {b rest : TS} {D : Ends} (Pv : Nat → L2.St → Hp → Prop) (h : DT P0 tl σ G (.list ds)) (k0 : ∀ H1, Same G H1 → Pv 0 σ H1)
    (ks : ∀ (i : Nat) (x : V) (d : PyData) (σ : L2.St) (H : Hp) (N B : L2.St → Hp → Prop), ds[i]? = some d → Gn H x d → Pv i σ H → (∀ σ' H', Same H H' → Pv (i + 1) σ' H' → N σ' H') → g x σ H fun σ2 H2 => b { nx := N, rt := D.rt, bk := B, ct := N } σ2 H2)
    (ke : ∀ σ H, Pv ds.length σ H → rest D σ H) : tSeq (tFor (iList K tl) g b) rest D σ G := by
  refine (h G _ p0 (Same.refl _) fun H1 v s1 g' => ?_ : tl σ G _)
  cases g' with
  | @lst a xs _ e r =>
    have e' := off_in _ _ e
    have r' := r.same off_in
    have ln := r'.len
    refine ⟨a, rfl, ⟨_, SqL.of e'⟩, for_list (K := K) (a := a) (xs := xs) (fun i σ H => Same H1 H ∧ Pv i σ H) ⟨Same.refl _, k0 H1 s1⟩ (fun i σ H _ p => SqL.of (p.1 _ _ e')) (fun i x σ H ex p => ?_) (fun σ H p => ?_)⟩
    · obtain ⟨d, ed, gx⟩ := r'.get ex
      exact ks i x d σ H _ _ ed (gx.same p.1) p.2 fun σ' H' s' p' => ⟨p.1.trans s', p'⟩
    · rw [ln] at p
      exact ke σ H p.2
theorem for_dataT {g : TG} {b rest : TS} {D : Ends} (Pv : Nat → L2.St → Hp → Prop) (h : DT P0 tl σ G (.tuple ds)) (k0 : ∀ H1, Same G H1 → Pv 0 σ H1)
    (ks : ∀ (i : Nat) (x : V) (d : PyData) (σ : L2.St) (H : Hp) (N B : L2.St → Hp → Prop), ds[i]? = some d → Gn H x d → Pv i σ H → (∀ σ' H', Same H H' → Pv (i + 1) σ' H' → N σ' H') → g x σ H fun σ2 H2 => b { nx := N, rt := D.rt, bk := B, ct := N } σ2 H2)
    (ke : ∀ σ H, Pv ds.length σ H → rest D σ H) : tSeq (tFor (iTup K tl) g b) rest D σ G := by
  refine (h G _ p0 (Same.refl _) fun H1 v s1 g' => ?_ : tl σ G _)
  cases g' with
  | @tup a xs _ e r =>
    have e' := off_in _ _ e
    have r' := r.same off_in
    have ln := r'.len
    refine ⟨a, rfl, ⟨_, SqT.of e'⟩, for_it (walk_tup (K := K) (a := a) (xs := xs)) (fun i σ H => Same H1 H ∧ Pv i σ H) ⟨Same.refl _, k0 H1 s1⟩ (fun i σ H _ p => SqT.of (p.1 _ _ e')) (fun i x σ H H' hi p y => ?_) (fun σ H p => ?_)⟩
    · obtain ⟨rfl, ex⟩ := y
      obtain ⟨d, ed, gx⟩ := r'.get ex
      exact ks i x d σ _ _ _ ed (gx.same p.1) p.2 fun σ' H' s' p' => ⟨p.1.trans s', p'⟩
    · rw [ln] at p
      exact ke σ H p.2
theorem par_seq {i j : Nat} {rest : TS} {D : Ends} {d1 d2 : PyData} (h : DG P0 ts σ G [d1, d2]) (k : ∀ H' v w, Same G H' → Gn H' v d1 → Gn H' w d2 → rest D ((σ.set i (some v)).set j (some w)) H') : tSeq (tPar i j ts) rest D σ G := by
  refine (h G _ p0 (Same.refl _) fun H1 vs s1 g => ?_ : ts σ G _)
  obtain ⟨x, y, rfl, g1, g2⟩ := g.two
  exact ⟨x, y, rfl, k H1 x y s1 (g1.same off_in) (g2.same off_in)⟩
end
--# _law_no_old
theorem old_mem {n : Nat} {ds : List PyData} {d : PyData} (h : d ∈ ds) (hs : oldOneD n d = false) (hl : ds.length ≤ 5000) : OldBad n (.list ds) := by
  refine ⟨?_, .inl ?_⟩
  · show (ds.map (oldOneD n)).length ≤ 5000
    rw [List.length_map]
    exact hl
  · show (ds.map (oldOneD n)).all id = false
    rw [List.all_eq_false]
    exact ⟨false, List.mem_map.mpr ⟨d, h, hs⟩, by decide⟩
theorem old_cnt {n : Nat} {a b : PyData} (h : cntD a = false) : oldOneD n (.tuple [a, b]) = false := by
  show (cntD a && (tonD n b && inOld a b)) = false
  rw [h, Bool.false_and]
theorem old_ton {n : Nat} {a b : PyData} (h : tonD n b = false) : oldOneD n (.tuple [a, b]) = false := by
  show (cntD a && (tonD n b && inOld a b)) = false
  rw [h, Bool.false_and, Bool.and_false]
theorem old_in {n : Nat} {a b : PyData} (h : inOld a b = false) : oldOneD n (.tuple [a, b]) = false := by
  show (cntD a && (tonD n b && inOld a b)) = false
  rw [h, Bool.and_false, Bool.and_false]
theorem str_cnt {far : Int} (h0 : 0 ≤ far) {d : PyData} (h : d ∈ strD far) : cntD d = false := by
  unfold strD at h
  simp only [List.mem_cons, List.not_mem_nil, or_false] at h
  rcases h with rfl | rfl | rfl | rfl | rfl | rfl | rfl | rfl | rfl
  all_goals first | rfl | exact decide_eq_false (by omega)
theorem in_six {i : Int} (h : 6 ≤ i) (b : PyData) : inOld (.int i) b = false := by
  cases b with
  | int j =>
    show (decide (i < 6) && decide (0 < j)) = false
    rw [decide_eq_false (show ¬ i < 6 by omega), Bool.false_and]
  | _ => rfl
theorem in_zero (a : PyData) : inOld a (.int 0) = false := by
  cases a with
  | int i =>
    show (decide (i < 6) && decide ((0 : Int) < 0)) = false
    rw [show decide ((0 : Int) < 0) = false from rfl, Bool.and_false]
  | _ => rfl
theorem ton_three {i : Int} (h : 3 ≤ i) : tonD 2 (.int i) = false := by
  show (decide (0 ≤ i) && decide (i ≤ ((2 : Nat) : Int))) = false
  rw [decide_eq_false (show ¬ i ≤ ((2 : Nat) : Int) by omega), Bool.and_false]
def prT (a b : Int) : PyData := .tuple [.int a, .int b]
def old0 : List PyData := [.none, .int 5, .str "old", .tuple [], .tuple [.tuple [.int 0, .int 1]], .dict [], .list [.tuple [.int 0, .int 2], .tuple [.int 0, .int 1]], .list [.tuple [.int 0, .int 1], .tuple [.int 0, .int 1]], .list [.tuple [.int 1, .int 1], .tuple [.int 0, .int 2]], .list [.none], .list [.tuple [.int 0]]]
theorem old0_bad : ∀ d ∈ old0, OldBad 2 d := by
  intro d h
  unfold old0 at h
  simp only [List.mem_cons, List.not_mem_nil, or_false] at h
  rcases h with rfl | rfl | rfl | rfl | rfl | rfl | rfl | rfl | rfl | rfl | rfl
  · exact ⟨by decide, .inl rfl⟩
  · exact ⟨by decide, .inl rfl⟩
  · exact ⟨by decide, .inl rfl⟩
  · exact ⟨by decide, .inl rfl⟩
  · exact ⟨by decide, .inl rfl⟩
  · exact ⟨by decide, .inl rfl⟩
  · exact ⟨by decide, .inr ⟨[(0, 2), (0, 1)], rfl, rfl, rfl⟩⟩
  · exact ⟨by decide, .inr ⟨[(0, 1), (0, 1)], rfl, rfl, rfl⟩⟩
  · exact ⟨by decide, .inr ⟨[(1, 1), (0, 2)], rfl, rfl, rfl⟩⟩
  · exact ⟨by decide, .inl rfl⟩
  · exact ⟨by decide, .inl rfl⟩
def AllBadG (H : Hp) (v : V) (n : Nat) (bad : PyData → Prop) : Prop := ∃ ds, Gn H v (.list ds) ∧ ds.length = n ∧ ∀ d ∈ ds, bad d
def spNoOld : Sp := fun vs H Q _ => ∃ far : Int, vs = [.int far] ∧ 0 ≤ far ∧ ∀ (H' : Hp) (v : V), Same H H' → AllBadG H' v 60 (fun d => OldBad 2 d) → Q v H'
--# _law_late_old
def good6 : List PyData := [.tuple [.int 0, .int 1], .tuple [.int 0, .int 2], .tuple [.int 1, .int 1], .tuple [.int 1, .int 2], .tuple [.int 2, .int 1], .tuple [.int 2, .int 2]]
def late0 : List PyData := [.list [.tuple [.int 0, .int 1], .tuple [.int 0, .int 2], .tuple [.int 1, .int 2], .tuple [.int 1, .int 1]], .list [.tuple [.int 0, .int 1], .tuple [.int 0, .int 2], .tuple [.int 0, .int 2]]]
theorem late0_bad : ∀ d ∈ late0, OldBad 2 d := by
  intro d h
  unfold late0 at h
  simp only [List.mem_cons, List.not_mem_nil, or_false] at h
  rcases h with rfl | rfl
  · exact ⟨by decide, .inr ⟨[(0, 1), (0, 2), (1, 2), (1, 1)], rfl, rfl, rfl⟩⟩
  · exact ⟨by decide, .inr ⟨[(0, 1), (0, 2), (0, 2)], rfl, rfl, rfl⟩⟩
def bad9 : List PyData := [.tuple [.int 6, .int 1], .tuple [.int 5, .int 3], .tuple [.int 5, .int 0], .tuple [.bool true, .int 1], .tuple [.int 5, .none], .list [.int 5, .int 1], .tuple [.int 5], .tuple [.int 5, .int 1, .int 0], .none]
theorem bad9_bad : ∀ d ∈ bad9, oldOneD 2 d = false := by
  intro d h
  unfold bad9 at h
  simp only [List.mem_cons, List.not_mem_nil, or_false] at h
  rcases h with rfl | rfl | rfl | rfl | rfl | rfl | rfl | rfl | rfl <;> rfl
def lateF (d : PyData) : PyData → PyData
  | .int k => .list (good6.take k.toNat ++ [d])
  | _ => .none
def spLateOld : Sp := fun vs H Q _ => ∃ far : Int, vs = [.int far] ∧ 0 ≤ far ∧ ∀ (H' : Hp) (v : V), Same H H' → AllBadG H' v 20 (fun d => OldBad 2 d) → Q v H'

end PD

namespace PD
open PySem PySem.Spec PyProof.Rows L2

/-! Phrasedesk: a desk's looks at any data, and what it refuses of them -/
open LamX NdefX
--# is_textG
def txD : PyData → Bool
  | .str x => txB x
  | _ => false
def Short : PyData → Prop
  | .str x => x.length ≤ 5000
  | _ => True
def spTextG : Sp := fun vs H Q _ => ∃ (v : V) (d : PyData), vs = [v] ∧ Gn H v d ∧ Short d ∧ ∀ H' : Hp, Same H H' → Q (.bl (txD d)) H'
theorem c_is_textG {P : Program} {w : World} {K : PySem.W.Frag} {mg : Str → Option Value} {base : Heap} (T : Tx K mg) : C8.Cal P w K mg base 1 "is_text" (spTextG) [] := by
  refine calD T.F_is_text T.g_is_text (fun _ _ _ _ _ _ us hl => match us, hl with | [_], _ => rfl) sc_is_text (fun vs H Q E h => ?_) (fun cdv A outer s H vs Q E hr h => ?_)
  · obtain ⟨v, d, rfl, _⟩ := h
    rfl
  · obtain ⟨v, d, rfl, hg, xl, q⟩ := h
    refine ⟨_, (pss_one (ps_ret (pe_and (pe_callB call_isi (by rfl) T.f_isinstance (by decide +kernel) (pa_cons (pv 0) (pa_cons (pe_bltn (v := .ty "str") (by rfl) T.f_str (by decide +kernel) rfl) pa_nil))) (pe_and (pe_chain op_le op_le pe_int (pe_callB call_len_str (by rfl) T.f_len (by decide +kernel) (pa_cons (pv 0) pa_nil)) (pe_glob (v := .int 6) rfl (T.g_MOST_LETTERS).choose_spec ⟨_, rfl⟩)) (pe_one (pe_callB (cr_all rfl) (by rfl) T.f_all (by decide +kernel) (pa_cons (pe_lc (own := [("sign", 1)]) (g := gName 1) (tt := tYes) (by rfl) sc_is_text.nd (pi_str (pv 0)) (blkOk_by (own := [("sign", 1)]) (N := ["value", "sign"]) (sc := defScope s_is_text) (by decide +kernel)) (fun _ _ _ _ _ => (pg_name (i := 1) sc_is_text.nd rfl (Or.inl rfl))) (fun _ _ _ _ _ => pts_nil) (fun _ _ _ _ _ => (pe_cmpR op_in_str (pv 1) (pe_glob (v := .str "abcdefghijklmnopqrstuvwxyz") rfl (T.g_LETTERS).choose_spec ⟨_, rfl⟩) (by rfl)))) pa_nil))))))), ?_⟩
    refine ⟨_, rfl, _, _, _, _, isSt d, rfl, .ty _, gn_ty hg, ki_st d, isSt d, rfl, ?_⟩
    have q0 := q H (Same.refl _)
    cases hg with
    | str x =>
      have xl : x.length ≤ 5000 := xl
      refine iteT ⟨_, rfl, x, rfl, Nat.le_of_lt (small5000 xl), _, _, rfl, rfl, decide ((1 : Int) ≤ (x.length : Int)), rfl, ?_⟩
      have et : txD (.str x) = (decide (1 ≤ x.length) && (decide (x.length ≤ 6) && x.cps.toList.all fun c => decide (97 ≤ c ∧ c ≤ 122))) := rfl
      rw [et] at q q0
      by_cases c1 : (1 : Int) ≤ (x.length : Int)
      case neg =>
        rw [decide_eq_false c1]
        rw [decide_eq_false (show ¬ 1 ≤ x.length by omega), Bool.false_and] at q0
        exact iteF ⟨false, rfl, iteF q0⟩
      rw [decide_eq_true c1]
      rw [decide_eq_true (show 1 ≤ x.length by omega), Bool.true_and] at q q0
      refine iteT ⟨_, _, rfl, rfl, decide ((x.length : Int) ≤ 6), rfl, ?_⟩
      by_cases c2 : (x.length : Int) ≤ 6
      case neg =>
        rw [decide_eq_false c2]
        rw [decide_eq_false (show ¬ x.length ≤ 6 by omega), Bool.false_and] at q0
        exact iteF q0
      rw [decide_eq_true c2]
      rw [decide_eq_true (show x.length ≤ 6 by omega), Bool.true_and] at q
      refine iteT ⟨_, rfl, x, rfl, fun D nD => ?_⟩
      refine lc_it (walk_str (z := x)) (fun i H1 => Same H H1 ∧ H1 D = some (.lst (((x.cps.toList.take i).map fun c => decide (97 ≤ c ∧ c ≤ 122)).map V.bl))) ⟨same_upd nD, upd_same⟩ (fun _ _ _ _ => trivial) ?_ ?_
      · rintro i v H1 H2 hi ⟨s1, hD⟩ ⟨rfl, c, ec, rfl⟩
        refine ⟨rfl, _, rfl, _, _, rfl, rfl, _, hD, ?_, Same.chg s1 nD, ?_⟩
        · rw [List.length_map, List.length_map, List.length_take]
          have hi' : i < x.length := hi
          exact small5000 (by omega)
        · have ec' : x.cps.toList[i]? = some c := by rw [Array.getElem?_toList]; exact ec
          rw [upd_same, List.take_add_one, ec', Option.toList_some, List.map_append, List.map_append, StrLaws.found_one, az_mem]
          rfl
      · rintro H1 ⟨s1, hD⟩
        rw [show x.cps.size = x.cps.toList.length from Array.length_toList.symm, List.take_length] at hD
        refine ⟨D, _, rfl, SqL.of hD, qt ?_ (q _ s1)⟩
        rw [List.all_map]
        rfl
    | _ => exact iteF q0
--# Past.has_phraseG
def phnD (n : Nat) : PyData → Bool
  | .int i => decide (0 ≤ i) && decide (i < (n : Int))
  | _ => false
def spHasG (C : Addr) : Sp := fun vs H Q _ => ∃ (a : Addr) (fr : List Int) (S : De) (A : PA) (v : V) (x : PyData), vs = [.ref a, v] ∧ PastAt H C a fr S A ∧ Gn H v x ∧ Q (.bl (phnD S.n x)) H
theorem c_Past_has_phraseG {P : Program} {w : World} {K : PySem.W.Frag} {mg : Str → Option Value} {base : Heap} (T : Tx K mg) : C8.Met P w K mg base 3 (He.ga K "Past") "has_phrase" (spHasG (He.ga K "Past")) [] := by
  refine metD T.F_Past_has_phrase T.k_Past T.m_Past_has_phrase (fun _ _ _ _ _ _ us hl => match us, hl with | [_, _], _ => rfl) sc_Past_has_phrase (fun vs H Q E h => ?_) (fun cdv A outer s H vs Q E hr h => ?_)
  · obtain ⟨a, fr, S, A, v, x, rfl, _⟩ := h
    rfl
  · obtain ⟨a, fr, S, A, v, x, rfl, hP, hg, q⟩ := h
    refine ⟨_, (pss_one (ps_ret (pe_and (C8.pe_c (c_is_countG T) hr (by decide) rfl (pa_cons (pv 1) pa_nil)) (pe_one (pe_cmpR op_lt (pv 1) (pe_fld (pv 0) (by rfl)) (nomark _)))))), ?_⟩
    refine ⟨_, rfl, v, x, rfl, hg, cntD x, rfl, ?_⟩
    cases h : cntD x with
    | false =>
      have e : phnD S.n x = false := by
        cases x with
        | int i => exact Bool.and_eq_false_imp.mpr fun z => absurd z (by rw [show decide (0 ≤ i) = false from h]; decide)
        | _ => rfl
      rw [e] at q
      exact iteF q
    | true =>
      cases hg with
      | int i =>
        refine iteT ⟨_, rfl, _, rfl, a, _, _, _, _, rfl, hP.raw.obj, T.k_Past, T.n_Past_phrases, pf_phrases _ _, i, _, rfl, rfl, qt ?_ q⟩
        show decide (i < (S.n : Int)) = (decide (0 ≤ i) && decide (i < (S.n : Int)))
        rw [show decide (0 ≤ i) = true from h]
        rfl
      | _ => cases h
--# Desk.check_phraseX
def spCkPX (K : PySem.W.Frag) : Sp := fun vs H _ E => ∃ (d : Addr) (fr : List Int) (S : De) (ls : List Line) (F : Addr → Prop) (v : V) (x : PyData), vs = [.ref d, v] ∧ DeK K H d fr S ls F ∧ Gn H v x ∧ phnD S.n x = false ∧
  ∀ H' : Hp, Same H H' → E (.ref (He.ga K "BadPhrase")) none H'
theorem c_Desk_check_phraseX {P : Program} {w : World} {K : PySem.W.Frag} {mg : Str → Option Value} {base : Heap} (T : Tx K mg) : MetX P w K mg base 4 (He.ga K "Desk") "check_phrase" (spCkPX K) := by
  refine metX T.F_Desk_check_phrase T.k_Desk T.m_Desk_check_phrase (fun _ _ _ _ _ _ us hl => match us, hl with | [_, _], _ => rfl) sc_Desk_check_phrase (fun vs H Q E h => ?_) (fun cdv A outer s H vs Q E hr h => ?_)
  · obtain ⟨d, fr, S, ls, F, v, x, rfl, _⟩ := h
    rfl
  · obtain ⟨d, fr, S, ls, F, v, x, rfl, hD, hg, hb, q⟩ := h
    refine ⟨_, (pss_one (ps_if (pt_not (pt_val (C8.pe_mt (c_Past_has_phraseG T) hr (by decide) (pe_fld (pv 0) (by rfl)) (pa_cons (pv 1) pa_nil))))
      (pss_one (ps_own T.x_BadPhrase T.g_BadPhrase rfl (takes_of rfl rfl rfl rfl) rfl))
      pss_nil)), ?_⟩
    obtain ⟨B, hB, hF, _⟩ := hD
    exact ⟨_, rfl, d, _, _, _, _, rfl, hB.obj, T.k_Desk, T.n_Desk_past, df_past _ _, B.p, _, _, rfl, hB.past.raw.obj, rfl, _, rfl, B.p, fr, S, B.A, v, x, rfl, hB.past, hg, false, by rw [hb], iteT (q H (Same.refl _))⟩
--# Desk.check_placeP
def spCkPlP (K : PySem.W.Frag) : Sp := fun vs H _ E => ∃ (d : Addr) (fr : List Int) (S : De) (ls : List Line) (F : Addr → Prop) (v u : V) (x : PyData), vs = [.ref d, v, u] ∧ DeK K H d fr S ls F ∧ Gn H v x ∧ phnD S.n x = false ∧
  ∀ H' : Hp, Same H H' → E (.ref (He.ga K "BadPhrase")) none H'
theorem c_Desk_check_placeP {P : Program} {w : World} {K : PySem.W.Frag} {mg : Str → Option Value} {base : Heap} (T : Tx K mg) : MetX P w K mg base 5 (He.ga K "Desk") "check_place" (spCkPlP K) := by
  refine metX T.F_Desk_check_place T.k_Desk T.m_Desk_check_place (fun _ _ _ _ _ _ us hl => match us, hl with | [_, _, _], _ => rfl) sc_Desk_check_place (fun vs H Q E h => ?_) (fun cdv A outer s H vs Q E hr h => ?_)
  · obtain ⟨d, fr, S, ls, F, v, u, x, rfl, _⟩ := h
    rfl
  · obtain ⟨d, fr, S, ls, F, v, u, x, rfl, hD, hg, hb, q⟩ := h
    refine ⟨_, (pss_cons (ps_expr (pe_mtX (c_Desk_check_phraseX T) hr (by decide) (takes_of rfl rfl rfl rfl) (pv 0) (pa_cons (pv 1) pa_nil)))
    (pss_one ps_never)), ?_⟩
    obtain ⟨B, hB, hF, _⟩ := id hD
    exact ⟨_, rfl, d, _, _, rfl, hB.obj, rfl, _, rfl, d, fr, S, ls, F, v, x, rfl, hD, hg, hb, q⟩
--# Desk.check_placeT
def spCkPlT (K : PySem.W.Frag) : Sp := fun vs H _ E => ∃ (d : Addr) (fr : List Int) (S : De) (ls : List Line) (F : Addr → Prop) (p : Nat) (v : V) (x : PyData), vs = [.ref d, .int p, v] ∧ DeK K H d fr S ls F ∧ p < S.n ∧ Gn H v x ∧ tonD fr.length x = false ∧
  ∀ H' : Hp, Same H H' → E (.ref (He.ga K "BadTongue")) none H'
theorem c_Desk_check_placeT {P : Program} {w : World} {K : PySem.W.Frag} {mg : Str → Option Value} {base : Heap} (T : Tx K mg) : MetX P w K mg base 5 (He.ga K "Desk") "check_place" (spCkPlT K) := by
  refine metX T.F_Desk_check_place T.k_Desk T.m_Desk_check_place (fun _ _ _ _ _ _ us hl => match us, hl with | [_, _, _], _ => rfl) sc_Desk_check_place (fun vs H Q E h => ?_) (fun cdv A outer s H vs Q E hr h => ?_)
  · obtain ⟨d, fr, S, ls, F, p, v, x, rfl, _⟩ := h
    rfl
  · obtain ⟨d, fr, S, ls, F, p, v, x, rfl, hD, hp, hg, hb, q⟩ := h
    refine ⟨_, (pss_cons (ps_expr (C8.pe_mt (c_Desk_check_phrase T) hr (by decide) (pv 0) (pa_cons (pv 1) pa_nil)))
    (pss_one (ps_if (pt_not (pt_val (C8.pe_c (c_is_tongueG T) hr (by decide) rfl (pa_cons (pe_fld (pe_fld (pv 0) (by rfl)) (by rfl)) (pa_cons (pv 2) pa_nil)))))
      (pss_one (ps_own T.x_BadTongue T.g_BadTongue rfl (takes_of rfl rfl rfl rfl) rfl))
      pss_nil))), ?_⟩
    obtain ⟨B, hB, hF, _⟩ := id hD
    refine ⟨_, rfl, d, _, _, rfl, hB.obj, rfl, _, rfl, d, fr, S, ls, F, p, rfl, hD, hp, ?_⟩
    exact ⟨_, rfl, d, _, _, _, _, rfl, hB.obj, T.k_Desk, T.n_Desk_past, df_past _ _, B.p, _, _, _, _, rfl, hB.past.raw.obj, T.k_Past, T.n_Past_froms, pf_froms _ _, _, rfl, B.A.f, fr, v, x, rfl, hB.past.raw.frm, hg, false, by rw [hb], iteT (q H (Same.refl _))⟩
--# Desk.check_other_tongueX
def spCkOX (K : PySem.W.Frag) : Sp := fun vs H _ E => ∃ (d : Addr) (fr : List Int) (S : De) (ls : List Line) (F : Addr → Prop) (v : V) (x : PyData), vs = [.ref d, v] ∧ DeK K H d fr S ls F ∧ Gn H v x ∧ (tonD fr.length x = false ∨ x = .int 0) ∧
  ∀ H' : Hp, Same H H' → E (.ref (He.ga K "BadTongue")) none H'
theorem c_Desk_check_other_tongueX {P : Program} {w : World} {K : PySem.W.Frag} {mg : Str → Option Value} {base : Heap} (T : Tx K mg) : MetX P w K mg base 4 (He.ga K "Desk") "check_other_tongue" (spCkOX K) := by
  refine metX T.F_Desk_check_other_tongue T.k_Desk T.m_Desk_check_other_tongue (fun _ _ _ _ _ _ us hl => match us, hl with | [_, _], _ => rfl) sc_Desk_check_other_tongue (fun vs H Q E h => ?_) (fun cdv A outer s H vs Q E hr h => ?_)
  · obtain ⟨d, fr, S, ls, F, v, x, rfl, _⟩ := h
    rfl
  · obtain ⟨d, fr, S, ls, F, v, x, rfl, hD, hg, hb, q⟩ := h
    refine ⟨_, (pss_one (ps_if (PW.pt (pw_or (pt_not (pt_val (C8.pe_c (c_is_tongueG T) hr (by decide) rfl (pa_cons (pe_fld (pe_fld (pv 0) (by rfl)) (by rfl)) (pa_cons (pv 1) pa_nil))))) (pw_or1 (pt_cmpR op_eq (pv 1) pe_int (nomark _)))))
      (pss_one (ps_own T.x_BadTongue T.g_BadTongue rfl (takes_of rfl rfl rfl rfl) rfl))
      pss_nil)), ?_⟩
    obtain ⟨B, hB, hF, _⟩ := id hD
    rcases hb with hb | rfl
    · exact ⟨_, rfl, d, _, _, _, _, rfl, hB.obj, T.k_Desk, T.n_Desk_past, df_past _ _, B.p, _, _, _, _, rfl, hB.past.raw.obj, T.k_Past, T.n_Past_froms, pf_froms _ _, _, rfl, B.A.f, fr, v, x, rfl, hB.past.raw.frm, hg, false, by rw [hb], iteT (q H (Same.refl _))⟩
    · cases hg
      refine ⟨_, rfl, d, _, _, _, _, rfl, hB.obj, T.k_Desk, T.n_Desk_past, df_past _ _, B.p, _, _, _, _, rfl, hB.past.raw.obj, T.k_Past, T.n_Past_froms, pf_froms _ _, _, rfl, B.A.f, fr, .int 0, .int 0, rfl, hB.past.raw.frm, .int 0, true, ?_, iteF ⟨_, rfl, rfl, true, rfl, iteT (q H (Same.refl _))⟩⟩
      show V.bl (decide ((0 : Int) ≤ 0) && decide ((0 : Int) ≤ (fr.length : Int))) = V.bl true
      rw [decide_eq_true (show (0 : Int) ≤ (fr.length : Int) by omega)]
      rfl
--# Desk.check_textX
def spCkTX (K : PySem.W.Frag) : Sp := fun vs H _ E => ∃ (d : Addr) (v : V) (x : PyData), vs = [.ref d, v] ∧ Gn H v x ∧ Short x ∧ txD x = false ∧ ∀ H' : Hp, Same H H' → E (.ref (He.ga K "BadText")) none H'
theorem c_Desk_check_textX {P : Program} {w : World} {K : PySem.W.Frag} {mg : Str → Option Value} {base : Heap} (T : Tx K mg) : MetX P w K mg base 2 (He.ga K "Desk") "check_text" (spCkTX K) := by
  refine metX T.F_Desk_check_text T.k_Desk T.m_Desk_check_text (fun _ _ _ _ _ _ us hl => match us, hl with | [_, _], _ => rfl) sc_Desk_check_text (fun vs H Q E h => ?_) (fun cdv A outer s H vs Q E hr h => ?_)
  · obtain ⟨d, v, x, rfl, _⟩ := h
    rfl
  · obtain ⟨d, v, x, rfl, hg, hs, hb, q⟩ := h
    refine ⟨_, (pss_one (ps_if (pt_not (pt_val (C8.pe_c (c_is_textG (P := P) (w := w) (K := K) (mg := mg) (base := base) T) hr (by decide) rfl (pa_cons (pv 1) pa_nil))))
      (pss_one (ps_own T.x_BadText T.g_BadText rfl (takes_of rfl rfl rfl rfl) rfl))
      pss_nil)), ?_⟩
    exact ⟨_, rfl, v, x, rfl, hg, hs, fun H1 s1 => ⟨false, by rw [hb], iteT (q _ s1)⟩⟩
--# Past.was_seenG
def seD (fr : List Int) (S : De) (p t : Nat) : PyData → Bool
  | .none => decide (t = 0)
  | .int i => !decide (t = 0) && decide (some i ∈ S.seens fr p t)
  | _ => false
def spSeenG (C : Addr) : Sp := fun vs H Q _ => ∃ (a : Addr) (fr : List Int) (S : De) (A : PA) (p t : Nat) (v : V) (x : PyData), vs = [.ref a, .int p, .int t, v] ∧ PastAt H C a fr S A ∧ FrOk fr ∧ p < S.n ∧ t ≤ fr.length ∧ Gn H v x ∧ ∀ (H' : Hp), Same H H' → Q (.bl (seD fr S p t x)) H'
theorem c_Past_was_seenG {P : Program} {w : World} {K : PySem.W.Frag} {mg : Str → Option Value} {base : Heap} (T : Tx K mg) : C8.Met P w K mg base 2 (He.ga K "Past") "was_seen" (spSeenG (He.ga K "Past")) [] := by
  refine metD T.F_Past_was_seen T.k_Past T.m_Past_was_seen (fun _ _ _ _ _ _ us hl => match us, hl with | [_, _, _, _], _ => rfl) sc_Past_was_seen (fun vs H Q E h => ?_) (fun cdv A outer s H vs Q E hr h => ?_)
  · obtain ⟨a, fr, S, A, p, t, v, x, rfl, _⟩ := h
    rfl
  · obtain ⟨a, fr, S, A, p, t, v, x, rfl, hP, fo, hp, ht, hg, q⟩ := h
    refine ⟨_, (pss_cons (ps_if (pt_cmpR op_eq (pv 2) pe_int (nomark _))
      (pss_one (ps_ret (pe_cmpR op_isN (pv 3) pe_non (nomark _))))
      pss_nil)
    (pss_one (ps_ret (pe_and (C8.pe_c (c_is_number T) hr (by decide) rfl (pa_cons (pv 3) pa_nil)) (pe_one (pe_cmp (pc_din (hu_of hr) (pv 3) (pe_dget (hu_of hr) (pe_fld (pv 0) (by rfl)) (pe_tup (pa_cons (pv 1) (pa_cons (C8.pe_c (c_put_from T) hr (by decide) rfl (pa_cons (pe_fld (pv 0) (by rfl)) (pa_cons (pv 2) pa_nil))) pa_nil))) (fun _ _ => rfl))) rfl)))))), ?_⟩
    refine ⟨_, rfl, rfl, decide (t = 0), congrArg V.bl (dec_nat (y := 0)), ?_⟩
    by_cases c : t = 0
    · rw [decide_eq_true c]
      refine iteT ⟨_, rfl, rfl, qt ?_ (q H (Same.refl _))⟩
      subst c
      cases hg with
      | non => rfl
      | _ => rfl
    rw [decide_eq_false c]
    have q1 := fun H' s' => q H' s'
    refine iteF ⟨_, rfl, _, _, isInt x, isBo x, rfl, gn_ty hg, ki_int x, ki_bo x, (isInt x && !isBo x), rfl, ?_⟩
    cases hg with
    | int k =>
      have ek : seD fr S p t (.int k) = decide (some k ∈ S.seens fr p t) := by
        show (!decide (t = 0) && decide (some k ∈ S.seens fr p t)) = _
        rw [decide_eq_false c]
        rfl
      rw [ek] at q1
      unfold De.seens at q1
      rw [if_neg c] at q1
      obtain ⟨y, ey, x0, xl, xu⟩ := fo.at (t := t) (by omega) ht
      refine iteT ?_
      refine ⟨_, rfl, _, rfl, a, _, _, _, _, rfl, hP.raw.obj, T.k_Past, T.n_Past_ever, pf_ever _ _, _, rfl, _, rfl, a, _, _, _, _, rfl, hP.raw.obj, T.k_Past, T.n_Past_froms, pf_froms _ _, _, rfl, A.f, fr, t, y, rfl, hP.raw.frm, by omega, ey, (by show 2 ≤ sizeLine; decide), fun b nb => ?_⟩
      subst xu
      have s1 : Same H (upd H b (.tup [V.int (p : Int), V.int (up fr t : Int)])) := same_upd nb
      have hb : (upd H b (.tup [V.int (p : Int), V.int (up fr t : Int)])) b = some (.tup ((ty p (up fr t)).map kV)) := upd_same
      generalize upd H b (.tup [V.int (p : Int), V.int (up fr t : Int)]) = H1 at s1 hb ⊢
      have h1 := hP.same s1
      have hu := up_lt fo (t := t) (by omega) ht
      obtain ⟨e1, e2⟩ := h1.raw.evs p (up fr t) ⟨hp, by omega⟩
      refine ⟨A.ev, V.ref (A.eA p (up fr t)), rfl, e1 ▸ DGet.t h1.raw.ev hb, A.eA p (up fr t), _, rfl, DGet.k (k := Sum.inl k) e2, qt ?_ (q1 H1 s1)⟩
      unfold eK
      rw [eK_has]
      refine decide_eq_decide.mpr ?_
      rw [List.mem_map, List.mem_map]
      exact ⟨fun ⟨e, z1, z2⟩ => ⟨e, z1, congrArg some z2⟩, fun ⟨e, z1, z2⟩ => ⟨e, z1, Option.some.inj z2⟩⟩
    | non => 
      refine iteF (qt ?_ (q H (Same.refl _)))
      exact (decide_eq_false c).symm
    | _ => exact iteF (q H (Same.refl _))
--# Past.is_overG
def ovD (o : Option Int) : PyData → Bool
  | .none => decide (none = o)
  | .int i => decide (some i = o)
  | _ => false
def spOverG (C : Addr) : Sp := fun vs H Q _ => ∃ (a : Addr) (fr : List Int) (S : De) (A : PA) (p t : Nat) (v : V) (x : PyData), vs = [.ref a, .int p, .int t, v] ∧ PastAt H C a fr S A ∧ p < S.n ∧ t ≤ fr.length ∧ Gn H v x ∧ ∀ (H' : Hp), Same H H' → Q (.bl (ovD (S.now p t) x)) H'
theorem c_Past_is_overG {P : Program} {w : World} {K : PySem.W.Frag} {mg : Str → Option Value} {base : Heap} (T : Tx K mg) : C8.Met P w K mg base 3 (He.ga K "Past") "is_over" (spOverG (He.ga K "Past")) [] := by
  refine metD T.F_Past_is_over T.k_Past T.m_Past_is_over (fun _ _ _ _ _ _ us hl => match us, hl with | [_, _, _, _], _ => rfl) sc_Past_is_over (fun vs H Q E h => ?_) (fun cdv A outer s H vs Q E hr h => ?_)
  · obtain ⟨a, fr, S, A, p, t, v, x, rfl, _⟩ := h
    rfl
  · obtain ⟨a, fr, S, A, p, t, v, x, rfl, hP, hp, ht, hg, q⟩ := h
    refine ⟨_, (pss_one (ps_ret (pe_and (C8.pe_c (c_is_number_or_noneG T) hr (by decide) rfl (pa_cons (pv 3) pa_nil)) (pe_one (pe_cmpR op_eq (pv 3) (C8.pe_mt (c_Past_standing T) hr (by decide) (pv 0) (pa_cons (pv 1) (pa_cons (pv 2) pa_nil))) (nomark _)))))), ?_⟩
    refine ⟨_, rfl, v, x, rfl, hg, _, rfl, ?_⟩
    cases hg with
    | non =>
      refine iteT ⟨_, rfl, _, rfl, a, _, _, rfl, hP.raw.obj, rfl, _, rfl, _, rfl, a, fr, S, A, p, t, rfl, hP, hp, ht, fun H1 s1 => ⟨?_, qt (oV_dec (a := none)) (q H1 s1)⟩⟩
      cases S.now p t <;> rfl
    | int i =>
      refine iteT ⟨_, rfl, _, rfl, a, _, _, rfl, hP.raw.obj, rfl, _, rfl, _, rfl, a, fr, S, A, p, t, rfl, hP, hp, ht, fun H1 s1 => ⟨?_, qt (oV_dec (a := some i)) (q H1 s1)⟩⟩
      cases S.now p t <;> rfl
    | _ => exact iteF (q H (Same.refl _))

end PD

namespace PD
open PySem PySem.Spec PyProof.Rows L2

/-! Phrasedesk: a desk's deeds and looks that refuse -/
open LamX NdefX
--# keepD
theorem dkS {K : PySem.W.Frag} {H H' : Hp} {d : Addr} {fr : List Int} {S : De} {ls : List Line} {B : DA} (h : DeskAt H (He.ga K "Desk") (He.ga K "Past") d fr S ls B) (s : Same H H') : DeskAt H' (He.ga K "Desk") (He.ga K "Past") d fr S ls B := h.keep (fun x o _ e => s _ _ e) (fun _ _ e => s _ _ e)
--# Desk.putP
def spPutP (K : PySem.W.Frag) : Sp := fun vs H _ E => ∃ (d : Addr) (fr : List Int) (S : De) (ls : List Line) (F : Addr → Prop) (v u1 u2 u3 u4 : V) (x : PyData), vs = [.ref d, v, u1, u2, u3, u4] ∧ DeK K H d fr S ls F ∧ Gn H v x ∧ phnD S.n x = false ∧
  ∀ H' : Hp, Same H H' → E (.ref (He.ga K "BadPhrase")) none H'
theorem c_Desk_putP {P : Program} {w : World} {K : PySem.W.Frag} {mg : Str → Option Value} {base : Heap} (T : Tx K mg) : MetX P w K mg base 6 (He.ga K "Desk") "put" (spPutP K) := by
  refine metX T.F_Desk_put T.k_Desk T.m_Desk_put (fun _ _ _ _ _ _ us hl => match us, hl with | [_, _, _, _, _, _], _ => rfl) sc_Desk_put (fun vs H Q E h => ?_) (fun cdv A outer s H vs Q E hr h => ?_)
  · obtain ⟨d, fr, S, ls, F, v, u1, u2, u3, u4, x, rfl, _⟩ := h
    rfl
  · obtain ⟨d, fr, S, ls, F, v, u1, u2, u3, u4, x, rfl, hD, hg, hb, q⟩ := h
    refine ⟨_, (pss_cons (ps_expr (pe_mtX (c_Desk_check_placeP T) hr (by decide) (takes_of rfl rfl rfl rfl) (pv 0) (pa_cons (pv 1) (pa_cons (pv 2) pa_nil))))
    (pss_cons ps_never
    (pss_cons ps_never
    (pss_cons ps_never
    (pss_cons ps_never
    (pss_cons ps_never
    (pss_one ps_never))))))), ?_⟩
    obtain ⟨B, hB, hF, _⟩ := id hD
    exact ⟨_, rfl, d, _, _, rfl, hB.obj, rfl, _, rfl, _, rfl, d, fr, S, ls, F, v, u1, x, rfl, hD, hg, hb, q⟩
--# Desk.putT
def spPutT (K : PySem.W.Frag) : Sp := fun vs H _ E => ∃ (d : Addr) (fr : List Int) (S : De) (ls : List Line) (F : Addr → Prop) (p : Nat) (v u2 u3 u4 : V) (x : PyData), vs = [.ref d, .int p, v, u2, u3, u4] ∧ DeK K H d fr S ls F ∧ p < S.n ∧ Gn H v x ∧ tonD fr.length x = false ∧
  ∀ H' : Hp, Same H H' → E (.ref (He.ga K "BadTongue")) none H'
theorem c_Desk_putT {P : Program} {w : World} {K : PySem.W.Frag} {mg : Str → Option Value} {base : Heap} (T : Tx K mg) : MetX P w K mg base 6 (He.ga K "Desk") "put" (spPutT K) := by
  refine metX T.F_Desk_put T.k_Desk T.m_Desk_put (fun _ _ _ _ _ _ us hl => match us, hl with | [_, _, _, _, _, _], _ => rfl) sc_Desk_put (fun vs H Q E h => ?_) (fun cdv A outer s H vs Q E hr h => ?_)
  · obtain ⟨d, fr, S, ls, F, p, v, u2, u3, u4, x, rfl, _⟩ := h
    rfl
  · obtain ⟨d, fr, S, ls, F, p, v, u2, u3, u4, x, rfl, hD, hp, hg, hb, q⟩ := h
    refine ⟨_, (pss_cons (ps_expr (pe_mtX (c_Desk_check_placeT T) hr (by decide) (takes_of rfl rfl rfl rfl) (pv 0) (pa_cons (pv 1) (pa_cons (pv 2) pa_nil))))
    (pss_cons ps_never
    (pss_cons ps_never
    (pss_cons ps_never
    (pss_cons ps_never
    (pss_cons ps_never
    (pss_one ps_never))))))), ?_⟩
    obtain ⟨B, hB, hF, _⟩ := id hD
    exact ⟨_, rfl, d, _, _, rfl, hB.obj, rfl, _, rfl, _, rfl, d, fr, S, ls, F, p, v, x, rfl, hD, hp, hg, hb, q⟩
--# Desk.putX
def spPutX (K : PySem.W.Frag) : Sp := fun vs H _ E => ∃ (d : Addr) (fr : List Int) (S : De) (ls : List Line) (F : Addr → Prop) (p t : Nat) (v u3 u4 : V) (x : PyData), vs = [.ref d, .int p, .int t, v, u3, u4] ∧ DeK K H d fr S ls F ∧ p < S.n ∧ t ≤ fr.length ∧ Gn H v x ∧ Short x ∧ txD x = false ∧
  ∀ H' : Hp, Same H H' → E (.ref (He.ga K "BadText")) none H'
theorem c_Desk_putX {P : Program} {w : World} {K : PySem.W.Frag} {mg : Str → Option Value} {base : Heap} (T : Tx K mg) : MetX P w K mg base 6 (He.ga K "Desk") "put" (spPutX K) := by
  refine metX T.F_Desk_put T.k_Desk T.m_Desk_put (fun _ _ _ _ _ _ us hl => match us, hl with | [_, _, _, _, _, _], _ => rfl) sc_Desk_put (fun vs H Q E h => ?_) (fun cdv A outer s H vs Q E hr h => ?_)
  · obtain ⟨d, fr, S, ls, F, p, t, v, u3, u4, x, rfl, _⟩ := h
    rfl
  · obtain ⟨d, fr, S, ls, F, p, t, v, u3, u4, x, rfl, hD, hp, ht, hg, hs, hb, q⟩ := h
    refine ⟨_, (pss_cons (ps_expr (C8.pe_mt (c_Desk_check_place T) hr (by decide) (pv 0) (pa_cons (pv 1) (pa_cons (pv 2) pa_nil))))
    (pss_cons (ps_expr (pe_mtX (c_Desk_check_textX T) hr (by decide) (takes_of rfl rfl rfl rfl) (pv 0) (pa_cons (pv 3) pa_nil)))
    (pss_cons ps_never
    (pss_cons ps_never
    (pss_cons ps_never
    (pss_cons ps_never
    (pss_one ps_never))))))), ?_⟩
    obtain ⟨B, hB, hF, _⟩ := id hD
    refine ⟨_, rfl, d, _, _, rfl, hB.obj, rfl, _, rfl, _, rfl, d, fr, S, ls, F, p, t, rfl, hD, hp, ht, ?_⟩
    exact ⟨_, rfl, d, _, _, rfl, hB.obj, rfl, _, rfl, d, v, x, rfl, hg, hs, hb, q⟩
--# Desk.putS
def spPutS (K : PySem.W.Frag) : Sp := fun vs H _ E => ∃ (d : Addr) (fr : List Int) (S : De) (ls : List Line) (F : Addr → Prop) (p t : Nat) (y : Str) (v u4 : V) (x : PyData), vs = [.ref d, .int p, .int t, .str y, v, u4] ∧ DeK K H d fr S ls F ∧ FrOk fr ∧ p < S.n ∧ t ≤ fr.length ∧ TxOk y ∧ Gn H v x ∧ seD fr S p t x = false ∧
  ∀ H' : Hp, Same H H' → E (.ref (He.ga K "BadSeen")) none H'
theorem c_Desk_putS {P : Program} {w : World} {K : PySem.W.Frag} {mg : Str → Option Value} {base : Heap} (T : Tx K mg) : MetX P w K mg base 6 (He.ga K "Desk") "put" (spPutS K) := by
  refine metX T.F_Desk_put T.k_Desk T.m_Desk_put (fun _ _ _ _ _ _ us hl => match us, hl with | [_, _, _, _, _, _], _ => rfl) sc_Desk_put (fun vs H Q E h => ?_) (fun cdv A outer s H vs Q E hr h => ?_)
  · obtain ⟨d, fr, S, ls, F, p, t, y, v, u4, x, rfl, _⟩ := h
    rfl
  · obtain ⟨d, fr, S, ls, F, p, t, y, v, u4, x, rfl, hD, fo, hp, ht, tx, hg, hb, q⟩ := h
    refine ⟨_, (pss_cons (ps_expr (C8.pe_mt (c_Desk_check_place T) hr (by decide) (pv 0) (pa_cons (pv 1) (pa_cons (pv 2) pa_nil))))
    (pss_cons (ps_expr (C8.pe_mt (c_Desk_check_text T) hr (by decide) (pv 0) (pa_cons (pv 3) pa_nil)))
    (pss_cons (ps_if (pt_not (pt_val (C8.pe_mt (c_Past_was_seenG T) hr (by decide) (pe_fld (pv 0) (by rfl)) (pa_cons (pv 1) (pa_cons (pv 2) (pa_cons (pv 4) pa_nil))))))
      (pss_one (ps_own T.x_BadSeen T.g_BadSeen rfl (takes_of rfl rfl rfl rfl) rfl))
      pss_nil)
    (pss_cons ps_never
    (pss_cons ps_never
    (pss_cons ps_never
    (pss_one ps_never))))))), ?_⟩
    obtain ⟨B, hB, hF, _⟩ := id hD
    refine ⟨_, rfl, d, _, _, rfl, hB.obj, rfl, _, rfl, _, rfl, d, fr, S, ls, F, p, t, rfl, hD, hp, ht, ?_⟩
    refine ⟨_, rfl, d, _, _, rfl, hB.obj, rfl, _, rfl, d, y, rfl, tx, fun H1 s1 => ?_⟩
    have hB1 := dkS hB s1
    exact ⟨_, rfl, d, _, _, _, _, rfl, hB1.obj, T.k_Desk, T.n_Desk_past, df_past _ _, B.p, _, _, rfl, hB1.past.raw.obj, rfl, _, rfl, _, rfl, _, rfl, B.p, fr, S, B.A, p, t, v, x, rfl, hB1.past, fo, hp, ht, hg.same s1, fun H2 s2 => ⟨false, by rw [hb], iteT (q _ (s1.trans s2))⟩⟩
--# Desk.putO
def spPutO (K : PySem.W.Frag) : Sp := fun vs H _ E => ∃ (d : Addr) (fr : List Int) (S : De) (ls : List Line) (F : Addr → Prop) (p t : Nat) (y : Str) (s : Option Int) (v : V) (x : PyData), vs = [.ref d, .int p, .int t, .str y, oV s, v] ∧ DeK K H d fr S ls F ∧ FrOk fr ∧ p < S.n ∧ t ≤ fr.length ∧ TxOk y ∧ s ∈ S.seens fr p t ∧ Gn H v x ∧ ovD (S.now p t) x = false ∧
  ∀ H' : Hp, Same H H' → E (.ref (He.ga K "Overtaken")) none H'
theorem c_Desk_putO {P : Program} {w : World} {K : PySem.W.Frag} {mg : Str → Option Value} {base : Heap} (T : Tx K mg) : MetX P w K mg base 6 (He.ga K "Desk") "put" (spPutO K) := by
  refine metX T.F_Desk_put T.k_Desk T.m_Desk_put (fun _ _ _ _ _ _ us hl => match us, hl with | [_, _, _, _, _, _], _ => rfl) sc_Desk_put (fun vs H Q E h => ?_) (fun cdv A outer s H vs Q E hr h => ?_)
  · obtain ⟨d, fr, S, ls, F, p, t, y, s0, v, x, rfl, _⟩ := h
    rfl
  · obtain ⟨d, fr, S, ls, F, p, t, y, s0, v, x, rfl, hD, fo, hp, ht, tx, sn, hg, hb, q⟩ := h
    refine ⟨_, (pss_cons (ps_expr (C8.pe_mt (c_Desk_check_place T) hr (by decide) (pv 0) (pa_cons (pv 1) (pa_cons (pv 2) pa_nil))))
    (pss_cons (ps_expr (C8.pe_mt (c_Desk_check_text T) hr (by decide) (pv 0) (pa_cons (pv 3) pa_nil)))
    (pss_cons (ps_if (pt_not (pt_val (C8.pe_mt (c_Past_was_seen T) hr (by decide) (pe_fld (pv 0) (by rfl)) (pa_cons (pv 1) (pa_cons (pv 2) (pa_cons (pv 4) pa_nil))))))
      (pss_one ps_never)
      pss_nil)
    (pss_cons (ps_if (pt_not (pt_val (C8.pe_mt (c_Past_is_overG T) hr (by decide) (pe_fld (pv 0) (by rfl)) (pa_cons (pv 1) (pa_cons (pv 2) (pa_cons (pv 5) pa_nil))))))
      (pss_one (ps_own T.x_Overtaken T.g_Overtaken rfl (takes_of rfl rfl rfl rfl) rfl))
      pss_nil)
    (pss_cons ps_never
    (pss_cons ps_never
    (pss_one ps_never))))))), ?_⟩
    obtain ⟨B, hB, hF, _⟩ := id hD
    refine ⟨_, rfl, d, _, _, rfl, hB.obj, rfl, _, rfl, _, rfl, d, fr, S, ls, F, p, t, rfl, hD, hp, ht, ?_⟩
    refine ⟨_, rfl, d, _, _, rfl, hB.obj, rfl, _, rfl, d, y, rfl, tx, fun H1 s1 => ?_⟩
    have hB1 := dkS hB s1
    refine ⟨_, rfl, d, _, _, _, _, rfl, hB1.obj, T.k_Desk, T.n_Desk_past, df_past _ _, B.p, _, _, rfl, hB1.past.raw.obj, rfl, _, rfl, _, rfl, _, rfl, B.p, fr, S, B.A, p, t, s0, rfl, hB1.past, fo, hp, ht, fun H2 s2 => ⟨true, by rw [decide_eq_true sn], iteF ?_⟩⟩
    have hB2 := dkS hB1 s2
    have s12 := s1.trans s2
    exact ⟨_, rfl, d, _, _, _, _, rfl, hB2.obj, T.k_Desk, T.n_Desk_past, df_past _ _, B.p, _, _, rfl, hB2.past.raw.obj, rfl, _, rfl, _, rfl, _, rfl, B.p, fr, S, B.A, p, t, v, x, rfl, hB2.past, hp, ht, hg.same s12, fun H3 s3 => ⟨false, by rw [hb], iteT (q _ (s12.trans s3))⟩⟩
--# Desk.phraseX
def spPhX (K : PySem.W.Frag) : Sp := fun vs H _ E => ∃ (d : Addr) (fr : List Int) (S : De) (ls : List Line) (F : Addr → Prop) (v : V) (x : PyData), vs = [.ref d, v] ∧ DeK K H d fr S ls F ∧ Gn H v x ∧ Short x ∧
  ((txD x = false ∧ ∀ H' : Hp, Same H H' → E (.ref (He.ga K "BadText")) none H') ∨ (txD x = true ∧ S.n = 6 ∧ ∀ H' : Hp, Same H H' → E (.ref (He.ga K "TooMany")) none H'))
theorem c_Desk_phraseX {P : Program} {w : World} {K : PySem.W.Frag} {mg : Str → Option Value} {base : Heap} (T : Tx K mg) : MetX P w K mg base 3 (He.ga K "Desk") "phrase" (spPhX K) := by
  refine metX T.F_Desk_phrase T.k_Desk T.m_Desk_phrase (fun _ _ _ _ _ _ us hl => match us, hl with | [_, _], _ => rfl) sc_Desk_phrase (fun vs H Q E h => ?_) (fun cdv A outer s H vs Q E hr h => ?_)
  · obtain ⟨d, fr, S, ls, F, v, x, rfl, _⟩ := h
    rfl
  · obtain ⟨d, fr, S, ls, F, v, x, rfl, hD, hg, hs, hq⟩ := h
    obtain ⟨B, hB, hF, _⟩ := id hD
    rcases hq with ⟨hb, q⟩ | ⟨hb, n6, q⟩
    · refine ⟨_, (pss_cons (ps_expr (pe_mtX (c_Desk_check_textX T) hr (by decide) (takes_of rfl rfl rfl rfl) (pv 0) (pa_cons (pv 1) pa_nil)))
    (pss_cons ps_never
    (pss_cons ps_never
    (pss_cons ps_never
    (pss_cons ps_never
    (pss_one ps_never)))))), ?_⟩
      exact ⟨_, rfl, d, _, _, rfl, hB.obj, rfl, _, rfl, d, v, x, rfl, hg, hs, hb, q⟩
    · cases hg with
      | str y =>
        refine ⟨_, (pss_cons (ps_expr (C8.pe_mt (c_Desk_check_text T) hr (by decide) (pv 0) (pa_cons (pv 1) pa_nil)))
    (pss_cons (ps_if (pt_cmpR op_ge (pe_fld (pe_fld (pv 0) (by rfl)) (by rfl)) (pe_glob (v := .int 6) rfl (T.g_MOST_PHRASES).choose_spec ⟨_, rfl⟩) (nomark _))
      (pss_one (ps_own T.x_TooMany T.g_TooMany rfl (takes_of rfl rfl rfl rfl) rfl))
      pss_nil)
    (pss_cons ps_never
    (pss_cons ps_never
    (pss_cons ps_never
    (pss_one ps_never)))))), ?_⟩
        refine ⟨_, rfl, d, _, _, rfl, hB.obj, rfl, _, rfl, d, y, rfl, txB_of hb, fun H1 s1 => ?_⟩
        have hB1 := dkS hB s1
        exact ⟨_, rfl, d, _, _, _, _, rfl, hB1.obj, T.k_Desk, T.n_Desk_past, df_past _ _, B.p, _, _, _, _, rfl, hB1.past.raw.obj, T.k_Past, T.n_Past_phrases, pf_phrases _ _, _, _, rfl, rfl, true, congrArg V.bl (decide_eq_true (by omega)), iteT (q _ s1)⟩
      | _ => cases hb
--# Desk.backP
def spBackP (K : PySem.W.Frag) : Sp := fun vs H _ E => ∃ (d : Addr) (fr : List Int) (S : De) (ls : List Line) (F : Addr → Prop) (v u : V) (x : PyData), vs = [.ref d, v, u] ∧ DeK K H d fr S ls F ∧ Gn H v x ∧ phnD S.n x = false ∧
  ∀ H' : Hp, Same H H' → E (.ref (He.ga K "BadPhrase")) none H'
theorem c_Desk_backP {P : Program} {w : World} {K : PySem.W.Frag} {mg : Str → Option Value} {base : Heap} (T : Tx K mg) : MetX P w K mg base 6 (He.ga K "Desk") "back" (spBackP K) := by
  refine metX T.F_Desk_back T.k_Desk T.m_Desk_back (fun _ _ _ _ _ _ us hl => match us, hl with | [_, _, _], _ => rfl) sc_Desk_back (fun vs H Q E h => ?_) (fun cdv A outer s H vs Q E hr h => ?_)
  · obtain ⟨d, fr, S, ls, F, v, u, x, rfl, _⟩ := h
    rfl
  · obtain ⟨d, fr, S, ls, F, v, u, x, rfl, hD, hg, hb, q⟩ := h
    refine ⟨_, (pss_cons (ps_expr (pe_mtX (c_Desk_check_placeP T) hr (by decide) (takes_of rfl rfl rfl rfl) (pv 0) (pa_cons (pv 1) (pa_cons (pv 2) pa_nil))))
    (pss_cons ps_never
    (pss_cons ps_never
    (pss_cons ps_never
    (pss_one ps_never))))), ?_⟩
    obtain ⟨B, hB, hF, _⟩ := id hD
    exact ⟨_, rfl, d, _, _, rfl, hB.obj, rfl, _, rfl, _, rfl, d, fr, S, ls, F, v, u, x, rfl, hD, hg, hb, q⟩
--# Desk.backT
theorem c_Desk_backT {P : Program} {w : World} {K : PySem.W.Frag} {mg : Str → Option Value} {base : Heap} (T : Tx K mg) : MetX P w K mg base 6 (He.ga K "Desk") "back" (spCkPlT K) := by
  refine metX T.F_Desk_back T.k_Desk T.m_Desk_back (fun _ _ _ _ _ _ us hl => match us, hl with | [_, _, _], _ => rfl) sc_Desk_back (fun vs H Q E h => ?_) (fun cdv A outer s H vs Q E hr h => ?_)
  · obtain ⟨d, fr, S, ls, F, p, v, x, rfl, _⟩ := h
    rfl
  · obtain ⟨d, fr, S, ls, F, p, v, x, rfl, hD, hp, hg, hb, q⟩ := h
    refine ⟨_, (pss_cons (ps_expr (pe_mtX (c_Desk_check_placeT T) hr (by decide) (takes_of rfl rfl rfl rfl) (pv 0) (pa_cons (pv 1) (pa_cons (pv 2) pa_nil))))
    (pss_cons ps_never
    (pss_cons ps_never
    (pss_cons ps_never
    (pss_one ps_never))))), ?_⟩
    obtain ⟨B, hB, hF, _⟩ := id hD
    exact ⟨_, rfl, d, _, _, rfl, hB.obj, rfl, _, rfl, _, rfl, d, fr, S, ls, F, p, v, x, rfl, hD, hp, hg, hb, q⟩
def spBackNone (K : PySem.W.Frag) : Sp := fun vs H _ E => ∃ (d : Addr) (fr : List Int) (S : De) (ls : List Line) (F : Addr → Prop) (p t : Nat), vs = [.ref d, .int p, .int t] ∧ DeK K H d fr S ls F ∧ p < S.n ∧ t ≤ fr.length ∧ (S.lie p t).length ≤ (if t = 0 then 1 else 0) ∧
  ∀ H' : Hp, Same H H' → E (.ref (He.ga K "Nothing")) none H'
theorem c_Desk_backNone {P : Program} {w : World} {K : PySem.W.Frag} {mg : Str → Option Value} {base : Heap} (T : Tx K mg) : MetX P w K mg base 6 (He.ga K "Desk") "back" (spBackNone K) := by
  refine metX T.F_Desk_back T.k_Desk T.m_Desk_back (fun _ _ _ _ _ _ us hl => match us, hl with | [_, _, _], _ => rfl) sc_Desk_back (fun vs H Q E h => ?_) (fun cdv A outer s H vs Q E hr h => ?_)
  · obtain ⟨d, fr, S, ls, F, p, t, rfl, _⟩ := h
    rfl
  · obtain ⟨d, fr, S, ls, F, p, t, rfl, hD, hp, ht, hl, q⟩ := h
    refine ⟨_, (pss_cons (ps_expr (C8.pe_mt (c_Desk_check_place T) hr (by decide) (pv 0) (pa_cons (pv 1) (pa_cons (pv 2) pa_nil))))
    (pss_cons (ps_if (pt_not (pt_val (C8.pe_mt (c_Past_can_take_off T) hr (by decide) (pe_fld (pv 0) (by rfl)) (pa_cons (pv 1) (pa_cons (pv 2) pa_nil)))))
      (pss_one (ps_own T.x_Nothing T.g_Nothing rfl (takes_of rfl rfl rfl rfl) rfl))
      pss_nil)
    (pss_cons (ps_set (i := 3) sc_Desk_back.nd rfl (Or.inl rfl) (C8.pe_mt (c_Past_take_off T) hr (by decide) (pe_fld (pv 0) (by rfl)) (pa_cons (pv 1) (pa_cons (pv 2) pa_nil))))
    (pss_cons (ps_expr (pe_bm PySem.F.plainAttrs_list PySem.F.slot_list_append PySem.F.type_list_append mt_append (pe_fld (pv 0) (by rfl)) (pa_cons (pe_tup (pa_cons pe_str (pa_cons (pv 1) (pa_cons (pv 2) (pa_cons (pv 3) pa_nil))))) pa_nil)))
    (pss_one (ps_ret (pv 3))))))), ?_⟩
    obtain ⟨B, hB, hF, h3⟩ := id hD
    refine ⟨_, rfl, d, _, _, rfl, hB.obj, rfl, _, rfl, _, rfl, d, fr, S, ls, F, p, t, rfl, hD, hp, ht, ?_⟩
    refine ⟨_, rfl, d, _, _, _, _, rfl, hB.obj, T.k_Desk, T.n_Desk_past, df_past _ _, B.p, _, _, rfl, hB.past.raw.obj, rfl, _, rfl, _, rfl, B.p, fr, S, B.A, p, t, rfl, hB.past, hp, ht, fun H1 s1 => ⟨false, by rw [decide_eq_false (by omega)], iteT ?_⟩⟩
    exact q H1 s1

--# Desk.nowP
theorem c_Desk_nowP {P : Program} {w : World} {K : PySem.W.Frag} {mg : Str → Option Value} {base : Heap} (T : Tx K mg) : MetX P w K mg base 6 (He.ga K "Desk") "now" (spBackP K) := by
  refine metX T.F_Desk_now T.k_Desk T.m_Desk_now (fun _ _ _ _ _ _ us hl => match us, hl with | [_, _, _], _ => rfl) sc_Desk_now (fun vs H Q E h => ?_) (fun cdv A outer s H vs Q E hr h => ?_)
  · obtain ⟨d, fr, S, ls, F, v, u, x, rfl, _⟩ := h
    rfl
  · obtain ⟨d, fr, S, ls, F, v, u, x, rfl, hD, hg, hb, q⟩ := h
    refine ⟨_, (pss_cons (ps_expr (pe_mtX (c_Desk_check_placeP T) hr (by decide) (takes_of rfl rfl rfl rfl) (pv 0) (pa_cons (pv 1) (pa_cons (pv 2) pa_nil))))
    (pss_cons ps_never
    (pss_one ps_never))), ?_⟩
    obtain ⟨B, hB, hF, _⟩ := id hD
    exact ⟨_, rfl, d, _, _, rfl, hB.obj, rfl, _, rfl, _, rfl, d, fr, S, ls, F, v, u, x, rfl, hD, hg, hb, q⟩
--# Desk.nowT
theorem c_Desk_nowT {P : Program} {w : World} {K : PySem.W.Frag} {mg : Str → Option Value} {base : Heap} (T : Tx K mg) : MetX P w K mg base 6 (He.ga K "Desk") "now" (spCkPlT K) := by
  refine metX T.F_Desk_now T.k_Desk T.m_Desk_now (fun _ _ _ _ _ _ us hl => match us, hl with | [_, _, _], _ => rfl) sc_Desk_now (fun vs H Q E h => ?_) (fun cdv A outer s H vs Q E hr h => ?_)
  · obtain ⟨d, fr, S, ls, F, p, v, x, rfl, _⟩ := h
    rfl
  · obtain ⟨d, fr, S, ls, F, p, v, x, rfl, hD, hp, hg, hb, q⟩ := h
    refine ⟨_, (pss_cons (ps_expr (pe_mtX (c_Desk_check_placeT T) hr (by decide) (takes_of rfl rfl rfl rfl) (pv 0) (pa_cons (pv 1) (pa_cons (pv 2) pa_nil))))
    (pss_cons ps_never
    (pss_one ps_never))), ?_⟩
    obtain ⟨B, hB, hF, _⟩ := id hD
    exact ⟨_, rfl, d, _, _, rfl, hB.obj, rfl, _, rfl, _, rfl, d, fr, S, ls, F, p, v, x, rfl, hD, hp, hg, hb, q⟩
--# Desk.all_putP
theorem sc_Desk_all_put : FnScope ["self", "phrase", "tongue", "number"] ["self", "phrase", "tongue"] (defScope s_Desk_all_put) := ⟨rfl, rfl, rfl, by decide +kernel, rfl, by decide +kernel, by decide +kernel⟩
theorem c_Desk_all_putP {P : Program} {w : World} {K : PySem.W.Frag} {mg : Str → Option Value} {base : Heap} (T : Tx K mg) : MetX P w K mg base 6 (He.ga K "Desk") "all_put" (spBackP K) := by
  refine metX T.F_Desk_all_put T.k_Desk T.m_Desk_all_put (fun _ _ _ _ _ _ us hl => match us, hl with | [_, _, _], _ => rfl) sc_Desk_all_put (fun vs H Q E h => ?_) (fun cdv A outer s H vs Q E hr h => ?_)
  · obtain ⟨d, fr, S, ls, F, v, u, x, rfl, _⟩ := h
    rfl
  · obtain ⟨d, fr, S, ls, F, v, u, x, rfl, hD, hg, hb, q⟩ := h
    refine ⟨_, (pss_cons (ps_expr (pe_mtX (c_Desk_check_placeP T) hr (by decide) (takes_of rfl rfl rfl rfl) (pv 0) (pa_cons (pv 1) (pa_cons (pv 2) pa_nil))))
    (pss_one ps_never)), ?_⟩
    obtain ⟨B, hB, hF, _⟩ := id hD
    exact ⟨_, rfl, d, _, _, rfl, hB.obj, rfl, _, rfl, _, rfl, d, fr, S, ls, F, v, u, x, rfl, hD, hg, hb, q⟩
--# Desk.all_putT
theorem c_Desk_all_putT {P : Program} {w : World} {K : PySem.W.Frag} {mg : Str → Option Value} {base : Heap} (T : Tx K mg) : MetX P w K mg base 6 (He.ga K "Desk") "all_put" (spCkPlT K) := by
  refine metX T.F_Desk_all_put T.k_Desk T.m_Desk_all_put (fun _ _ _ _ _ _ us hl => match us, hl with | [_, _, _], _ => rfl) sc_Desk_all_put (fun vs H Q E h => ?_) (fun cdv A outer s H vs Q E hr h => ?_)
  · obtain ⟨d, fr, S, ls, F, p, v, x, rfl, _⟩ := h
    rfl
  · obtain ⟨d, fr, S, ls, F, p, v, x, rfl, hD, hp, hg, hb, q⟩ := h
    refine ⟨_, (pss_cons (ps_expr (pe_mtX (c_Desk_check_placeT T) hr (by decide) (takes_of rfl rfl rfl rfl) (pv 0) (pa_cons (pv 1) (pa_cons (pv 2) pa_nil))))
    (pss_one ps_never)), ?_⟩
    obtain ⟨B, hB, hF, _⟩ := id hD
    exact ⟨_, rfl, d, _, _, rfl, hB.obj, rfl, _, rfl, _, rfl, d, fr, S, ls, F, p, v, x, rfl, hD, hp, hg, hb, q⟩
--# Desk.rowP
theorem c_Desk_rowP {P : Program} {w : World} {K : PySem.W.Frag} {mg : Str → Option Value} {base : Heap} (T : Tx K mg) : MetX P w K mg base 5 (He.ga K "Desk") "row" (spCkPX K) := by
  refine metX T.F_Desk_row T.k_Desk T.m_Desk_row (fun _ _ _ _ _ _ us hl => match us, hl with | [_, _], _ => rfl) sc_Desk_row (fun vs H Q E h => ?_) (fun cdv A outer s H vs Q E hr h => ?_)
  · obtain ⟨d, fr, S, ls, F, v, x, rfl, _⟩ := h
    rfl
  · obtain ⟨d, fr, S, ls, F, v, x, rfl, hD, hg, hb, q⟩ := h
    refine ⟨_, (pss_cons (ps_expr (pe_mtX (c_Desk_check_phraseX T) hr (by decide) (takes_of rfl rfl rfl rfl) (pv 0) (pa_cons (pv 1) pa_nil)))
    (pss_one ps_never)), ?_⟩
    obtain ⟨B, hB, hF, _⟩ := id hD
    exact ⟨_, rfl, d, _, _, rfl, hB.obj, rfl, _, rfl, d, fr, S, ls, F, v, x, rfl, hD, hg, hb, q⟩
--# Desk.likesP
theorem sc_Desk_likes : FnScope ["self", "phrase", "tongue", "above", "text", "others", "same", "other"] ["self", "phrase", "tongue"] (defScope s_Desk_likes) := ⟨rfl, rfl, rfl, by decide +kernel, rfl, by decide +kernel, by decide +kernel⟩
theorem c_Desk_likesP {P : Program} {w : World} {K : PySem.W.Frag} {mg : Str → Option Value} {base : Heap} (T : Tx K mg) : MetX P w K mg base 5 (He.ga K "Desk") "likes" (spBackP K) := by
  refine metX T.F_Desk_likes T.k_Desk T.m_Desk_likes (fun _ _ _ _ _ _ us hl => match us, hl with | [_, _, _], _ => rfl) sc_Desk_likes (fun vs H Q E h => ?_) (fun cdv A outer s H vs Q E hr h => ?_)
  · obtain ⟨d, fr, S, ls, F, v, u, x, rfl, _⟩ := h
    rfl
  · obtain ⟨d, fr, S, ls, F, v, u, x, rfl, hD, hg, hb, q⟩ := h
    refine ⟨_, (pss_cons (ps_expr (pe_mtX (c_Desk_check_phraseX T) hr (by decide) (takes_of rfl rfl rfl rfl) (pv 0) (pa_cons (pv 1) pa_nil)))
    (pss_cons ps_never
    (pss_cons ps_never
    (pss_cons ps_never
    (pss_cons ps_never
    (pss_cons ps_never
    (pss_one ps_never))))))), ?_⟩
    obtain ⟨B, hB, hF, _⟩ := id hD
    exact ⟨_, rfl, d, _, _, rfl, hB.obj, rfl, _, rfl, d, fr, S, ls, F, v, x, rfl, hD, hg, hb, q⟩
--# Desk.likesT
def spLikesT (K : PySem.W.Frag) : Sp := fun vs H _ E => ∃ (d : Addr) (fr : List Int) (S : De) (ls : List Line) (F : Addr → Prop) (p : Nat) (v : V) (x : PyData), vs = [.ref d, .int p, v] ∧ DeK K H d fr S ls F ∧ p < S.n ∧ Gn H v x ∧ (tonD fr.length x = false ∨ x = .int 0) ∧
  ∀ H' : Hp, Same H H' → E (.ref (He.ga K "BadTongue")) none H'
theorem c_Desk_likesT {P : Program} {w : World} {K : PySem.W.Frag} {mg : Str → Option Value} {base : Heap} (T : Tx K mg) : MetX P w K mg base 5 (He.ga K "Desk") "likes" (spLikesT K) := by
  refine metX T.F_Desk_likes T.k_Desk T.m_Desk_likes (fun _ _ _ _ _ _ us hl => match us, hl with | [_, _, _], _ => rfl) sc_Desk_likes (fun vs H Q E h => ?_) (fun cdv A outer s H vs Q E hr h => ?_)
  · obtain ⟨d, fr, S, ls, F, p, v, x, rfl, _⟩ := h
    rfl
  · obtain ⟨d, fr, S, ls, F, p, v, x, rfl, hD, hp, hg, hb, q⟩ := h
    refine ⟨_, (pss_cons (ps_expr (C8.pe_mt (c_Desk_check_phrase T) hr (by decide) (pv 0) (pa_cons (pv 1) pa_nil)))
    (pss_cons (ps_expr (pe_mtX (c_Desk_check_other_tongueX T) hr (by decide) (takes_of rfl rfl rfl rfl) (pv 0) (pa_cons (pv 2) pa_nil)))
    (pss_cons ps_never
    (pss_cons ps_never
    (pss_cons ps_never
    (pss_cons ps_never
    (pss_one ps_never))))))), ?_⟩
    obtain ⟨B, hB, hF, _⟩ := id hD
    refine ⟨_, rfl, d, _, _, rfl, hB.obj, rfl, _, rfl, d, fr, S, ls, F, p, rfl, hD, hp, ?_⟩
    exact ⟨_, rfl, d, _, _, rfl, hB.obj, rfl, _, rfl, d, fr, S, ls, F, v, x, rfl, hD, hg, hb, q⟩
--# Desk.fillT
theorem sc_Desk_fill : FnScope ["self", "tongue", "phrases", "filled", "phrase", "texts"] ["self", "tongue"] (defScope s_Desk_fill) := ⟨rfl, rfl, rfl, by decide +kernel, rfl, by decide +kernel, by decide +kernel⟩
theorem c_Desk_fillT {P : Program} {w : World} {K : PySem.W.Frag} {mg : Str → Option Value} {base : Heap} (T : Tx K mg) : MetX P w K mg base 5 (He.ga K "Desk") "fill" (spCkOX K) := by
  refine metX T.F_Desk_fill T.k_Desk T.m_Desk_fill (fun _ _ _ _ _ _ us hl => match us, hl with | [_, _], _ => rfl) sc_Desk_fill (fun vs H Q E h => ?_) (fun cdv A outer s H vs Q E hr h => ?_)
  · obtain ⟨d, fr, S, ls, F, v, x, rfl, _⟩ := h
    rfl
  · obtain ⟨d, fr, S, ls, F, v, x, rfl, hD, hg, hb, q⟩ := h
    refine ⟨_, (pss_cons (ps_expr (pe_mtX (c_Desk_check_other_tongueX T) hr (by decide) (takes_of rfl rfl rfl rfl) (pv 0) (pa_cons (pv 1) pa_nil)))
    (pss_cons ps_never
    (pss_cons ps_never
    (pss_cons ps_never
    (pss_one ps_never))))), ?_⟩
    obtain ⟨B, hB, hF, _⟩ := id hD
    exact ⟨_, rfl, d, _, _, rfl, hB.obj, rfl, _, rfl, d, fr, S, ls, F, v, x, rfl, hD, hg, hb, q⟩
--# evenedHX
def spEvHX (K : PySem.W.Frag) : Sp := fun vs H _ E => ∃ (a b : Addr) (fr : List Int) (ps : List Pr) (v : V) (x : PyData), vs = [.ref a, .ref b, v] ∧ LsAt H a fr ∧ FrOk fr ∧ PrsAt H b ps ∧ OldOk fr ps ∧ Rising ps ∧ Gn H v x ∧ hanD x = false ∧ ∀ H', Same H H' → E (.ref (He.ga K "BadHands")) none H'
theorem sc_evened : FnScope ["froms", "old", "hands"] ["froms", "old", "hands"] (defScope s_evened) := ⟨rfl, rfl, rfl, by decide +kernel, rfl, by decide +kernel, by decide +kernel⟩
theorem c_evenedHX {P : Program} {w : World} {K : PySem.W.Frag} {mg : Str → Option Value} {base : Heap} (T : Tx K mg) (B : Tb K mg base) : CalX P w K mg base 7 "evened" (spEvHX K) := by
  refine calX T.F_evened T.g_evened (fun _ _ _ _ _ _ us hl => match us, hl with | [_, _, _], _ => rfl) sc_evened (fun vs H Q E h => ?_) (fun cdv A outer s H vs Q E hr h => ?_)
  · obtain ⟨a, b, fr, ps, v, x, rfl, _⟩ := h
    rfl
  · obtain ⟨a, b, fr, ps, v, x, rfl, ha, fo, ho, oo, up, hg, hb, q⟩ := h
    refine ⟨_, (pss_cons (ps_if (pt_not (pt_val (C8.pe_c (c_is_froms T) hr (by decide) rfl (pa_cons (pv 0) pa_nil))))
      (pss_one ps_never)
      pss_nil)
    (pss_cons (ps_if (pt_not (pt_val (C8.pe_c (c_is_old T) hr (by decide) rfl (pa_cons (pv 0) (pa_cons (pv 1) pa_nil)))))
      (pss_one ps_never)
      pss_nil)
    (pss_cons (ps_if (pt_not (pt_val (C8.pe_c (c_is_handsG T) hr (by decide) rfl (pa_cons (pv 2) pa_nil))))
      (pss_one (ps_own T.x_BadHands T.g_BadHands rfl (takes_of rfl rfl rfl rfl) rfl))
      pss_nil)
    (pss_one ps_never)))), ?_⟩
    refine ⟨_, rfl, a, fr, rfl, ha, fo, fun H1 s1 => ⟨true, rfl, iteF ?_⟩⟩
    refine ⟨_, rfl, _, rfl, a, fr, b, ps, rfl, ha.same s1, ho.same s1, oo, up, fun H2 s2 => ⟨true, rfl, iteF ?_⟩⟩
    have s12 := s1.trans s2
    exact ⟨_, rfl, v, x, rfl, hg.same s12, false, by rw [hb], iteT (q _ s12)⟩
theorem olds_mem {fr : List Int} {S : De} {q : Pr} (h : q ∈ S.olds fr) : 0 ≤ q.1 ∧ q.1 < (S.n : Int) ∧ 1 ≤ q.2 ∧ q.2 ≤ (fr.length : Int) := by
  unfold De.olds De.oldTo at h
  obtain ⟨i, hi, hq⟩ := List.mem_flatMap.mp h
  unfold De.oldOf at hq
  obtain ⟨j, hj, rfl⟩ := List.mem_map.mp hq
  have a := List.mem_range.mp hi
  have b := List.mem_range.mp (List.mem_filter.mp hj).1
  exact ⟨by show (0 : Int) ≤ (i : Int); omega, by show (i : Int) < _; omega, by show (1 : Int) ≤ ((j + 1 : Nat) : Int); omega, by show ((j + 1 : Nat) : Int) ≤ _; omega⟩
theorem olds_rising {fr : List Int} {S : De} : Rising (S.olds fr) := by
  unfold De.olds De.oldTo Rising
  refine List.pairwise_flatMap.mpr ⟨fun i _ => ?_, ?_⟩
  · unfold De.oldOf
    refine List.pairwise_map.mpr ((List.Pairwise.filter _ List.pairwise_lt_range).imp fun {x y} h => .inr ⟨rfl, ?_⟩)
    show ((x + 1 : Nat) : Int) < ((y + 1 : Nat) : Int)
    omega
  · refine List.pairwise_lt_range.imp fun {i j} h x hx y hy => .inl ?_
    unfold De.oldOf at hx hy
    obtain ⟨_, _, rfl⟩ := List.mem_map.mp hx
    obtain ⟨_, _, rfl⟩ := List.mem_map.mp hy
    show (i : Int) < (j : Int)
    omega
theorem olds_ok {fr : List Int} {S : De} (n6 : S.n ≤ 6) (hi : fr.length ≤ 7) : OldOk fr (S.olds fr) := by
  refine ⟨olds_rising.nodup, fun q hq => ?_, ?_⟩
  · have := olds_mem hq
    exact ⟨this.1, by omega, this.2.2.1, this.2.2.2⟩
  · have e : ((List.range 6).flatMap fun (i : Nat) => (List.range 7).map fun (j : Nat) => ((i : Int), (j : Int) + 1)).length = 42 := by decide
    have := sub_len (b := (List.range 6).flatMap fun (i : Nat) => (List.range 7).map fun (j : Nat) => ((i : Int), (j : Int) + 1)) olds_rising.nodup fun q hq => by
      have := olds_mem (fr := fr) (S := S) hq
      refine List.mem_flatMap.mpr ⟨q.1.toNat, List.mem_range.mpr (by omega), List.mem_map.mpr ⟨(q.2 - 1).toNat, List.mem_range.mpr (by omega), ?_⟩⟩
      refine Prod.ext ?_ ?_
      · show ((q.1.toNat : Nat) : Int) = q.1
        omega
      · show (((q.2 - 1).toNat : Nat) : Int) + 1 = q.2
        omega
    omega
--# Desk.roundsX
def spRoundsX (K : PySem.W.Frag) : Sp := fun vs H _ E => ∃ (d : Addr) (fr : List Int) (S : De) (ls : List Line) (F : Addr → Prop) (v : V) (x : PyData), vs = [.ref d, v] ∧ DeK K H d fr S ls F ∧ S.Ok fr ∧ FrOk fr ∧ Gn H v x ∧ hanD x = false ∧
  ∀ H' : Hp, Same H H' → E (.ref (He.ga K "BadHands")) none H'
theorem sc_Desk_rounds : FnScope ["self", "hands"] ["self", "hands"] (defScope s_Desk_rounds) := ⟨rfl, rfl, rfl, by decide +kernel, rfl, by decide +kernel, by decide +kernel⟩
theorem c_Desk_roundsX {P : Program} {w : World} {K : PySem.W.Frag} {mg : Str → Option Value} {base : Heap} (T : Tx K mg) (B : Tb K mg base) : MetX P w K mg base 10 (He.ga K "Desk") "rounds" (spRoundsX K) := by
  refine metX T.F_Desk_rounds T.k_Desk T.m_Desk_rounds (fun _ _ _ _ _ _ us hl => match us, hl with | [_, _], _ => rfl) sc_Desk_rounds (fun vs H Q E h => ?_) (fun cdv A outer s H vs Q E hr h => ?_)
  · obtain ⟨d, fr, S, ls, F, v, x, rfl, _⟩ := h
    rfl
  · obtain ⟨d, fr, S, ls, F, v, x, rfl, hD, ok, fo, hg, hb, q⟩ := h
    refine ⟨_, (pss_one (ps_ret (pe_cX (c_evenedHX T B) hr (by decide) (takes_of rfl rfl rfl rfl) rfl (pa_cons (pe_fld (pe_fld (pv 0) (by rfl)) (by rfl)) (pa_cons (C8.pe_mt0 (c_Desk_old T) hr (by decide) (pv 0)) (pa_cons (pv 1) pa_nil)))))), ?_⟩
    obtain ⟨B, hB, hF, h3⟩ := id hD
    have n6 := ok.six
    have hi7 := fo.hi
    refine ⟨_, rfl, d, _, _, _, _, rfl, hB.obj, T.k_Desk, T.n_Desk_past, df_past _ _, B.p, _, _, _, _, rfl, hB.past.raw.obj, T.k_Past, T.n_Past_froms, pf_froms _ _, ?_⟩
    refine ⟨_, rfl, d, _, _, rfl, hB.obj, rfl, d, fr, S, ls, F, rfl, hD, ok, fo, fun G1 r s1 nr hr1 => ?_⟩
    exact ⟨_, rfl, B.A.f, r, fr, S.olds fr, v, x, rfl, s1 _ _ hB.past.raw.frm, fo, hr1, olds_ok n6 hi7, olds_rising, hg.same s1, hb, fun H' s' => q _ (s1.trans s')⟩
--# Desk.__init__X
def spDeskX (K : PySem.W.Frag) : Sp := fun vs H _ E => ∃ (y : Addr) (v : V) (x : PyData), vs = [.ref y, v] ∧ Gn H v x ∧ frB x = false ∧ ∀ H' : Hp, Same H H' → E (.ref (He.ga K "BadFroms")) none H'
theorem c_DeskX_init {P : Program} {w : World} {K : PySem.W.Frag} {mg : Str → Option Value} {base : Heap} (T : Tx K mg) : MakX P w K mg base 4 "Desk" (He.ga K "Desk") (spDeskX K) := by
  refine makX T.F_Desk_init T.i_Desk T.g_Desk (fun _ _ _ _ _ _ us hl => match us, hl with | [_, _], _ => rfl) sc_Desk_init (fun vs H Q E h => ?_) (fun cdv A outer s H vs Q E hr h => ?_)
  · obtain ⟨y, v, x, rfl, _⟩ := h
    rfl
  · obtain ⟨y, v, x, rfl, hg, hb, q⟩ := h
    refine ⟨_, (pss_cons (ps_if (pt_not (pt_val (C8.pe_c (c_is_fromsG (P := P) (w := w) (K := K) (mg := mg) (base := base) T) hr (by decide) rfl (pa_cons (pv 1) pa_nil))))
      (pss_one (ps_own T.x_BadFroms T.g_BadFroms rfl (takes_of rfl rfl rfl rfl) rfl))
      pss_nil)
    (pss_cons ps_never
    (pss_one ps_never))), ?_⟩
    exact ⟨_, rfl, v, x, rfl, hg, fun H1 s1 => ⟨false, by rw [hb], iteT (q _ s1)⟩⟩

end PD

namespace PD
open PySem PySem.Spec PyProof.Rows L2

/-! Phrasedesk, law_k13: kinds, lambdas, texts -/
open LamX NdefX
--# kinds13
section
variable {K : PySem.W.Frag} {mg : Str → Option Value}
theorem kind_BadPhrase (T : Tx K mg) : KindOf K (He.ga K "BadPhrase") 1 := ⟨T.ki_BadPhrase_BadFroms, T.ki_BadPhrase_BadPhrase, T.ki_BadPhrase_BadTongue, T.ki_BadPhrase_BadText, T.ki_BadPhrase_BadSeen, T.ki_BadPhrase_BadRow, T.ki_BadPhrase_BadOld, T.ki_BadPhrase_BadHands, T.ki_BadPhrase_BadTale, T.ki_BadPhrase_Overtaken, T.ki_BadPhrase_Nothing, T.ki_BadPhrase_TooMany, T.kiT_BadPhrase_ValueError, T.xc_BadPhrase, T.e_BadPhrase_PhraseError⟩
theorem kind_BadText (T : Tx K mg) : KindOf K (He.ga K "BadText") 3 := ⟨T.ki_BadText_BadFroms, T.ki_BadText_BadPhrase, T.ki_BadText_BadTongue, T.ki_BadText_BadText, T.ki_BadText_BadSeen, T.ki_BadText_BadRow, T.ki_BadText_BadOld, T.ki_BadText_BadHands, T.ki_BadText_BadTale, T.ki_BadText_Overtaken, T.ki_BadText_Nothing, T.ki_BadText_TooMany, T.kiT_BadText_ValueError, T.xc_BadText, T.e_BadText_PhraseError⟩
theorem kind_BadSeen (T : Tx K mg) : KindOf K (He.ga K "BadSeen") 4 := ⟨T.ki_BadSeen_BadFroms, T.ki_BadSeen_BadPhrase, T.ki_BadSeen_BadTongue, T.ki_BadSeen_BadText, T.ki_BadSeen_BadSeen, T.ki_BadSeen_BadRow, T.ki_BadSeen_BadOld, T.ki_BadSeen_BadHands, T.ki_BadSeen_BadTale, T.ki_BadSeen_Overtaken, T.ki_BadSeen_Nothing, T.ki_BadSeen_TooMany, T.kiT_BadSeen_ValueError, T.xc_BadSeen, T.e_BadSeen_PhraseError⟩
theorem kind_Overtaken (T : Tx K mg) : KindOf K (He.ga K "Overtaken") 9 := ⟨T.ki_Overtaken_BadFroms, T.ki_Overtaken_BadPhrase, T.ki_Overtaken_BadTongue, T.ki_Overtaken_BadText, T.ki_Overtaken_BadSeen, T.ki_Overtaken_BadRow, T.ki_Overtaken_BadOld, T.ki_Overtaken_BadHands, T.ki_Overtaken_BadTale, T.ki_Overtaken_Overtaken, T.ki_Overtaken_Nothing, T.ki_Overtaken_TooMany, T.kiT_Overtaken_ValueError, T.xc_Overtaken, T.e_Overtaken_PhraseError⟩
theorem kind_Nothing (T : Tx K mg) : KindOf K (He.ga K "Nothing") 10 := ⟨T.ki_Nothing_BadFroms, T.ki_Nothing_BadPhrase, T.ki_Nothing_BadTongue, T.ki_Nothing_BadText, T.ki_Nothing_BadSeen, T.ki_Nothing_BadRow, T.ki_Nothing_BadOld, T.ki_Nothing_BadHands, T.ki_Nothing_BadTale, T.ki_Nothing_Overtaken, T.ki_Nothing_Nothing, T.ki_Nothing_TooMany, T.kiT_Nothing_ValueError, T.xc_Nothing, T.e_Nothing_PhraseError⟩
theorem kind_TooMany (T : Tx K mg) : KindOf K (He.ga K "TooMany") 11 := ⟨T.ki_TooMany_BadFroms, T.ki_TooMany_BadPhrase, T.ki_TooMany_BadTongue, T.ki_TooMany_BadText, T.ki_TooMany_BadSeen, T.ki_TooMany_BadRow, T.ki_TooMany_BadOld, T.ki_TooMany_BadHands, T.ki_TooMany_BadTale, T.ki_TooMany_Overtaken, T.ki_TooMany_Nothing, T.ki_TooMany_TooMany, T.kiT_TooMany_ValueError, T.xc_TooMany, T.e_TooMany_PhraseError⟩
theorem kind_BadFroms (T : Tx K mg) : KindOf K (He.ga K "BadFroms") 0 := ⟨T.ki_BadFroms_BadFroms, T.ki_BadFroms_BadPhrase, T.ki_BadFroms_BadTongue, T.ki_BadFroms_BadText, T.ki_BadFroms_BadSeen, T.ki_BadFroms_BadRow, T.ki_BadFroms_BadOld, T.ki_BadFroms_BadHands, T.ki_BadFroms_BadTale, T.ki_BadFroms_Overtaken, T.ki_BadFroms_Nothing, T.ki_BadFroms_TooMany, T.kiT_BadFroms_ValueError, T.xc_BadFroms, T.e_BadFroms_PhraseError⟩
theorem kind_BadTongue (T : Tx K mg) : KindOf K (He.ga K "BadTongue") 2 := ⟨T.ki_BadTongue_BadFroms, T.ki_BadTongue_BadPhrase, T.ki_BadTongue_BadTongue, T.ki_BadTongue_BadText, T.ki_BadTongue_BadSeen, T.ki_BadTongue_BadRow, T.ki_BadTongue_BadOld, T.ki_BadTongue_BadHands, T.ki_BadTongue_BadTale, T.ki_BadTongue_Overtaken, T.ki_BadTongue_Nothing, T.ki_BadTongue_TooMany, T.kiT_BadTongue_ValueError, T.xc_BadTongue, T.e_BadTongue_PhraseError⟩
theorem kind_BadHands (T : Tx K mg) : KindOf K (He.ga K "BadHands") 7 := ⟨T.ki_BadHands_BadFroms, T.ki_BadHands_BadPhrase, T.ki_BadHands_BadTongue, T.ki_BadHands_BadText, T.ki_BadHands_BadSeen, T.ki_BadHands_BadRow, T.ki_BadHands_BadOld, T.ki_BadHands_BadHands, T.ki_BadHands_BadTale, T.ki_BadHands_Overtaken, T.ki_BadHands_Nothing, T.ki_BadHands_TooMany, T.kiT_BadHands_ValueError, T.xc_BadHands, T.e_BadHands_PhraseError⟩
end
theorem hid_nil {H : Hp} : hidL [] H = H := by
  funext b
  exact if_neg (by simp)
section
variable {P : Program} {w : World} {K : PySem.W.Frag} {mg : Str → Option Value} {base : Heap}
/-- a lambda without cells refuses -/
theorem ref0 {f : Addr} {F : LF} {N : List Str} {tb : XK → TE} {H1 : Hp} {v : V} {n : Nat} (hf : H1 f = some (LmO f F)) (hc : H1 F.c = some (CodeO F.c F.qual)) (C : Calls P w K mg base 13 f (spLam f F N [] tb))
    (rd : ∀ (G : Hp) (E : XK) (Q : VK), Same H1 G → (∀ (G' : Hp) (D : Addr), KindOf K D n → Same G G' → E (.ref D) none G') → tb E (startF N [v] []) G Q) : Refuses P w K mg base H1 f v n :=
  ⟨F, _, hf, C, fun H Q E s k => ⟨s _ _ hf, s _ _ hc, v, [], rfl, rfl, fun z hz => (by simp at hz), by
    rw [hid_nil]
    exact rd H _ _ s fun G' D kn s' _ => k G' D kn s'⟩⟩
/-- one with one cell, which is shown -/
theorem ref1 {f : Addr} {F : LF} {N : List Str} {tb : XK → TE} {H1 : Hp} {v : V} {n : Nat} {z : Addr × Obj × V} (hf : H1 f = some (LmO f F)) (hc : H1 F.c = some (CodeO F.c F.qual)) (C : Calls P w K mg base 13 f (spLam f F N [z.1] tb)) (nn : H1 z.1 = none)
    (rd : ∀ (G : Hp) (E : XK) (Q : VK), Same H1 G → (∀ (G' : Hp) (D : Addr), KindOf K D n → Same G G' → E (.ref D) none G') → tb E (startF N [v] [some z.2.2]) G Q) : Refuses P w K mg base (showL [z] H1) f v n := by
  refine ⟨F, _, show_at (fun a ha => by rw [List.mem_singleton.mp ha]; exact nn) hf, C, fun H Q E s k => ?_⟩
  have ss : Shown [z] H := fun y hy => by
    rw [List.mem_singleton.mp hy]
    exact s _ _ upd_same
  have nz : ∀ a ∈ adrs [z], H1 a = none := fun a ha => by rw [List.mem_singleton.mp ha]; exact nn
  refine ⟨s _ _ (show_at nz hf), s _ _ (show_at nz hc), v, [z], rfl, rfl, ss, rd (hidL [z.1] H) _ _ (fun b o e => ?_) fun G' D kn s' n' => k _ D kn ?_⟩
  · have m : b ∉ [z.1] := fun m => by
      rw [List.mem_singleton.mp m, nn] at e
      cases e
    rw [hidL_ne m]
    exact s _ _ (show_at nz e)
  · intro b o e
    by_cases m : b = z.1
    · subst m
      have h1 := ss z List.mem_cons_self
      rw [h1] at e
      rw [← e]
      exact upd_same
    · show upd G' z.1 _ b = some o
      rw [upd_ne m]
      exact s' _ _ (by rw [hidL_ne (by simpa using m)]; exact e)
end

--# texts
def rRepS : R2 := fun x y H Q => ∃ (s : Str) (k : Int), x = .str s ∧ y = .int k ∧ 1 ≤ s.length ∧ s.length ≤ 1000 ∧ 2 ≤ k ∧ k ≤ 1000 ∧ Q (.str ⟨(List.replicate k.toNat s.cps).foldl (· ++ ·) #[]⟩) H
theorem fold_size (a : Array Nat) : ∀ (n : Nat) (acc : Array Nat), ((List.replicate n a).foldl (· ++ ·) acc).size = acc.size + n * a.size
  | 0, acc => by simp
  | n + 1, acc => by
    rw [List.replicate_succ, List.foldl_cons, fold_size a n, Array.size_append, Nat.succ_mul]
    omega
theorem op_repStr {X : Cx} : OpR X (binaryOp .Mult) rRepS := by
  intro pins s σ H x y v u Q I rx ry h
  obtain ⟨i, k, rfl, rfl, l1, l2, k1, k2, q⟩ := h
  obtain ⟨t, rfl⟩ := rx
  obtain ⟨t', rfl⟩ := ry
  have nk : ¬ k < 1 := by omega
  have ne : (k == 1 || i.length == 0) = false := by
    rw [Bool.or_eq_false_iff]
    exact ⟨beq_false_of_ne (by omega), beq_false_of_ne (by omega)⟩
  refine PySem.P.mul_str ?_ (fun _ _ => ?_) (fun _ _ => ?_) ?_
  · rw [decide_eq_false (show ¬ k < -(2 ^ 63 : Int) by omega), decide_eq_false (show ¬ k ≥ 2 ^ 63 by omega)]
    rfl
  · have : (1000 : Int) ≤ (2 ^ 63 - 1) / k := by
      rw [Int.le_ediv_iff_mul_le (by omega)]
      omega
    omega
  · show decide (_ > sizeLine) = false
    refine decide_eq_false ?_
    have a1 : i.length * k.toNat ≤ 1000 * 1000 := Nat.mul_le_mul l2 (by omega)
    have a2 : 1000 * 1000 ≤ sizeLine := by decide
    omega
  · rw [if_neg nk, ne, if_neg (by decide)]
    refine ⟨?_, .str _, H, I.tok _, ⟨_, rfl⟩, q⟩
    show ((List.replicate k.toNat i.cps).foldl (· ++ ·) #[]).size ≤ sizeLine
    rw [fold_size]
    have a1 : k.toNat * i.cps.size ≤ 1000 * 1000 := Nat.mul_le_mul (by omega) l2
    have a2 : 1000 * 1000 ≤ sizeLine := by decide
    show 0 + _ ≤ _
    omega
def zs (k : Int) : Str := ⟨(List.replicate k.toNat (Str.ofString "z").cps).foldl (· ++ ·) #[]⟩
theorem zs_len (k : Int) : (zs k).length = k.toNat := by
  show ((List.replicate k.toNat (Str.ofString "z").cps).foldl (· ++ ·) #[]).size = k.toNat
  rw [fold_size]
  show 0 + k.toNat * 1 = _
  omega
theorem DT.repS {P : Addr → Prop} {σ : L2.St} {G : Hp} {ta tb : TE} {k : Int} (ha : DT P ta σ G (.str "z")) (hb : DT P tb σ G (.int k)) (h0 : 2 ≤ k) (h1 : k ≤ 1000) : DT P (tOp rRepS ta tb) σ G (.str (zs k)) := fun H Q hp s kk => ha H _ hp s fun H1 v s1 g => hb H1 _ hp (s.trans s1) fun H2 w s2 g2 => by
  cases g
  cases g2
  exact ⟨"z", k, rfl, rfl, by decide, by decide, h0, h1, kk H2 _ (s1.trans s2) (.str _)⟩
--# _law_no_texts
def texts0 (far : Int) : List PyData := [.none, .int 5, .int far, .bool true, .str "", .str "abcdefg", .str "A", .str "a1", .str "a b", .list [.str "a"], .tuple [.str "a"], .dict [], .str (zs (7 + far.fmod 9))]
def texts1 : List PyData := [.str "`", .str "{", .str "a{", .str "aB", .str "b`b", .str "a\n", .str "abcdef\n", .str "abcde\n"]
def badT : PyData → Bool
  | .str x => decide (x.length ≤ 5000) && !txB x
  | _ => true
theorem badT_of {d : PyData} (h : badT d = true) : Short d ∧ txD d = false := by
  cases d with
  | str x =>
    have z : (decide (x.length ≤ 5000) && !txB x) = true := h
    rw [Bool.and_eq_true, Bool.not_eq_true'] at z
    have a : x.length ≤ 5000 := of_decide_eq_true z.1
    exact ⟨a, z.2⟩
  | _ => exact ⟨trivial, rfl⟩
theorem zs_bad {k : Int} (h0 : 7 ≤ k) (h1 : k ≤ 5000) : badT (.str (zs k)) = true := by
  have l := zs_len k
  show (decide ((zs k).length ≤ 5000) && !txB (zs k)) = true
  unfold txB
  rw [decide_eq_false (show ¬ (zs k).length ≤ 6 by omega), Bool.false_and, Bool.and_false, decide_eq_true (show (zs k).length ≤ 5000 by omega)]
  rfl
theorem texts_bad {far : Int} : ∀ d ∈ texts0 far ++ texts1, Short d ∧ txD d = false := by
  intro d h
  have m0 : 0 ≤ far.fmod 9 := Int.fmod_nonneg_of_pos _ (by decide)
  have m9 : far.fmod 9 < 9 := Int.fmod_lt_of_pos _ (by decide)
  refine badT_of ?_
  rw [List.mem_append] at h
  rcases h with h | h
  · unfold texts0 at h
    simp only [List.mem_cons, List.not_mem_nil, or_false] at h
    rcases h with rfl | rfl | rfl | rfl | rfl | rfl | rfl | rfl | rfl | rfl | rfl | rfl | rfl
    · rfl
    · rfl
    · rfl
    · rfl
    · decide +kernel
    · decide +kernel
    · decide +kernel
    · decide +kernel
    · decide +kernel
    · rfl
    · rfl
    · rfl
    · exact zs_bad (by omega) (by omega)
  · have e : ∀ d ∈ texts1, badT d = true := by decide +kernel
    exact e d h
def spNoTexts : Sp := fun vs H Q _ => ∃ far : Int, vs = [.int far] ∧ 0 ≤ far ∧ ∀ (H' : Hp) (a : Addr), Same H H' → GL H' a (texts0 far ++ texts1) → Q (.ref a) H'
theorem sc_law_no_texts : FnScope ["_law_far", "_law_found"] ["_law_far"] (defScope s_law_no_texts) := ⟨rfl, rfl, rfl, by decide +kernel, rfl, by decide +kernel, by decide +kernel⟩
theorem c_law_no_texts {P : Program} {w : World} {K : PySem.W.Frag} {mg : Str → Option Value} {base : Heap} (T : Tx K mg) : C8.Cal P w K mg base 2 "_law_no_texts" (spNoTexts) [] := by
  refine calD T.F_law_no_texts T.g_law_no_texts (fun _ _ _ _ _ _ us hl => match us, hl with | [_], _ => rfl) sc_law_no_texts (fun vs H Q E h => ?_) (fun cdv A outer s H vs Q E hr h => ?_)
  · obtain ⟨far, rfl, _⟩ := h
    rfl
  · obtain ⟨far, rfl, h0, q⟩ := h
    refine ⟨_, (pss_cons (ps_set (i := 1) sc_law_no_texts.nd rfl (Or.inl rfl) (pe_lst (pa_cons pe_non (pa_cons pe_int (pa_cons (pv 0) (pa_cons pe_bl (pa_cons pe_str (pa_cons pe_str (pa_cons pe_str (pa_cons pe_str (pa_cons pe_str (pa_cons (pe_lst (pa_cons pe_str pa_nil)) (pa_cons (pe_tup (pa_cons pe_str pa_nil)) (pa_cons pe_dnewK (pa_cons (pe_op op_repStr pe_str (pe_op op_add pe_int (pe_op op_modN (pv 0) pe_int))) pa_nil)))))))))))))))
    (pss_one (ps_ret (pe_op op_cat (pv 1) (pe_lst (pa_cons pe_str (pa_cons pe_str (pa_cons pe_str (pa_cons pe_str (pa_cons pe_str (pa_cons pe_str (pa_cons pe_str (pa_cons pe_str pa_nil))))))))))))), ?_⟩
    have m0 : 0 ≤ far.fmod 9 := Int.fmod_nonneg_of_pos _ (by decide)
    have m9 : far.fmod 9 < 9 := Int.fmod_lt_of_pos _ (by decide)
    have g : Gn (off P0 H) (V.int far) (.int far) := .int _
    refine DL.asg (ds := texts0 far) ?_ fun H1 a s1 n1 g1 => ?_
    · unfold texts0
      (repeat' (first | exact DT.varI rfl | exact DG.nil | exact DT.non | exact DT.bl _ | exact DT.int _ | exact DT.str _ | exact DT.dnew | refine DG.cons ?_ ?_ | refine DL.lst ?_ ?_ | refine DL.cat ?_ ?_ ?_ | refine DT.lst ?_ ?_ | refine DT.tup ?_ ?_ | refine DT.cat ?_ ?_ ?_ | refine DT.repS ?_ ?_ ?_ ?_ | refine DT.op0 ?_ ?_ | refine DT.un ?_ | refine DT.opC ?_ ?_ ?_ | (refine DT.var rfl ?_; assumption) | (show _ ≤ _; decide) | (simp only [List.length_cons, List.length_nil, List.length_append]; omega) | omega))
    have g1' := gn_p0 g1.gn
    refine DL.ret (ds := texts0 far ++ texts1) ?_ fun H2 b s2 n2 g2 => q H2 b (s1.trans s2) g2
    refine DL.cat (by (repeat' (first | exact DT.varI rfl | exact DG.nil | exact DT.non | exact DT.bl _ | exact DT.int _ | exact DT.str _ | exact DT.dnew | refine DG.cons ?_ ?_ | refine DL.lst ?_ ?_ | refine DL.cat ?_ ?_ ?_ | refine DT.lst ?_ ?_ | refine DT.tup ?_ ?_ | refine DT.cat ?_ ?_ ?_ | refine DT.repS ?_ ?_ ?_ ?_ | refine DT.op0 ?_ ?_ | refine DT.un ?_ | refine DT.opC ?_ ?_ ?_ | (refine DT.var rfl ?_; assumption) | (show _ ≤ _; decide) | (simp only [List.length_cons, List.length_nil, List.length_append]; omega) | omega))) ?_ (by show 13 + 8 ≤ 5000; decide)
    unfold texts1
    (repeat' (first | exact DT.varI rfl | exact DG.nil | exact DT.non | exact DT.bl _ | exact DT.int _ | exact DT.str _ | exact DT.dnew | refine DG.cons ?_ ?_ | refine DL.lst ?_ ?_ | refine DL.cat ?_ ?_ ?_ | refine DT.lst ?_ ?_ | refine DT.tup ?_ ?_ | refine DT.cat ?_ ?_ ?_ | refine DT.repS ?_ ?_ ?_ ?_ | refine DT.op0 ?_ ?_ | refine DT.un ?_ | refine DT.opC ?_ ?_ ?_ | (refine DT.var rfl ?_; assumption) | (show _ ≤ _; decide) | (simp only [List.length_cons, List.length_nil, List.length_append]; omega) | omega))

end PD

namespace PD
open PySem PySem.Spec PyProof.Rows L2

/-! Phrasedesk, law_k13: each lambda refuses -/
open LamX NdefX
--# lambdas13
theorem tx_a : TxOk "a" := ⟨by decide +kernel, by decide +kernel, by decide +kernel⟩
section
variable {P : Program} {w : World} {K : PySem.W.Frag} {mg : Str → Option Value} {base : Heap} {f : Addr} {F : LF} {H1 : Hp} {x : V} {e : PyData} {n1 n2 : Str} {z : Addr × Obj × V} {d : Addr} {fr : List Int} {S : De} {ls : List Line} {Fp : Addr → Prop}
theorem ref_meth {m : Str} {sp : Sp} {ta : TA} {n : Nat} (hm : ∀ p L : Addr, (deskF p L).lookup m = Option.none) (hf : H1 f = some (LmO f F)) (hc : H1 F.c = some (CodeO F.c F.qual)) (C : Calls P w K mg base 13 f (spLam f F [n1, n2] [z.1] fun E => tMeth (He.ga K "Desk") m sp [] E (tVar 1) ta)) (nn : H1 z.1 = Option.none) (ez : z.2.2 = .ref d) (hD : DeK K H1 d fr S ls Fp)
    (rd : ∀ (G : Hp) (E : XK) (Q : VK), Same H1 G → DeK K G d fr S ls Fp → (∀ (G' : Hp) (D : Addr), KindOf K D n → Same G G' → E (.ref D) Option.none G') → ta (startF [n1, n2] [x] [some (.ref d)]) G fun vs G1 => sp (.ref d :: (vs ++ [])) G1 Q E) : Refuses P w K mg base (showL [z] H1) f x n :=
  ref1 hf hc C nn fun G E Q s k => by
    rw [ez]
    obtain ⟨B, hB, _⟩ := id (hD.same s)
    exact ⟨.ref d, rfl, d, _, _, rfl, hB.obj, hm _ _, rd G E Q s (hD.same s) k⟩
theorem ref_desk (T : Tx K mg) (hf : H1 f = some (LmO f F)) (hc : H1 F.c = some (CodeO F.c F.qual)) (C : Calls P w K mg base 13 f (spLam f F [n1] [] fun E => tMake (He.ga K "Desk") (spDeskX K) [] E (tCons (tVar 0) tNil))) (g : Gn H1 x e) (h : frB e = false) : Refuses P w K mg base H1 f x 0 :=
  ref0 hf hc C fun G E Q s k => ⟨x, rfl, fun y dy ny ndy nyd => by
    have s2 : Same G (upd (upd G dy (.own y)) y (.ins (He.ga K "Desk") dy [])) := (same_upd ndy).trans (same_upd (by rw [upd_ne (Ne.symm nyd)]; exact ny))
    exact ⟨y, x, e, rfl, (g.same s).same s2, h, fun H' s' => k H' _ (kind_BadFroms T) (s2.trans s')⟩⟩
theorem rf_putP (T : Tx K mg) (hf : H1 f = some (LmO f F)) (hc : H1 F.c = some (CodeO F.c F.qual)) (C : Calls P w K mg base 13 f (spLam f F [n1, n2] [z.1] fun E => tMeth (He.ga K "Desk") "put" (spPutP K) [] E (tVar 1) (tCons (tVar 0) (tCons (tC V.non) (tCons (tC V.non) (tCons (tC V.non) (tCons (tC V.non) tNil))))))) (nn : H1 z.1 = Option.none) (ez : z.2.2 = .ref d) (hD : DeK K H1 d fr S ls Fp) (g : Gn H1 x e) (h : phnD S.n e = false) : Refuses P w K mg base (showL [z] H1) f x 1 :=
  ref_meth (fun _ _ => rfl) hf hc C nn ez hD fun G E Q s dk k => ⟨x, rfl, d, fr, S, ls, Fp, x, .non, .non, .non, .non, e, rfl, dk, g.same s, h, fun H' s' => k H' _ (kind_BadPhrase T) s'⟩
theorem rf_backP (T : Tx K mg) (hf : H1 f = some (LmO f F)) (hc : H1 F.c = some (CodeO F.c F.qual)) (C : Calls P w K mg base 13 f (spLam f F [n1, n2] [z.1] fun E => tMeth (He.ga K "Desk") "back" (spBackP K) [] E (tVar 1) (tCons (tVar 0) (tCons (tC V.non) tNil)))) (nn : H1 z.1 = Option.none) (ez : z.2.2 = .ref d) (hD : DeK K H1 d fr S ls Fp) (g : Gn H1 x e) (h : phnD S.n e = false) : Refuses P w K mg base (showL [z] H1) f x 1 :=
  ref_meth (fun _ _ => rfl) hf hc C nn ez hD fun G E Q s dk k => ⟨x, rfl, d, fr, S, ls, Fp, x, .non, e, rfl, dk, g.same s, h, fun H' s' => k H' _ (kind_BadPhrase T) s'⟩
theorem rf_nowP (T : Tx K mg) (hf : H1 f = some (LmO f F)) (hc : H1 F.c = some (CodeO F.c F.qual)) (C : Calls P w K mg base 13 f (spLam f F [n1, n2] [z.1] fun E => tMeth (He.ga K "Desk") "now" (spBackP K) [] E (tVar 1) (tCons (tVar 0) (tCons (tC V.non) tNil)))) (nn : H1 z.1 = Option.none) (ez : z.2.2 = .ref d) (hD : DeK K H1 d fr S ls Fp) (g : Gn H1 x e) (h : phnD S.n e = false) : Refuses P w K mg base (showL [z] H1) f x 1 :=
  ref_meth (fun _ _ => rfl) hf hc C nn ez hD fun G E Q s dk k => ⟨x, rfl, d, fr, S, ls, Fp, x, .non, e, rfl, dk, g.same s, h, fun H' s' => k H' _ (kind_BadPhrase T) s'⟩
theorem rf_allP (T : Tx K mg) (hf : H1 f = some (LmO f F)) (hc : H1 F.c = some (CodeO F.c F.qual)) (C : Calls P w K mg base 13 f (spLam f F [n1, n2] [z.1] fun E => tMeth (He.ga K "Desk") "all_put" (spBackP K) [] E (tVar 1) (tCons (tVar 0) (tCons (tC V.non) tNil)))) (nn : H1 z.1 = Option.none) (ez : z.2.2 = .ref d) (hD : DeK K H1 d fr S ls Fp) (g : Gn H1 x e) (h : phnD S.n e = false) : Refuses P w K mg base (showL [z] H1) f x 1 :=
  ref_meth (fun _ _ => rfl) hf hc C nn ez hD fun G E Q s dk k => ⟨x, rfl, d, fr, S, ls, Fp, x, .non, e, rfl, dk, g.same s, h, fun H' s' => k H' _ (kind_BadPhrase T) s'⟩
theorem rf_rowP (T : Tx K mg) (hf : H1 f = some (LmO f F)) (hc : H1 F.c = some (CodeO F.c F.qual)) (C : Calls P w K mg base 13 f (spLam f F [n1, n2] [z.1] fun E => tMeth (He.ga K "Desk") "row" (spCkPX K) [] E (tVar 1) (tCons (tVar 0) tNil))) (nn : H1 z.1 = Option.none) (ez : z.2.2 = .ref d) (hD : DeK K H1 d fr S ls Fp) (g : Gn H1 x e) (h : phnD S.n e = false) : Refuses P w K mg base (showL [z] H1) f x 1 :=
  ref_meth (fun _ _ => rfl) hf hc C nn ez hD fun G E Q s dk k => ⟨x, rfl, d, fr, S, ls, Fp, x, e, rfl, dk, g.same s, h, fun H' s' => k H' _ (kind_BadPhrase T) s'⟩
theorem rf_likP (T : Tx K mg) (hf : H1 f = some (LmO f F)) (hc : H1 F.c = some (CodeO F.c F.qual)) (C : Calls P w K mg base 13 f (spLam f F [n1, n2] [z.1] fun E => tMeth (He.ga K "Desk") "likes" (spBackP K) [] E (tVar 1) (tCons (tVar 0) (tCons (tC V.non) tNil)))) (nn : H1 z.1 = Option.none) (ez : z.2.2 = .ref d) (hD : DeK K H1 d fr S ls Fp) (g : Gn H1 x e) (h : phnD S.n e = false) : Refuses P w K mg base (showL [z] H1) f x 1 :=
  ref_meth (fun _ _ => rfl) hf hc C nn ez hD fun G E Q s dk k => ⟨x, rfl, d, fr, S, ls, Fp, x, .non, e, rfl, dk, g.same s, h, fun H' s' => k H' _ (kind_BadPhrase T) s'⟩
theorem rf_putT (T : Tx K mg) (hf : H1 f = some (LmO f F)) (hc : H1 F.c = some (CodeO F.c F.qual)) (C : Calls P w K mg base 13 f (spLam f F [n1, n2] [z.1] fun E => tMeth (He.ga K "Desk") "put" (spPutT K) [] E (tVar 1) (tCons (tC (V.int 1)) (tCons (tVar 0) (tCons (tC V.non) (tCons (tC V.non) (tCons (tC V.non) tNil))))))) (nn : H1 z.1 = Option.none) (ez : z.2.2 = .ref d) (hD : DeK K H1 d fr S ls Fp) (g : Gn H1 x e) (hp : 1 < S.n) (h : tonD fr.length e = false) : Refuses P w K mg base (showL [z] H1) f x 2 :=
  ref_meth (fun _ _ => rfl) hf hc C nn ez hD fun G E Q s dk k => ⟨x, rfl, d, fr, S, ls, Fp, 1, x, .non, .non, .non, e, rfl, dk, hp, g.same s, h, fun H' s' => k H' _ (kind_BadTongue T) s'⟩
theorem rf_backT (T : Tx K mg) (hf : H1 f = some (LmO f F)) (hc : H1 F.c = some (CodeO F.c F.qual)) (C : Calls P w K mg base 13 f (spLam f F [n1, n2] [z.1] fun E => tMeth (He.ga K "Desk") "back" (spCkPlT K) [] E (tVar 1) (tCons (tC (V.int 0)) (tCons (tVar 0) tNil)))) (nn : H1 z.1 = Option.none) (ez : z.2.2 = .ref d) (hD : DeK K H1 d fr S ls Fp) (g : Gn H1 x e) (hp : 0 < S.n) (h : tonD fr.length e = false) : Refuses P w K mg base (showL [z] H1) f x 2 :=
  ref_meth (fun _ _ => rfl) hf hc C nn ez hD fun G E Q s dk k => ⟨x, rfl, d, fr, S, ls, Fp, 0, x, e, rfl, dk, hp, g.same s, h, fun H' s' => k H' _ (kind_BadTongue T) s'⟩
theorem rf_nowT (T : Tx K mg) (hf : H1 f = some (LmO f F)) (hc : H1 F.c = some (CodeO F.c F.qual)) (C : Calls P w K mg base 13 f (spLam f F [n1, n2] [z.1] fun E => tMeth (He.ga K "Desk") "now" (spCkPlT K) [] E (tVar 1) (tCons (tC (V.int 1)) (tCons (tVar 0) tNil)))) (nn : H1 z.1 = Option.none) (ez : z.2.2 = .ref d) (hD : DeK K H1 d fr S ls Fp) (g : Gn H1 x e) (hp : 1 < S.n) (h : tonD fr.length e = false) : Refuses P w K mg base (showL [z] H1) f x 2 :=
  ref_meth (fun _ _ => rfl) hf hc C nn ez hD fun G E Q s dk k => ⟨x, rfl, d, fr, S, ls, Fp, 1, x, e, rfl, dk, hp, g.same s, h, fun H' s' => k H' _ (kind_BadTongue T) s'⟩
theorem rf_allT (T : Tx K mg) (hf : H1 f = some (LmO f F)) (hc : H1 F.c = some (CodeO F.c F.qual)) (C : Calls P w K mg base 13 f (spLam f F [n1, n2] [z.1] fun E => tMeth (He.ga K "Desk") "all_put" (spCkPlT K) [] E (tVar 1) (tCons (tC (V.int 0)) (tCons (tVar 0) tNil)))) (nn : H1 z.1 = Option.none) (ez : z.2.2 = .ref d) (hD : DeK K H1 d fr S ls Fp) (g : Gn H1 x e) (hp : 0 < S.n) (h : tonD fr.length e = false) : Refuses P w K mg base (showL [z] H1) f x 2 :=
  ref_meth (fun _ _ => rfl) hf hc C nn ez hD fun G E Q s dk k => ⟨x, rfl, d, fr, S, ls, Fp, 0, x, e, rfl, dk, hp, g.same s, h, fun H' s' => k H' _ (kind_BadTongue T) s'⟩
theorem rf_likT (T : Tx K mg) (hf : H1 f = some (LmO f F)) (hc : H1 F.c = some (CodeO F.c F.qual)) (C : Calls P w K mg base 13 f (spLam f F [n1, n2] [z.1] fun E => tMeth (He.ga K "Desk") "likes" (spLikesT K) [] E (tVar 1) (tCons (tC (V.int 0)) (tCons (tVar 0) tNil)))) (nn : H1 z.1 = Option.none) (ez : z.2.2 = .ref d) (hD : DeK K H1 d fr S ls Fp) (g : Gn H1 x e) (hp : 0 < S.n) (h : tonD fr.length e = false ∨ e = .int 0) : Refuses P w K mg base (showL [z] H1) f x 2 :=
  ref_meth (fun _ _ => rfl) hf hc C nn ez hD fun G E Q s dk k => ⟨x, rfl, d, fr, S, ls, Fp, 0, x, e, rfl, dk, hp, g.same s, h, fun H' s' => k H' _ (kind_BadTongue T) s'⟩
theorem rf_filT (T : Tx K mg) (hf : H1 f = some (LmO f F)) (hc : H1 F.c = some (CodeO F.c F.qual)) (C : Calls P w K mg base 13 f (spLam f F [n1, n2] [z.1] fun E => tMeth (He.ga K "Desk") "fill" (spCkOX K) [] E (tVar 1) (tCons (tVar 0) tNil))) (nn : H1 z.1 = Option.none) (ez : z.2.2 = .ref d) (hD : DeK K H1 d fr S ls Fp) (g : Gn H1 x e) (h : tonD fr.length e = false ∨ e = .int 0) : Refuses P w K mg base (showL [z] H1) f x 2 :=
  ref_meth (fun _ _ => rfl) hf hc C nn ez hD fun G E Q s dk k => ⟨x, rfl, d, fr, S, ls, Fp, x, e, rfl, dk, g.same s, h, fun H' s' => k H' _ (kind_BadTongue T) s'⟩
theorem rf_rndH (T : Tx K mg) (hf : H1 f = some (LmO f F)) (hc : H1 F.c = some (CodeO F.c F.qual)) (C : Calls P w K mg base 13 f (spLam f F [n1, n2] [z.1] fun E => tMeth (He.ga K "Desk") "rounds" (spRoundsX K) [] E (tVar 1) (tCons (tVar 0) tNil))) (nn : H1 z.1 = Option.none) (ez : z.2.2 = .ref d) (hD : DeK K H1 d fr S ls Fp) (g : Gn H1 x e) (ok : S.Ok fr) (fo : FrOk fr) (h : hanD e = false) : Refuses P w K mg base (showL [z] H1) f x 7 :=
  ref_meth (fun _ _ => rfl) hf hc C nn ez hD fun G E Q s dk k => ⟨x, rfl, d, fr, S, ls, Fp, x, e, rfl, dk, ok, fo, g.same s, h, fun H' s' => k H' _ (kind_BadHands T) s'⟩
theorem rf_phrX (T : Tx K mg) (hf : H1 f = some (LmO f F)) (hc : H1 F.c = some (CodeO F.c F.qual)) (C : Calls P w K mg base 13 f (spLam f F [n1, n2] [z.1] fun E => tMeth (He.ga K "Desk") "phrase" (spPhX K) [] E (tVar 1) (tCons (tVar 0) tNil))) (nn : H1 z.1 = Option.none) (ez : z.2.2 = .ref d) (hD : DeK K H1 d fr S ls Fp) (g : Gn H1 x e) (hs : Short e) (h : txD e = false) : Refuses P w K mg base (showL [z] H1) f x 3 :=
  ref_meth (fun _ _ => rfl) hf hc C nn ez hD fun G E Q s dk k => ⟨x, rfl, d, fr, S, ls, Fp, x, e, rfl, dk, g.same s, hs, .inl ⟨h, fun H' s' => k H' _ (kind_BadText T) s'⟩⟩
theorem rf_phrM (T : Tx K mg) (hf : H1 f = some (LmO f F)) (hc : H1 F.c = some (CodeO F.c F.qual)) (C : Calls P w K mg base 13 f (spLam f F [n1, n2] [z.1] fun E => tMeth (He.ga K "Desk") "phrase" (spPhX K) [] E (tVar 1) (tCons (tVar 0) tNil))) (nn : H1 z.1 = Option.none) (ez : z.2.2 = .ref d) (hD : DeK K H1 d fr S ls Fp) (g : Gn H1 x e) (hs : Short e) (h : txD e = true) (n6 : S.n = 6) : Refuses P w K mg base (showL [z] H1) f x 11 :=
  ref_meth (fun _ _ => rfl) hf hc C nn ez hD fun G E Q s dk k => ⟨x, rfl, d, fr, S, ls, Fp, x, e, rfl, dk, g.same s, hs, .inr ⟨h, n6, fun H' s' => k H' _ (kind_TooMany T) s'⟩⟩
theorem rf_putX (T : Tx K mg) (hf : H1 f = some (LmO f F)) (hc : H1 F.c = some (CodeO F.c F.qual)) (C : Calls P w K mg base 13 f (spLam f F [n1, n2] [z.1] fun E => tMeth (He.ga K "Desk") "put" (spPutX K) [] E (tVar 1) (tCons (tC (V.int 0)) (tCons (tC (V.int 1)) (tCons (tVar 0) (tCons (tC V.non) (tCons (tC V.non) tNil))))))) (nn : H1 z.1 = Option.none) (ez : z.2.2 = .ref d) (hD : DeK K H1 d fr S ls Fp) (g : Gn H1 x e) (hp : 0 < S.n) (ht : 1 ≤ fr.length) (hs : Short e) (h : txD e = false) : Refuses P w K mg base (showL [z] H1) f x 3 :=
  ref_meth (fun _ _ => rfl) hf hc C nn ez hD fun G E Q s dk k => ⟨x, rfl, d, fr, S, ls, Fp, 0, 1, x, .non, .non, e, rfl, dk, hp, ht, g.same s, hs, h, fun H' s' => k H' _ (kind_BadText T) s'⟩
theorem rf_putS0 (T : Tx K mg) (hf : H1 f = some (LmO f F)) (hc : H1 F.c = some (CodeO F.c F.qual)) (C : Calls P w K mg base 13 f (spLam f F [n1, n2] [z.1] fun E => tMeth (He.ga K "Desk") "put" (spPutS K) [] E (tVar 1) (tCons (tC (V.int 0)) (tCons (tC (V.int 0)) (tCons (tC (V.str "a")) (tCons (tVar 0) (tCons (tC (V.int 5)) tNil))))))) (nn : H1 z.1 = Option.none) (ez : z.2.2 = .ref d) (hD : DeK K H1 d fr S ls Fp) (g : Gn H1 x e) (fo : FrOk fr) (hp : 0 < S.n) (ht : 0 ≤ fr.length) (h : seD fr S 0 0 e = false) : Refuses P w K mg base (showL [z] H1) f x 4 :=
  ref_meth (fun _ _ => rfl) hf hc C nn ez hD fun G E Q s dk k => ⟨x, rfl, d, fr, S, ls, Fp, 0, 0, "a", x, .int 5, e, rfl, dk, fo, hp, ht, tx_a, g.same s, h, fun H' s' => k H' _ (kind_BadSeen T) s'⟩
theorem rf_putS1 (T : Tx K mg) (hf : H1 f = some (LmO f F)) (hc : H1 F.c = some (CodeO F.c F.qual)) (C : Calls P w K mg base 13 f (spLam f F [n1, n2] [z.1] fun E => tMeth (He.ga K "Desk") "put" (spPutS K) [] E (tVar 1) (tCons (tC (V.int 0)) (tCons (tC (V.int 1)) (tCons (tC (V.str "a")) (tCons (tVar 0) (tCons (tC (V.int 5)) tNil))))))) (nn : H1 z.1 = Option.none) (ez : z.2.2 = .ref d) (hD : DeK K H1 d fr S ls Fp) (g : Gn H1 x e) (fo : FrOk fr) (hp : 0 < S.n) (ht : 1 ≤ fr.length) (h : seD fr S 0 1 e = false) : Refuses P w K mg base (showL [z] H1) f x 4 :=
  ref_meth (fun _ _ => rfl) hf hc C nn ez hD fun G E Q s dk k => ⟨x, rfl, d, fr, S, ls, Fp, 0, 1, "a", x, .int 5, e, rfl, dk, fo, hp, ht, tx_a, g.same s, h, fun H' s' => k H' _ (kind_BadSeen T) s'⟩
theorem rf_putS2 (T : Tx K mg) (hf : H1 f = some (LmO f F)) (hc : H1 F.c = some (CodeO F.c F.qual)) (C : Calls P w K mg base 13 f (spLam f F [n1, n2] [z.1] fun E => tMeth (He.ga K "Desk") "put" (spPutS K) [] E (tVar 1) (tCons (tC (V.int 0)) (tCons (tC (V.int 2)) (tCons (tC (V.str "a")) (tCons (tVar 0) (tCons (tC (V.int 5)) tNil))))))) (nn : H1 z.1 = Option.none) (ez : z.2.2 = .ref d) (hD : DeK K H1 d fr S ls Fp) (g : Gn H1 x e) (fo : FrOk fr) (hp : 0 < S.n) (ht : 2 ≤ fr.length) (h : seD fr S 0 2 e = false) : Refuses P w K mg base (showL [z] H1) f x 4 :=
  ref_meth (fun _ _ => rfl) hf hc C nn ez hD fun G E Q s dk k => ⟨x, rfl, d, fr, S, ls, Fp, 0, 2, "a", x, .int 5, e, rfl, dk, fo, hp, ht, tx_a, g.same s, h, fun H' s' => k H' _ (kind_BadSeen T) s'⟩
theorem rf_putO0 (T : Tx K mg) (hf : H1 f = some (LmO f F)) (hc : H1 F.c = some (CodeO F.c F.qual)) (C : Calls P w K mg base 13 f (spLam f F [n1, n2] [z.1] fun E => tMeth (He.ga K "Desk") "put" (spPutO K) [] E (tVar 1) (tCons (tC (V.int 0)) (tCons (tC (V.int 0)) (tCons (tC (V.str "a")) (tCons (tC V.non) (tCons (tVar 0) tNil))))))) (nn : H1 z.1 = Option.none) (ez : z.2.2 = .ref d) (hD : DeK K H1 d fr S ls Fp) (g : Gn H1 x e) (fo : FrOk fr) (hp : 0 < S.n) (ht : 0 ≤ fr.length) (sn : (Option.none : Option Int) ∈ S.seens fr 0 0) (h : ovD (S.now 0 0) e = false) : Refuses P w K mg base (showL [z] H1) f x 9 :=
  ref_meth (fun _ _ => rfl) hf hc C nn ez hD fun G E Q s dk k => ⟨x, rfl, d, fr, S, ls, Fp, 0, 0, "a", Option.none, x, e, rfl, dk, fo, hp, ht, tx_a, sn, g.same s, h, fun H' s' => k H' _ (kind_Overtaken T) s'⟩
theorem rf_putO1 (T : Tx K mg) (hf : H1 f = some (LmO f F)) (hc : H1 F.c = some (CodeO F.c F.qual)) (C : Calls P w K mg base 13 f (spLam f F [n1, n2] [z.1] fun E => tMeth (He.ga K "Desk") "put" (spPutO K) [] E (tVar 1) (tCons (tC (V.int 0)) (tCons (tC (V.int 1)) (tCons (tC (V.str "a")) (tCons (tC (V.int 0)) (tCons (tVar 0) tNil))))))) (nn : H1 z.1 = Option.none) (ez : z.2.2 = .ref d) (hD : DeK K H1 d fr S ls Fp) (g : Gn H1 x e) (fo : FrOk fr) (hp : 0 < S.n) (ht : 1 ≤ fr.length) (sn : (some 0 : Option Int) ∈ S.seens fr 0 1) (h : ovD (S.now 0 1) e = false) : Refuses P w K mg base (showL [z] H1) f x 9 :=
  ref_meth (fun _ _ => rfl) hf hc C nn ez hD fun G E Q s dk k => ⟨x, rfl, d, fr, S, ls, Fp, 0, 1, "a", some 0, x, e, rfl, dk, fo, hp, ht, tx_a, sn, g.same s, h, fun H' s' => k H' _ (kind_Overtaken T) s'⟩
theorem rf_putO2 (T : Tx K mg) (hf : H1 f = some (LmO f F)) (hc : H1 F.c = some (CodeO F.c F.qual)) (C : Calls P w K mg base 13 f (spLam f F [n1, n2] [z.1] fun E => tMeth (He.ga K "Desk") "put" (spPutO K) [] E (tVar 1) (tCons (tC (V.int 0)) (tCons (tC (V.int 2)) (tCons (tC (V.str "a")) (tCons (tC (V.int 2)) (tCons (tVar 0) tNil))))))) (nn : H1 z.1 = Option.none) (ez : z.2.2 = .ref d) (hD : DeK K H1 d fr S ls Fp) (g : Gn H1 x e) (fo : FrOk fr) (hp : 0 < S.n) (ht : 2 ≤ fr.length) (sn : (some 2 : Option Int) ∈ S.seens fr 0 2) (h : ovD (S.now 0 2) e = false) : Refuses P w K mg base (showL [z] H1) f x 9 :=
  ref_meth (fun _ _ => rfl) hf hc C nn ez hD fun G E Q s dk k => ⟨x, rfl, d, fr, S, ls, Fp, 0, 2, "a", some 2, x, e, rfl, dk, fo, hp, ht, tx_a, sn, g.same s, h, fun H' s' => k H' _ (kind_Overtaken T) s'⟩
theorem rf_backN {t : Nat} (T : Tx K mg) (hf : H1 f = some (LmO f F)) (hc : H1 F.c = some (CodeO F.c F.qual)) (C : Calls P w K mg base 13 f (spLam f F [n1, n2] [z.1] fun E => tMeth (He.ga K "Desk") "back" (spBackNone K) [] E (tVar 1) (tCons (tC (V.int 0)) (tCons (tVar 0) tNil)))) (nn : H1 z.1 = Option.none) (ez : z.2.2 = .ref d) (hD : DeK K H1 d fr S ls Fp) (g : Gn H1 x (.int (t : Int))) (hp : 0 < S.n) (ht : t ≤ fr.length) (hl : (S.lie 0 t).length ≤ (if t = 0 then 1 else 0)) : Refuses P w K mg base (showL [z] H1) f x 10 := by
  cases g
  exact ref_meth (fun _ _ => rfl) hf hc C nn ez hD fun G E Q s dk k => ⟨_, rfl, d, fr, S, ls, Fp, 0, t, rfl, dk, hp, ht, hl, fun H' s' => k H' _ (kind_Nothing T) s'⟩
end

end PD

namespace PD
open PySem PySem.Spec PyProof.Rows L2

/-! Phrasedesk, law_k13: what a desk tells; its small desk -/
open LamX NdefX
--# told13
abbrev NoP : Addr → Prop := fun _ => False
def toldD (fr : List Int) (S : De) (ls : List Line) : PyData := .list [dLs ls, dPs (S.olds fr), .list [dRow (S.row (fr.length + 1) 0), dRow (S.row (fr.length + 1) 1)]]
theorem dna_snoc {P : Addr → Prop} {H : Hp} {v : V} {d : PyData} : ∀ {us : List V} {ds : List PyData}, DnAll P H us ds → Dn P H v d → DnAll P H (us ++ [v]) (ds ++ [d])
  | _, _, .nil, b => .cons b .nil
  | _, _, .cons x y, b => .cons x (dna_snoc y b)
--# _law_told_of
def spTold (K : PySem.W.Frag) : Sp := fun vs H Q _ => ∃ (d : Addr) (fr : List Int) (S : De) (ls : List Line) (F : Addr → Prop), vs = [.ref d] ∧ DeK K H d fr S ls F ∧ S.Ok fr ∧ FrOk fr ∧ 1 < S.n ∧ ∀ (H' : Hp) (r : Addr), Same H H' → Dn NoP H' (.ref r) (toldD fr S ls) → Q (.ref r) H'
theorem sc_law_told_of : FnScope ["_law_desk", "_law_phrase"] ["_law_desk"] (defScope s_law_told_of) := ⟨rfl, rfl, rfl, by decide +kernel, rfl, by decide +kernel, by decide +kernel⟩
theorem c_law_told_of {P : Program} {w : World} {K : PySem.W.Frag} {mg : Str → Option Value} {base : Heap} (T : Tx K mg) : C8.Cal P w K mg base 7 "_law_told_of" (spTold K) [] := by
  refine calD T.F_law_told_of T.g_law_told_of (fun _ _ _ _ _ _ us hl => match us, hl with | [_], _ => rfl) sc_law_told_of (fun vs H Q E h => ?_) (fun cdv A outer s H vs Q E hr h => ?_)
  · obtain ⟨d, fr, S, ls, F, rfl, _⟩ := h
    rfl
  · obtain ⟨d, fr, S, ls, F, rfl, hD, ok, fo, n1, q⟩ := h
    refine ⟨_, (pss_one (ps_ret (pe_lst (pa_cons (C8.pe_mt0 (c_Desk_tale T) hr (by decide) (pv 0)) (pa_cons (C8.pe_mt0 (c_Desk_old T) hr (by decide) (pv 0)) (pa_cons (pe_lc (own := [("_law_phrase", 1)]) (g := gName 1) (tt := tYes) (by rfl) sc_law_told_of.nd (pi_range1 (by rfl) T.f_range (pa_cons pe_int pa_nil)) (blkOk_by (own := [("_law_phrase", 1)]) (N := ["_law_desk", "_law_phrase"]) (sc := defScope s_law_told_of) (by decide +kernel)) (fun _ _ _ _ _ => (pg_name (i := 1) sc_law_told_of.nd rfl (Or.inl rfl))) (fun _ _ _ _ _ => pts_nil) (fun _ _ _ _ _ => (C8.pe_mt (c_Desk_row T) hr (by decide) (pv 0) (pa_cons (pv 1) pa_nil)))) pa_nil)))))), ?_⟩
    obtain ⟨B, hB, _⟩ := id hD
    refine ⟨_, rfl, d, _, _, rfl, hB.obj, rfl, d, fr, S, ls, F, rfl, hD, fun H1 r1 s1 nr1 h1 => ?_⟩
    have z1 := dn_lns (P := NoP) (fun z => z.elim) h1
    refine ⟨_, rfl, d, _, _, rfl, s1 _ _ hB.obj, rfl, d, fr, S, ls, F, rfl, hD.same s1, ok, fo, fun H2 r2 s2 nr2 h2 => ?_⟩
    have z2 := dn_prs (P := NoP) (fun z => z.elim) h2
    have s12 := s1.trans s2
    refine ⟨2, rfl, by decide, by decide, fun D nD => ?_⟩
    refine lc_range (lo := 0) (n := 2) (fun i H3 => Same H2 H3 ∧ ∃ us, H3 D = some (.lst us) ∧ DnAll (· = D) H3 us ((List.range i).map fun p => dRow (S.row (fr.length + 1) p))) ⟨same_upd nD, [], upd_same, .nil⟩ ?_ ?_
    · rintro i H3 hi ⟨s3, us, hU, aU⟩
      rw [show (0 + (i : Int)) = (i : Int) from Int.zero_add _]
      refine ⟨rfl, _, rfl, d, _, _, rfl, s3 _ _ (s12 _ _ hB.obj), rfl, _, rfl, d, fr, S, ls, F, i, rfl, hD.same (s12.trans s3), ok.num, fo, by omega, fun H4 r s4 nr hr4 => ?_⟩
      have hU4 := s4 _ _ hU
      have nrD : ¬ r = D := fun z => by
        rw [z, hU] at nr
        cases nr
      have a4 := dna_snoc (aU.same s4) (dn_row (P := (· = D)) nrD hr4)
      have ln := aU.len
      rw [List.length_map, List.length_range] at ln
      refine ⟨us, hU4, small5000 (by omega), Same.chg (s3.trans s4) nD, us ++ [.ref r], upd_same, ?_⟩
      rw [List.range_succ, List.map_append]
      exact a4.keep (fun a xs n e => ⟨n, by rw [upd_ne n]; exact e⟩) fun a xs e => by
        rw [upd_ne (fun z => by rw [z, hU4] at e; cases e)]
        exact e
    rintro H3 ⟨s3, us, hU, aU⟩
    refine ⟨(by show 3 ≤ sizeLine; decide), fun r nr => ?_⟩
    have s4 := s3.trans (same_upd nr (o := .lst [.ref r1, .ref r2, .ref D]))
    refine q _ r (s12.trans s4) ?_
    exact .lst (fun z => z.elim) upd_same (.cons (z1.same (s2.trans s4)) (.cons (z2.same s4) (.cons (.lst (fun z => z.elim) ((same_upd nr) _ _ hU) ((aU.mono (fun _ z => z.elim)).same (same_upd nr))) .nil)))
--# desk13
theorem fr01 : FrOk [0, 1] := ⟨by decide, by decide, fun i x e => by
  match i, e with
  | 0, e => cases (Option.some.inj e); exact ⟨by decide, by decide⟩
  | 1, e => cases (Option.some.inj e); exact ⟨by decide, by decide⟩⟩
theorem fr7 : FrOk [0, 1, 2, 3, 4, 5, 6] := ⟨by decide, by decide, fun i x e => by
  match i, e with
  | 0, e => cases (Option.some.inj e); exact ⟨by decide, by decide⟩
  | 1, e => cases (Option.some.inj e); exact ⟨by decide, by decide⟩
  | 2, e => cases (Option.some.inj e); exact ⟨by decide, by decide⟩
  | 3, e => cases (Option.some.inj e); exact ⟨by decide, by decide⟩
  | 4, e => cases (Option.some.inj e); exact ⟨by decide, by decide⟩
  | 5, e => cases (Option.some.inj e); exact ⟨by decide, by decide⟩
  | 6, e => cases (Option.some.inj e); exact ⟨by decide, by decide⟩⟩
theorem tx_ab : TxOk "ab" := ⟨by decide +kernel, by decide +kernel, by decide +kernel⟩
theorem tx_cd : TxOk "cd" := ⟨by decide +kernel, by decide +kernel, by decide +kernel⟩
theorem tx_x : TxOk "x" := ⟨by decide +kernel, by decide +kernel, by decide +kernel⟩
theorem tx_zz : TxOk "zz" := ⟨by decide +kernel, by decide +kernel, by decide +kernel⟩
def dS1 : De := De.none.more.lay 0 0 "ab" Option.none
def dL1 : List Line := [.phrase 0 "ab" 0]
def dS2 : De := dS1.more.lay 1 0 "cd" Option.none
def dL2 : List Line := dL1 ++ [.phrase 1 "cd" 1]
def dS3 : De := dS2.lay 0 1 "x" (some 0)
def dL3 : List Line := dL2 ++ [.put 0 1 "x" (some 0) Option.none 2]
theorem m_d1 : De.none.May [0, 1] (.phrase "ab") := ⟨by decide, tx_ab⟩
theorem m_d2 : dS1.May [0, 1] (.phrase "cd") := ⟨by decide, tx_cd⟩
theorem m_d3 : dS2.May [0, 1] (.put 0 1 "x" (some ((0 : Nat) : Int)) Option.none) := ⟨by decide, by decide, tx_x, rfl, (fun z => nomatch z), fun _ => ⟨0, rfl, _, rfl, rfl, rfl⟩⟩
theorem dS_ok : dS3.Ok [0, 1] := (((De.none_ok.come fr01 m_d1).1.come fr01 m_d2).1.come fr01 m_d3).1
/-- what is no tongue of three, the source told apart -/
theorem dS_facts : dS3.n = 2 ∧ dS3.puts.length = 3 ∧ dS3.now 0 0 = some 0 ∧ dS3.now 0 1 = some 2 ∧ dS3.now 0 2 = Option.none ∧ dS3.seens [0, 1] 0 0 = [Option.none] ∧ dS3.seens [0, 1] 0 1 = [some 0] ∧ dS3.seens [0, 1] 0 2 = [some 2] ∧ (dS3.lie 0 0).length = 1 ∧ (dS3.lie 0 2).length = 0 := by
  refine ⟨rfl, rfl, rfl, rfl, rfl, rfl, rfl, rfl, rfl, rfl⟩
/-- strange ones -/
theorem str_all {far : Int} (h0 : 0 ≤ far) {e : PyData} (h : e ∈ strD far) : phnD 2 e = false ∧ tonD 2 e = false ∧ hanD e = false ∧ seD [0, 1] dS3 0 1 e = false ∧ seD [0, 1] dS3 0 2 e = false ∧ ovD (dS3.now 0 1) e = false := by
  unfold strD at h
  simp only [List.mem_cons, List.not_mem_nil, or_false] at h
  rcases h with rfl | rfl | rfl | rfl | rfl | rfl | rfl | rfl | rfl
  all_goals first | exact ⟨rfl, rfl, rfl, rfl, rfl, rfl⟩ | skip
  have hn : ∀ k : Int, 0 ≤ k → decide ((some (-1 - far) : Option Int) = some k) = false := fun k hk => decide_eq_false fun z => by
    have := Option.some.inj z
    omega
  refine ⟨?_, ?_, ?_, ?_, ?_, hn 2 (by decide)⟩
  · show (decide (0 ≤ -1 - far) && decide (-1 - far < ((2 : Nat) : Int))) = false
    rw [decide_eq_false (show ¬ 0 ≤ -1 - far by omega)]
    rfl
  · show (decide (0 ≤ -1 - far) && decide (-1 - far ≤ ((2 : Nat) : Int))) = false
    rw [decide_eq_false (show ¬ 0 ≤ -1 - far by omega)]
    rfl
  · show (decide (1 ≤ -1 - far) && decide (-1 - far ≤ 4)) = false
    rw [decide_eq_false (show ¬ 1 ≤ -1 - far by omega)]
    rfl
  · show (!decide (1 = 0) && decide (some (-1 - far) ∈ [some (0 : Int)])) = false
    rw [decide_eq_false (show ¬ some (-1 - far) ∈ [some (0 : Int)] from fun z => by
      have := Option.some.inj (List.mem_singleton.mp z)
      omega), Bool.and_false]
  · show (!decide (2 = 0) && decide (some (-1 - far) ∈ [some (2 : Int)])) = false
    rw [decide_eq_false (show ¬ some (-1 - far) ∈ [some (2 : Int)] from fun z => by
      have := Option.some.inj (List.mem_singleton.mp z)
      omega), Bool.and_false]
theorem phn_bad {far : Int} (h0 : 0 ≤ far) {e : PyData} (h : e ∈ strD far ++ [.int 2, .int (2 + far)]) : phnD 2 e = false := by
  rw [List.mem_append] at h
  rcases h with h | h
  · exact (str_all h0 h).1
  · simp only [List.mem_cons, List.not_mem_nil, or_false] at h
    rcases h with rfl | rfl
    · rfl
    · show (decide (0 ≤ 2 + far) && decide (2 + far < ((2 : Nat) : Int))) = false
      rw [decide_eq_false (show ¬ 2 + far < ((2 : Nat) : Int) by omega), Bool.and_false]
theorem ton_bad {far : Int} (h0 : 0 ≤ far) {e : PyData} (h : e ∈ strD far ++ [.int 3, .int (3 + far)]) : tonD 2 e = false := by
  rw [List.mem_append] at h
  rcases h with h | h
  · exact (str_all h0 h).2.1
  · simp only [List.mem_cons, List.not_mem_nil, or_false] at h
    rcases h with rfl | rfl
    · rfl
    · exact ton_three (by omega)
theorem oth_bad {far : Int} (h0 : 0 ≤ far) {e : PyData} (h : e ∈ strD far ++ [.int 0, .int 3, .int (3 + far)]) : tonD 2 e = false ∨ e = .int 0 := by
  rw [List.mem_append] at h
  rcases h with h | h
  · exact .inl (str_all h0 h).2.1
  · simp only [List.mem_cons, List.not_mem_nil, or_false] at h
    rcases h with rfl | rfl | rfl
    · exact .inr rfl
    · exact .inl rfl
    · exact .inl (ton_three (by omega))
theorem han_bad {far : Int} (h0 : 0 ≤ far) {e : PyData} (h : e ∈ strD far ++ [.int 0, .int 5, .int (5 + far)]) : hanD e = false := by
  rw [List.mem_append] at h
  rcases h with h | h
  · exact (str_all h0 h).2.2.1
  · simp only [List.mem_cons, List.not_mem_nil, or_false] at h
    rcases h with rfl | rfl | rfl
    · rfl
    · rfl
    · show (decide (1 ≤ 5 + far) && decide (5 + far ≤ 4)) = false
      rw [decide_eq_false (show ¬ 5 + far ≤ 4 by omega), Bool.and_false]
theorem se_int {k m : Int} (h : k ≠ m) {t : Nat} (l : dS3.seens [0, 1] 0 t = [some m]) : seD [0, 1] dS3 0 t (.int k) = false := by
  show (!decide (t = 0) && decide (some k ∈ dS3.seens [0, 1] 0 t)) = false
  rw [l, decide_eq_false (show ¬ some k ∈ [some m] from fun z => h (Option.some.inj (List.mem_singleton.mp z))), Bool.and_false]
theorem se0_int {k : Int} : seD [0, 1] dS3 0 0 (.int k) = false := rfl
theorem ov_int {k m : Int} (h : k ≠ m) : ovD (some m) (.int k) = false := by
  show decide ((some k : Option Int) = some m) = false
  exact decide_eq_false fun z => h (Option.some.inj z)
theorem ov_none {k : Int} : ovD Option.none (.int k) = false := by
  show decide ((some k : Option Int) = Option.none) = false
  exact decide_eq_false (fun z => nomatch z)
theorem se1_bad {far : Int} (h0 : 0 ≤ far) {e : PyData} (h : e ∈ strD far ++ [.int 1, .int 2, .int 3, .int (3 + far)]) : seD [0, 1] dS3 0 1 e = false := by
  rw [List.mem_append] at h
  rcases h with h | h
  · exact (str_all h0 h).2.2.2.1
  · simp only [List.mem_cons, List.not_mem_nil, or_false] at h
    rcases h with rfl | rfl | rfl | rfl <;> exact se_int (m := 0) (by omega) rfl
theorem se2_bad {far : Int} (h0 : 0 ≤ far) {e : PyData} (h : e ∈ strD far ++ [.int 0, .int 1, .int 3, .int (3 + far)]) : seD [0, 1] dS3 0 2 e = false := by
  rw [List.mem_append] at h
  rcases h with h | h
  · exact (str_all h0 h).2.2.2.2.1
  · simp only [List.mem_cons, List.not_mem_nil, or_false] at h
    rcases h with rfl | rfl | rfl | rfl <;> exact se_int (m := 2) (by omega) rfl
theorem ov1_bad {far : Int} (h0 : 0 ≤ far) {e : PyData} (h : e ∈ strD far ++ [.int 0, .int 1, .int 3, .int (3 + far)]) : ovD (dS3.now 0 1) e = false := by
  rw [List.mem_append] at h
  rcases h with h | h
  · exact (str_all h0 h).2.2.2.2.2
  · simp only [List.mem_cons, List.not_mem_nil, or_false] at h
    rcases h with rfl | rfl | rfl | rfl <;> exact ov_int (m := 2) (by omega)
/-- the strange ones less None -/
theorem str_drop {far : Int} (h0 : 0 ≤ far) {e : PyData} (h : e ∈ (strD far).drop (1 : Int).toNat) : seD [0, 1] dS3 0 0 e = false ∧ ovD (dS3.now 0 2) e = false ∧ ovD (dS3.now 0 0) e = false := by
  have h : e ∈ [.str "1", .bool true, .bool false, .list [.int 1], .tuple [.int 1], .dict [], .int (-1), .int (-1 - far)] := h
  simp only [List.mem_cons, List.not_mem_nil, or_false] at h
  rcases h with rfl | rfl | rfl | rfl | rfl | rfl | rfl | rfl
  all_goals first | exact ⟨rfl, rfl, rfl⟩ | exact ⟨se0_int, ov_none, ov_int (m := 0) (by omega)⟩
theorem se0_bad {far : Int} (h0 : 0 ≤ far) {e : PyData} (h : e ∈ (strD far).drop (1 : Int).toNat ++ [.int 0, .int 2]) : seD [0, 1] dS3 0 0 e = false := by
  rw [List.mem_append] at h
  rcases h with h | h
  · exact (str_drop h0 h).1
  · simp only [List.mem_cons, List.not_mem_nil, or_false] at h
    rcases h with rfl | rfl <;> rfl
theorem ov02_bad {far : Int} (h0 : 0 ≤ far) {e : PyData} (h : e ∈ (strD far).drop (1 : Int).toNat ++ [.int 2, .int 7]) : ovD (dS3.now 0 2) e = false ∧ ovD (dS3.now 0 0) e = false := by
  rw [List.mem_append] at h
  rcases h with h | h
  · exact (str_drop h0 h).2
  · simp only [List.mem_cons, List.not_mem_nil, or_false] at h
    rcases h with rfl | rfl <;> exact ⟨rfl, rfl⟩

end PD

namespace PD
open PySem PySem.Spec PyProof.Rows L2

/-! Phrasedesk, law_k13: puts that are refused -/
open LamX NdefX
section
variable {H H' : Hp} {CD CP d : Addr} {fr : List Int} {S : De} {ls : List Line} {B : DA} {F : Addr → Prop}
theorem DeskAt.foot2 (h : DeskAt H CD CP d fr S ls B) {x : Addr} (hx : footD d fr S.n B x) : ∃ o, H x = some o ∧ ∀ ps, o ≠ .tbl ps := by
  rcases hx with rfl | rfl | hx
  · exact ⟨_, h.obj, fun _ z => nomatch z⟩
  · obtain ⟨vs, hv, _⟩ := h.lines
    exact ⟨_, hv, fun _ z => nomatch z⟩
  · have r := h.past.raw
    rcases hx with rfl | rfl | rfl | rfl | rfl | rfl | ⟨p, t, d, rfl⟩ | ⟨p, t, d, rfl⟩
    · exact ⟨_, r.obj, fun _ z => nomatch z⟩
    · exact ⟨_, r.frm, fun _ z => nomatch z⟩
    · exact ⟨_, r.tx, fun _ z => nomatch z⟩
    · exact ⟨_, r.og, fun _ z => nomatch z⟩
    · exact ⟨_, r.ev, fun _ z => nomatch z⟩
    · exact ⟨_, r.pi, fun _ z => nomatch z⟩
    · exact ⟨_, (r.evs p t d).2, fun _ z => nomatch z⟩
    · exact ⟨_, (r.pis p t d).2, fun _ z => nomatch z⟩
/-- a desk stays where only tables change -/
theorem Desk.ext (h : Desk H CD CP d fr S ls F) (e : ExtN H H') : ∃ F', Desk H' CD CP d fr S ls F' ∧ ∀ x, F' x → F x := by
  obtain ⟨B, h1, h2, _⟩ := h
  refine ⟨footD d fr S.n B, desk_of (h1.keep (fun x o z q => ?_) fun q xs z => e _ _ z fun _ w => nomatch w), h2⟩
  obtain ⟨u, hu, n⟩ := h1.foot2 z
  rw [hu] at q
  cases (Option.some.inj q)
  exact e _ _ hu n
end

--# steps13
theorem ext_same {H H' : Hp} (s : Same H H') : ExtN H H' := ExtN.of s
theorem tabs_same {K : PySem.W.Frag} {H H' : Hp} (s : Same H H') (t : Tabs (tbs K) H) : Tabs (tbs K) H' := t.ext s
abbrev lmE {H H' : Hp} {f : Addr} {F : LF} (e : ExtN H H') (h : H f = some (LmO f F)) : H' f = some (LmO f F) := e _ _ h fun ps => lmO_ne ps
abbrev coE {H H' : Hp} {c : Addr} {q : Str} (e : ExtN H H') (h : H c = some (CodeO c q)) : H' c = some (CodeO c q) := e _ _ h fun ps => codeO_ne ps
theorem one_z {zs : Zs} {c : Addr} {v : V} (za : adrs zs = [c]) (zw : zs.map (fun z => z.2.2) = [v]) : ∃ z, zs = [z] ∧ z.1 = c ∧ z.2.2 = v := by
  cases zs with
  | nil => cases za
  | cons z r =>
    cases r with
    | nil => exact ⟨z, rfl, (List.cons.inj za).1, (List.cons.inj zw).1⟩
    | cons y r' => exact absurd (congrArg List.length za) (by simp [adrs])
structure St13 (K : PySem.W.Frag) (H0 G : Hp) (d b : Addr) (far : Int) : Prop where
  ext : ExtN H0 G
  tab : Tabs (tbs K) G
  desk : ∃ F, DeK K G d [0, 1] dS3 dL3 F
  bad : Gn G (.ref b) (.list (strD far))
theorem St13.next {K : PySem.W.Frag} {H0 G G' : Hp} {d b : Addr} {far : Int} (h : St13 K H0 G d b far) (e : ExtN G G') (t : Tabs (tbs K) G') : St13 K H0 G' d b far := by
  obtain ⟨F, hD⟩ := h.desk
  obtain ⟨F', hD', _⟩ := hD.ext e
  exact ⟨h.ext.trans e, t, ⟨F', hD'⟩, h.bad.ext fun b o x n => e _ _ x n⟩
theorem St13.same {K : PySem.W.Frag} {H0 G G' : Hp} {d b : Addr} {far : Int} (h : St13 K H0 G d b far) (s : Same G G') : St13 K H0 G' d b far := h.next (ext_same s) (tabs_same s h.tab)
theorem cat_cons {σ : L2.St} {G : Hp} {ta tb : TE} {ts : TA} {ds : List PyData} {Q : List V → Hp → Prop} (h : DL (tOp rCat ta tb) σ G ds) (k : ∀ H' a, Same G H' → GL H' a ds → ts σ H' fun vs H2 => Q (.ref a :: vs) H2) : tCons (tOp rCat ta tb) ts σ G Q := h G _ (Same.refl _) fun H' a s _ g => k H' a s g
theorem lst_cons {σ : L2.St} {G : Hp} {tl : TA} {ts : TA} {ds : List PyData} {Q : List V → Hp → Prop} (h : DL (tLst tl) σ G ds) (k : ∀ H' a, Same G H' → GL H' a ds → ts σ H' fun vs H2 => Q (.ref a :: vs) H2) : tCons (tLst tl) ts σ G Q := h G _ (Same.refl _) fun H' a s _ g => k H' a s g
theorem next_cat {D0 D : Ends} {σ : L2.St} {G : Hp} {ta tb : TE} {i : Nat} {b : TS} {ds : List PyData} (e : D0.nx = tSeq (tAsg (tOp rCat ta tb) (gName i)) b D) (h : DL (tOp rCat ta tb) σ G ds) (k : ∀ H' a, Same G H' → G a = none → GL H' a ds → b D (σ.set i (some (.ref a))) H') : tNext D0 σ G := by
  show D0.nx σ G
  rw [e]
  exact DL.asg h k
section
variable {P : Program} {w : World} {K : PySem.W.Frag} {mg : Str → Option Value} {base : Heap} {f : Addr} {F : LF} {H1 : Hp} {x : V} {d : PyData}
theorem all_use2 {G H : Hp} {a : Addr} {v : V} {ds : List PyData} {fs : List Addr} {n : Nat} {R : Hp → Prop} (s : Same G H) (ha : G a = some (.lst (fs.map V.ref))) (gv : Gn G v (.list ds)) (hl : ds.length ≤ 5000) (hn : n < 12) (hr : ∀ f ∈ fs, ∀ x d, d ∈ ds → Gn G x d → Refuses P w K mg base H f x n) (k : ∀ H', Same H H' → R H') :
    ∃ (a' t : Addr) (fs : List Addr) (ts : List V) (n' : Nat), [V.ref a, v, V.int (n : Int)] = [.ref a', .ref t, .int (n' : Int)] ∧ n' < 12 ∧ H a' = some (.lst (fs.map V.ref)) ∧ H t = some (.lst ts) ∧ ts.length ≤ 5000 ∧ (∀ f ∈ fs, ∀ v ∈ ts, Refuses P w K mg base H f v n') ∧ ∀ H', Same H H' → R H' := by
  cases gv with
  | lst e r =>
    refine ⟨a, _, fs, _, n, rfl, hn, s _ _ ha, s _ _ e, by rw [r.len]; exact hl, fun f hf x hx => ?_, k⟩
    obtain ⟨i, hi⟩ := List.getElem?_of_mem hx
    obtain ⟨d, ed, g⟩ := r.get hi
    exact hr f hf x d (List.mem_of_getElem? ed) g
theorem all_use {H : Hp} {a : Addr} {v : V} {ds : List PyData} {fs : List Addr} {n : Nat} {R : Hp → Prop} (ha : H a = some (.lst (fs.map V.ref))) (gv : Gn H v (.list ds)) (hl : ds.length ≤ 5000) (hn : n < 12) (hr : ∀ f ∈ fs, ∀ x d, d ∈ ds → Gn H x d → Refuses P w K mg base H f x n) (k : ∀ H', Same H H' → R H') :
    ∃ (a' t : Addr) (fs : List Addr) (ts : List V) (n' : Nat), [V.ref a, v, V.int (n : Int)] = [.ref a', .ref t, .int (n' : Int)] ∧ n' < 12 ∧ H a' = some (.lst (fs.map V.ref)) ∧ H t = some (.lst ts) ∧ ts.length ≤ 5000 ∧ (∀ f ∈ fs, ∀ v ∈ ts, Refuses P w K mg base H f v n') ∧ ∀ H', Same H H' → R H' := all_use2 (Same.refl _) ha gv hl hn hr k
end
section
variable {P : Program} {w : World} {K : PySem.W.Frag} {mg : Str → Option Value} {base : Heap}
theorem step13 {j : Nat} {ca : Nat → Addr} {d l : Addr} {Gd : Hp} {v : V} {ds : List PyData} {fs : List Addr} {n : Nat} {Q : VK} {zs : Zs} (nn : ∀ a ∈ [j].map ca, Gd a = none) (za : adrs zs = [j].map ca) (zw : zs.map (fun z => z.2.2) = [.ref d]) (hl : Gd l = some (.lst (fs.map V.ref))) (gv : Gn Gd v (.list ds)) (ln : ds.length ≤ 5000) (n12 : n < 12)
    (hr : ∀ z : Addr × Obj × V, z.1 = ca j → z.2.2 = .ref d → Gd z.1 = none → ∀ f ∈ fs, ∀ x e, e ∈ ds → Gn Gd x e → Refuses P w K mg base (showL [z] Gd) f x n) (k : ∀ G', Shown zs G' → Same Gd (hidL (adrs zs) G') → Q (.bl true) G') :
    spAllR P w K mg base [.ref l, v, .int (n : Int)] (showL zs Gd) Q C8.E0 := by
  obtain ⟨z, rfl, ez1, ez2⟩ := one_z za zw
  have nz : Gd z.1 = none := nn _ (by rw [ez1]; exact List.mem_cons_self)
  have nz' : ∀ a ∈ adrs [z], Gd a = none := fun a ha => by rw [List.mem_singleton.mp ha]; exact nz
  refine all_use2 (n := n) (G := Gd) (fs := fs) (fun b o e => show_at nz' e) hl gv ln n12 (fun f hf x e he g => hr z ez1 ez2 nz f hf x e he g) fun Ge se => k Ge ?_ ?_
  · intro y hy
    rw [List.mem_singleton.mp hy]
    exact se _ _ upd_same
  · intro b o e
    have m : b ∉ adrs [z] := fun m => by
      rw [nz' b m] at e
      cases e
    rw [hidL_ne m]
    exact se _ _ (show_at nz' e)
end
--# _law_puts_right
def spPR (K : PySem.W.Frag) : Sp := fun vs H Q _ => ∃ (d : Addr) (far : Int) (F : Addr → Prop), vs = [.ref d, .int far] ∧ 0 ≤ far ∧ DeK K H d [0, 1] dS3 dL3 F ∧ Tabs (tbs K) H ∧ ∀ H' : Hp, ExtN H H' → Tabs (tbs K) H' → Q (.bl true) H'
theorem sc_law_puts_right : FnScope ["_law_desk", "_law_far", "_law_bad", "_law_seen", "_law_asks"] ["_law_desk", "_law_far"] (defScope s_law_puts_right) := ⟨rfl, rfl, rfl, by decide +kernel, rfl, by decide +kernel, by decide +kernel⟩
theorem c_law_puts_right {P : Program} {w : World} {K : PySem.W.Frag} {mg : Str → Option Value} {base : Heap} (T : Tx K mg) (B : Tb K mg base) : C8.Cal P w K mg base 16 "_law_puts_right" (spPR K) [] := by
  refine calT T.F_law_puts_right T.g_law_puts_right (fun _ _ _ _ _ _ us hl => match us, hl with | [_, _], _ => rfl) sc_law_puts_right (fun vs H Q E h => ?_) (fun A outer s H vs Q E hr h => ?_)
  · obtain ⟨d, far, F, rfl, _⟩ := h
    rfl
  · obtain ⟨d, far, F, rfl, h0, hD, tb, q⟩ := h
    refine ⟨_, (pss_cons (ps_set (i := 2) sc_law_puts_right.nd rfl (Or.inl rfl) (C8.pe_c (c_law_strange T) hr (by decide) rfl (pa_cons (pv 1) pa_nil)))
    (pss_cons (ps_if (pt_not (pt_val (pe_cC (js := [0]) (c_law_all (P := P) (w := w) (K := K) (mg := mg) (base := base) T) hr (by decide) rfl (cells_by (N := ["_law_desk", "_law_far", "_law_bad", "_law_seen", "_law_asks"]) (sc := defScope s_law_puts_right) (by decide +kernel)) (by decide) sc_law_puts_right.nd (fun _ => rfl) (pa_cons (pe_lst (pa_cons (pe_lamC (T := tbs K) (k := 12) (N := ["_law_one", "_law_desk"]) (fr := ["_law_desk"]) (js := [0]) B.tb_law_puts_right rfl (List.mem_cons_of_mem _ (List.mem_cons_of_mem _ (List.mem_cons_self))) T.u_law_puts_right ⟨NdefX.nscope_by (by decide +kernel), NdefX.ndef_free (sc := defScope s_law_puts_right) (fr := ["_law_desk"]) (by decide +kernel), NdefX.ndef_fr (sc := defScope s_law_puts_right) (by decide +kernel), rfl, rfl, fun _ _ _ _ _ _ => rfl⟩ (fun _ _ _ _ _ _ _ hr => (pe_mtX (c_Desk_putX (P := P) (w := w) (K := K) (mg := mg) (base := base) T) hr (by decide) (takes_of rfl rfl rfl rfl) (pv 1) (pa_cons pe_int (pa_cons pe_int (pa_cons (pv 0) (pa_cons pe_non (pa_cons pe_non pa_nil)))))))) (pa_cons (pe_lamC (T := tbs K) (k := 12) (N := ["_law_two", "_law_desk"]) (fr := ["_law_desk"]) (js := [0]) B.tb_law_puts_right rfl (List.mem_cons_of_mem _ (List.mem_cons_of_mem _ (List.mem_cons_self))) T.u_law_puts_right ⟨NdefX.nscope_by (by decide +kernel), NdefX.ndef_free (sc := defScope s_law_puts_right) (fr := ["_law_desk"]) (by decide +kernel), NdefX.ndef_fr (sc := defScope s_law_puts_right) (by decide +kernel), rfl, rfl, fun _ _ _ _ _ _ => rfl⟩ (fun _ _ _ _ _ _ _ hr => (pe_mtX (c_Desk_phraseX (P := P) (w := w) (K := K) (mg := mg) (base := base) T) hr (by decide) (takes_of rfl rfl rfl rfl) (pv 1) (pa_cons (pv 0) pa_nil)))) pa_nil))) (pa_cons (C8.pe_c (c_law_no_texts T) hr (by decide) rfl (pa_cons (pv 1) pa_nil)) (pa_cons pe_int pa_nil))))))
      (pss_one (ps_ret pe_bl))
      pss_nil)
    (pss_cons (ps_set (i := 3) sc_law_puts_right.nd rfl (Or.inl rfl) (pe_op op_cat (pv 2) (pe_lst (pa_cons pe_int (pa_cons pe_int (pa_cons pe_int (pa_cons (pe_op op_add pe_int (pv 1)) pa_nil)))))))
    (pss_cons (ps_if (pt_not (pt_val (pe_cC (js := [0]) (c_law_all (P := P) (w := w) (K := K) (mg := mg) (base := base) T) hr (by decide) rfl (cells_by (N := ["_law_desk", "_law_far", "_law_bad", "_law_seen", "_law_asks"]) (sc := defScope s_law_puts_right) (by decide +kernel)) (by decide) sc_law_puts_right.nd (fun _ => rfl) (pa_cons (pe_lst (pa_cons (pe_lamC (T := tbs K) (k := 12) (N := ["_law_one", "_law_desk"]) (fr := ["_law_desk"]) (js := [0]) B.tb_law_puts_right rfl (List.mem_cons_of_mem _ (List.mem_cons_of_mem _ (List.mem_cons_self))) T.u_law_puts_right ⟨NdefX.nscope_by (by decide +kernel), NdefX.ndef_free (sc := defScope s_law_puts_right) (fr := ["_law_desk"]) (by decide +kernel), NdefX.ndef_fr (sc := defScope s_law_puts_right) (by decide +kernel), rfl, rfl, fun _ _ _ _ _ _ => rfl⟩ (fun _ _ _ _ _ _ _ hr => (pe_mtX (c_Desk_putS (P := P) (w := w) (K := K) (mg := mg) (base := base) T) hr (by decide) (takes_of rfl rfl rfl rfl) (pv 1) (pa_cons pe_int (pa_cons pe_int (pa_cons pe_str (pa_cons (pv 0) (pa_cons pe_int pa_nil)))))))) pa_nil)) (pa_cons (pv 3) (pa_cons pe_int pa_nil))))))
      (pss_one (ps_ret pe_bl))
      pss_nil)
    (pss_cons (ps_if (pt_not (pt_val (pe_cC (js := [0]) (c_law_all (P := P) (w := w) (K := K) (mg := mg) (base := base) T) hr (by decide) rfl (cells_by (N := ["_law_desk", "_law_far", "_law_bad", "_law_seen", "_law_asks"]) (sc := defScope s_law_puts_right) (by decide +kernel)) (by decide) sc_law_puts_right.nd (fun _ => rfl) (pa_cons (pe_lst (pa_cons (pe_lamC (T := tbs K) (k := 12) (N := ["_law_one", "_law_desk"]) (fr := ["_law_desk"]) (js := [0]) B.tb_law_puts_right rfl (List.mem_cons_of_mem _ (List.mem_cons_of_mem _ (List.mem_cons_self))) T.u_law_puts_right ⟨NdefX.nscope_by (by decide +kernel), NdefX.ndef_free (sc := defScope s_law_puts_right) (fr := ["_law_desk"]) (by decide +kernel), NdefX.ndef_fr (sc := defScope s_law_puts_right) (by decide +kernel), rfl, rfl, fun _ _ _ _ _ _ => rfl⟩ (fun _ _ _ _ _ _ _ hr => (pe_mtX (c_Desk_putS (P := P) (w := w) (K := K) (mg := mg) (base := base) T) hr (by decide) (takes_of rfl rfl rfl rfl) (pv 1) (pa_cons pe_int (pa_cons pe_int (pa_cons pe_str (pa_cons (pv 0) (pa_cons pe_int pa_nil)))))))) pa_nil)) (pa_cons (pe_op op_cat (pv 2) (pe_lst (pa_cons pe_int (pa_cons pe_int (pa_cons pe_int (pa_cons (pe_op op_add pe_int (pv 1)) pa_nil)))))) (pa_cons pe_int pa_nil))))))
      (pss_one (ps_ret pe_bl))
      pss_nil)
    (pss_cons (ps_if (pt_not (pt_val (pe_cC (js := [0]) (c_law_all (P := P) (w := w) (K := K) (mg := mg) (base := base) T) hr (by decide) rfl (cells_by (N := ["_law_desk", "_law_far", "_law_bad", "_law_seen", "_law_asks"]) (sc := defScope s_law_puts_right) (by decide +kernel)) (by decide) sc_law_puts_right.nd (fun _ => rfl) (pa_cons (pe_lst (pa_cons (pe_lamC (T := tbs K) (k := 12) (N := ["_law_one", "_law_desk"]) (fr := ["_law_desk"]) (js := [0]) B.tb_law_puts_right rfl (List.mem_cons_of_mem _ (List.mem_cons_of_mem _ (List.mem_cons_self))) T.u_law_puts_right ⟨NdefX.nscope_by (by decide +kernel), NdefX.ndef_free (sc := defScope s_law_puts_right) (fr := ["_law_desk"]) (by decide +kernel), NdefX.ndef_fr (sc := defScope s_law_puts_right) (by decide +kernel), rfl, rfl, fun _ _ _ _ _ _ => rfl⟩ (fun _ _ _ _ _ _ _ hr => (pe_mtX (c_Desk_putS (P := P) (w := w) (K := K) (mg := mg) (base := base) T) hr (by decide) (takes_of rfl rfl rfl rfl) (pv 1) (pa_cons pe_int (pa_cons pe_int (pa_cons pe_str (pa_cons (pv 0) (pa_cons pe_int pa_nil)))))))) pa_nil)) (pa_cons (pe_op op_cat (pe_slice sl_list (pv 2) (po_some pe_int) po_none) (pe_lst (pa_cons pe_int (pa_cons pe_int pa_nil)))) (pa_cons pe_int pa_nil))))))
      (pss_one (ps_ret pe_bl))
      pss_nil)
    (pss_cons (ps_if (pt_not (pt_val (pe_cC (js := [0]) (c_law_all (P := P) (w := w) (K := K) (mg := mg) (base := base) T) hr (by decide) rfl (cells_by (N := ["_law_desk", "_law_far", "_law_bad", "_law_seen", "_law_asks"]) (sc := defScope s_law_puts_right) (by decide +kernel)) (by decide) sc_law_puts_right.nd (fun _ => rfl) (pa_cons (pe_lst (pa_cons (pe_lamC (T := tbs K) (k := 12) (N := ["_law_one", "_law_desk"]) (fr := ["_law_desk"]) (js := [0]) B.tb_law_puts_right rfl (List.mem_cons_of_mem _ (List.mem_cons_of_mem _ (List.mem_cons_self))) T.u_law_puts_right ⟨NdefX.nscope_by (by decide +kernel), NdefX.ndef_free (sc := defScope s_law_puts_right) (fr := ["_law_desk"]) (by decide +kernel), NdefX.ndef_fr (sc := defScope s_law_puts_right) (by decide +kernel), rfl, rfl, fun _ _ _ _ _ _ => rfl⟩ (fun _ _ _ _ _ _ _ hr => (pe_mtX (c_Desk_putO (P := P) (w := w) (K := K) (mg := mg) (base := base) T) hr (by decide) (takes_of rfl rfl rfl rfl) (pv 1) (pa_cons pe_int (pa_cons pe_int (pa_cons pe_str (pa_cons pe_int (pa_cons (pv 0) pa_nil)))))))) pa_nil)) (pa_cons (pe_op op_cat (pv 2) (pe_lst (pa_cons pe_int (pa_cons pe_int (pa_cons pe_int (pa_cons (pe_op op_add pe_int (pv 1)) pa_nil)))))) (pa_cons pe_int pa_nil))))))
      (pss_one (ps_ret pe_bl))
      pss_nil)
    (pss_cons (ps_set (i := 4) sc_law_puts_right.nd rfl (Or.inl rfl) (pe_lst (pa_cons (pe_lamC (T := tbs K) (k := 12) (N := ["_law_one", "_law_desk"]) (fr := ["_law_desk"]) (js := [0]) B.tb_law_puts_right rfl (List.mem_cons_of_mem _ (List.mem_cons_of_mem _ (List.mem_cons_self))) T.u_law_puts_right ⟨NdefX.nscope_by (by decide +kernel), NdefX.ndef_free (sc := defScope s_law_puts_right) (fr := ["_law_desk"]) (by decide +kernel), NdefX.ndef_fr (sc := defScope s_law_puts_right) (by decide +kernel), rfl, rfl, fun _ _ _ _ _ _ => rfl⟩ (fun _ _ _ _ _ _ _ hr => (pe_mtX (c_Desk_putO (P := P) (w := w) (K := K) (mg := mg) (base := base) T) hr (by decide) (takes_of rfl rfl rfl rfl) (pv 1) (pa_cons pe_int (pa_cons pe_int (pa_cons pe_str (pa_cons pe_int (pa_cons (pv 0) pa_nil)))))))) (pa_cons (pe_lamC (T := tbs K) (k := 12) (N := ["_law_two", "_law_desk"]) (fr := ["_law_desk"]) (js := [0]) B.tb_law_puts_right rfl (List.mem_cons_of_mem _ (List.mem_cons_of_mem _ (List.mem_cons_self))) T.u_law_puts_right ⟨NdefX.nscope_by (by decide +kernel), NdefX.ndef_free (sc := defScope s_law_puts_right) (fr := ["_law_desk"]) (by decide +kernel), NdefX.ndef_fr (sc := defScope s_law_puts_right) (by decide +kernel), rfl, rfl, fun _ _ _ _ _ _ => rfl⟩ (fun _ _ _ _ _ _ _ hr => (pe_mtX (c_Desk_putO (P := P) (w := w) (K := K) (mg := mg) (base := base) T) hr (by decide) (takes_of rfl rfl rfl rfl) (pv 1) (pa_cons pe_int (pa_cons pe_int (pa_cons pe_str (pa_cons pe_non (pa_cons (pv 0) pa_nil)))))))) pa_nil))))
    (pss_cons (ps_if (pt_not (pt_val (pe_cC (js := [0]) (c_law_all (P := P) (w := w) (K := K) (mg := mg) (base := base) T) hr (by decide) rfl (cells_by (N := ["_law_desk", "_law_far", "_law_bad", "_law_seen", "_law_asks"]) (sc := defScope s_law_puts_right) (by decide +kernel)) (by decide) sc_law_puts_right.nd (fun _ => rfl) (pa_cons (pv 4) (pa_cons (pe_op op_cat (pe_slice sl_list (pv 2) (po_some pe_int) po_none) (pe_lst (pa_cons pe_int (pa_cons pe_int pa_nil)))) (pa_cons pe_int pa_nil))))))
      (pss_one (ps_ret pe_bl))
      pss_nil)
    (pss_one (ps_ret (pe_cC (js := [0]) (c_law_all (P := P) (w := w) (K := K) (mg := mg) (base := base) T) hr (by decide) rfl (cells_by (N := ["_law_desk", "_law_far", "_law_bad", "_law_seen", "_law_asks"]) (sc := defScope s_law_puts_right) (by decide +kernel)) (by decide) sc_law_puts_right.nd (fun _ => rfl) (pa_cons (pe_lst (pa_cons (pe_lamC (T := tbs K) (k := 12) (N := ["_law_one", "_law_desk"]) (fr := ["_law_desk"]) (js := [0]) B.tb_law_puts_right rfl (List.mem_cons_of_mem _ (List.mem_cons_of_mem _ (List.mem_cons_self))) T.u_law_puts_right ⟨NdefX.nscope_by (by decide +kernel), NdefX.ndef_free (sc := defScope s_law_puts_right) (fr := ["_law_desk"]) (by decide +kernel), NdefX.ndef_fr (sc := defScope s_law_puts_right) (by decide +kernel), rfl, rfl, fun _ _ _ _ _ _ => rfl⟩ (fun _ _ _ _ _ _ _ hr => (pe_mtX (c_Desk_backNone (P := P) (w := w) (K := K) (mg := mg) (base := base) T) hr (by decide) (takes_of rfl rfl rfl rfl) (pv 1) (pa_cons pe_int (pa_cons (pv 0) pa_nil))))) pa_nil)) (pa_cons (pe_lst (pa_cons pe_int (pa_cons pe_int pa_nil))) (pa_cons pe_int pa_nil))))))))))))))), ?_⟩
    refine ⟨_, rfl, far, rfl, fun Ha b sa gb => ?_⟩
    have S0 : St13 K H Ha d b far := ⟨ext_same sa, tabs_same sa tb, ⟨F, hD.same sa⟩, gb.gn⟩
    clear hD tb sa gb
    -- texts
    refine ⟨S0.tab, fun f1 F1 G1 e1 t1 n1 hf1 hc1 C1 => ⟨t1, fun f2 F2 G2 e2 t2 n2 hf2 hc2 C2 => ⟨(by show 2 ≤ sizeLine; decide), fun m nm => ?_⟩⟩⟩
    have sm : Same G2 (upd G2 m (.lst [.ref f1, .ref f2])) := same_upd nm
    have hm : (upd G2 m (.lst [.ref f1, .ref f2])) m = some (.lst ([f1, f2].map V.ref)) := upd_same
    generalize upd G2 m (.lst [.ref f1, .ref f2]) = Gb at sm hm ⊢
    refine ⟨_, rfl, far, rfl, h0, fun Gc a sc gl => ?_⟩
    have S1 := ((S0.next e1 t1).next e2 t2).same (sm.trans sc)
    obtain ⟨Fc, hDc⟩ := S1.desk
    have xs := ext_same (sm.trans sc)
    refine ⟨[.ref d], rfl, fun nn zs za zw znd => step13 (fs := [f1, f2]) (n := 3) nn za zw (sc _ _ hm) gl.gn (by show 13 + 8 ≤ 5000; decide) (by decide) ?_ ?_⟩
    · intro z ez1 ez2 nz f hf x e he g
      simp only [List.mem_cons, List.not_mem_nil, or_false] at hf
      obtain ⟨hs, hb⟩ := texts_bad e he
      rcases hf with rfl | rfl
      · exact rf_putX T (lmE (e2.trans xs) hf1) (coE (e2.trans xs) hc1) (by rw [ez1]; exact C1) nz ez2 hDc g (by decide) (by decide) hs hb
      · exact rf_phrX T (lmE xs hf2) (coE xs hc2) (by rw [ez1]; exact C2) nz ez2 hDc g hs hb
    refine fun Gz sh sz => ⟨sh, true, rfl, iteF ?_⟩
    generalize hidL (adrs zs) Gz = Gy at sz ⊢
    have S2 := S1.same sz
    clear hDc xs S1 S0 C1 C2 hf1 hf2 hc1 hc2 sz gl hm sm sc
    -- seen, tongue 1
    have gB := gn_p0 S2.bad
    refine next_cat (ds := strD far ++ [.int 1, .int 2, .int 3, .int (3 + far)]) (i := 3) (ta := tVar 2) rfl ?_ fun G3 a3 s3 n3 g3 => ?_
    · refine DL.cat (by (repeat' (first | exact DT.varI rfl | exact DG.nil | exact DT.non | exact DT.bl _ | exact DT.int _ | exact DT.str _ | exact DT.dnew | refine DG.cons ?_ ?_ | refine DL.lst ?_ ?_ | refine DL.cat ?_ ?_ ?_ | refine DT.lst ?_ ?_ | refine DT.tup ?_ ?_ | refine DT.cat ?_ ?_ ?_ | refine DT.slFrom ?_ ?_ ?_ | refine DT.op0 ?_ ?_ | refine DT.un ?_ | refine DT.opC ?_ ?_ ?_ | (refine DT.var rfl ?_; assumption) | (show _ ≤ _; decide) | (simp only [List.length_cons, List.length_nil, List.length_append]; omega) | omega))) (by (repeat' (first | exact DT.varI rfl | exact DG.nil | exact DT.non | exact DT.bl _ | exact DT.int _ | exact DT.str _ | exact DT.dnew | refine DG.cons ?_ ?_ | refine DL.lst ?_ ?_ | refine DL.cat ?_ ?_ ?_ | refine DT.lst ?_ ?_ | refine DT.tup ?_ ?_ | refine DT.cat ?_ ?_ ?_ | refine DT.slFrom ?_ ?_ ?_ | refine DT.op0 ?_ ?_ | refine DT.un ?_ | refine DT.opC ?_ ?_ ?_ | (refine DT.var rfl ?_; assumption) | (show _ ≤ _; decide) | (simp only [List.length_cons, List.length_nil, List.length_append]; omega) | omega))) ?_
      show 9 + 4 ≤ 5000
      decide
    have S3 := S2.same s3
    clear gB S2 s3
    refine ⟨S3.tab, fun f F Ga ea ta na hf hc C => ⟨(by show 1 ≤ sizeLine; decide), fun m nm => ?_⟩⟩
    have sm : Same Ga (upd Ga m (.lst [.ref f])) := same_upd nm
    have hm : (upd Ga m (.lst [.ref f])) m = some (.lst ([f].map V.ref)) := upd_same
    generalize upd Ga m (.lst [.ref f]) = Gc at sm hm ⊢
    have S4 := (S3.next ea ta).same sm
    obtain ⟨Fc, hDc⟩ := S4.desk
    have xs := ext_same sm
    have g4 : Gn Gc (.ref a3) (.list (strD far ++ [.int 1, .int 2, .int 3, .int (3 + far)])) := g3.gn.ext fun b o x n => (ea.trans xs) _ _ x n
    refine ⟨.ref a3, rfl, [.ref d], rfl, fun nn zs za zw znd => step13 (fs := [f]) (n := 4) nn za zw hm g4 (by show 9 + 4 ≤ 5000; decide) (by decide) ?_ ?_⟩
    · intro z ez1 ez2 nz f' hf' x e he g
      rw [List.mem_singleton.mp hf']
      exact rf_putS1 T (lmE xs hf) (coE xs hc) (by rw [ez1]; exact C) nz ez2 hDc g fr01 (by decide) (by decide) (se1_bad h0 he)
    refine fun Gz sh sz => ⟨sh, true, rfl, iteF ?_⟩
    generalize hidL (adrs zs) Gz = Gy3 at sz ⊢
    have S5 := S4.same sz
    clear hDc xs S4 S3 C hf hc sz hm sm g4 g3 ea ta
    -- seen, tongue 2
    refine ⟨S5.tab, fun f F Ga ea ta na hf hc C => ⟨(by show 1 ≤ sizeLine; decide), fun m nm => ?_⟩⟩
    have sm : Same Ga (upd Ga m (.lst [.ref f])) := same_upd nm
    have hm : (upd Ga m (.lst [.ref f])) m = some (.lst ([f].map V.ref)) := upd_same
    generalize upd Ga m (.lst [.ref f]) = Gb at sm hm ⊢
    have gB := gn_p0 ((S5.next ea ta).same sm).bad
    refine cat_cons (ds := strD far ++ [.int 0, .int 1, .int 3, .int (3 + far)]) ?_ fun Gc a sc gl => ?_
    · refine DL.cat (by (repeat' (first | exact DT.varI rfl | exact DG.nil | exact DT.non | exact DT.bl _ | exact DT.int _ | exact DT.str _ | exact DT.dnew | refine DG.cons ?_ ?_ | refine DL.lst ?_ ?_ | refine DL.cat ?_ ?_ ?_ | refine DT.lst ?_ ?_ | refine DT.tup ?_ ?_ | refine DT.cat ?_ ?_ ?_ | refine DT.slFrom ?_ ?_ ?_ | refine DT.op0 ?_ ?_ | refine DT.un ?_ | refine DT.opC ?_ ?_ ?_ | (refine DT.var rfl ?_; assumption) | (show _ ≤ _; decide) | (simp only [List.length_cons, List.length_nil, List.length_append]; omega) | omega))) (by (repeat' (first | exact DT.varI rfl | exact DG.nil | exact DT.non | exact DT.bl _ | exact DT.int _ | exact DT.str _ | exact DT.dnew | refine DG.cons ?_ ?_ | refine DL.lst ?_ ?_ | refine DL.cat ?_ ?_ ?_ | refine DT.lst ?_ ?_ | refine DT.tup ?_ ?_ | refine DT.cat ?_ ?_ ?_ | refine DT.slFrom ?_ ?_ ?_ | refine DT.op0 ?_ ?_ | refine DT.un ?_ | refine DT.opC ?_ ?_ ?_ | (refine DT.var rfl ?_; assumption) | (show _ ≤ _; decide) | (simp only [List.length_cons, List.length_nil, List.length_append]; omega) | omega))) ?_
      show 9 + 4 ≤ 5000
      decide
    have T1 := ((S5.next ea ta).same sm).same sc
    obtain ⟨Fc, hDc⟩ := T1.desk
    have xs := ext_same (sm.trans sc)
    refine ⟨[.ref d], rfl, fun nn zs za zw znd => step13 (fs := [f]) (n := 4) nn za zw (sc _ _ hm) gl.gn (by show 9 + 4 ≤ 5000; decide) (by decide) ?_ ?_⟩
    · intro z ez1 ez2 nz f' hf' x e he g
      rw [List.mem_singleton.mp hf']
      exact rf_putS2 T (lmE xs hf) (coE xs hc) (by rw [ez1]; exact C) nz ez2 hDc g fr01 (by decide) (by decide) (se2_bad h0 he)
    refine fun Gz sh sz => ⟨sh, true, rfl, iteF ?_⟩
    generalize hidL (adrs zs) Gz = Gy at sz ⊢
    have S6 := T1.same sz
    clear hDc xs T1 C hf hc sz hm sm sc gl gB ea ta S5
    -- seen, the source
    refine ⟨S6.tab, fun f F Ga ea ta na hf hc C => ⟨(by show 1 ≤ sizeLine; decide), fun m nm => ?_⟩⟩
    have sm : Same Ga (upd Ga m (.lst [.ref f])) := same_upd nm
    have hm : (upd Ga m (.lst [.ref f])) m = some (.lst ([f].map V.ref)) := upd_same
    generalize upd Ga m (.lst [.ref f]) = Gb at sm hm ⊢
    have gB := gn_p0 ((S6.next ea ta).same sm).bad
    refine cat_cons (ds := (strD far).drop (1 : Int).toNat ++ [.int 0, .int 2]) ?_ fun Gc a sc gl => ?_
    · refine DL.cat (by (repeat' (first | exact DT.varI rfl | exact DG.nil | exact DT.non | exact DT.bl _ | exact DT.int _ | exact DT.str _ | exact DT.dnew | refine DG.cons ?_ ?_ | refine DL.lst ?_ ?_ | refine DL.cat ?_ ?_ ?_ | refine DT.lst ?_ ?_ | refine DT.tup ?_ ?_ | refine DT.cat ?_ ?_ ?_ | refine DT.slFrom ?_ ?_ ?_ | refine DT.op0 ?_ ?_ | refine DT.un ?_ | refine DT.opC ?_ ?_ ?_ | (refine DT.var rfl ?_; assumption) | (show _ ≤ _; decide) | (simp only [List.length_cons, List.length_nil, List.length_append]; omega) | omega))) (by (repeat' (first | exact DT.varI rfl | exact DG.nil | exact DT.non | exact DT.bl _ | exact DT.int _ | exact DT.str _ | exact DT.dnew | refine DG.cons ?_ ?_ | refine DL.lst ?_ ?_ | refine DL.cat ?_ ?_ ?_ | refine DT.lst ?_ ?_ | refine DT.tup ?_ ?_ | refine DT.cat ?_ ?_ ?_ | refine DT.slFrom ?_ ?_ ?_ | refine DT.op0 ?_ ?_ | refine DT.un ?_ | refine DT.opC ?_ ?_ ?_ | (refine DT.var rfl ?_; assumption) | (show _ ≤ _; decide) | (simp only [List.length_cons, List.length_nil, List.length_append]; omega) | omega))) ?_
      show 8 + 2 ≤ 5000
      decide
    have T1 := ((S6.next ea ta).same sm).same sc
    obtain ⟨Fc, hDc⟩ := T1.desk
    have xs := ext_same (sm.trans sc)
    refine ⟨[.ref d], rfl, fun nn zs za zw znd => step13 (fs := [f]) (n := 4) nn za zw (sc _ _ hm) gl.gn (by show 8 + 2 ≤ 5000; decide) (by decide) ?_ ?_⟩
    · intro z ez1 ez2 nz f' hf' x e he g
      rw [List.mem_singleton.mp hf']
      exact rf_putS0 T (lmE xs hf) (coE xs hc) (by rw [ez1]; exact C) nz ez2 hDc g fr01 (by decide) (by decide) (se0_bad h0 he)
    refine fun Gz sh sz => ⟨sh, true, rfl, iteF ?_⟩
    generalize hidL (adrs zs) Gz = Gy at sz ⊢
    have S7 := T1.same sz
    clear hDc xs T1 C hf hc sz hm sm sc gl gB ea ta S6
    -- over, tongue 1
    refine ⟨S7.tab, fun f F Ga ea ta na hf hc C => ⟨(by show 1 ≤ sizeLine; decide), fun m nm => ?_⟩⟩
    have sm : Same Ga (upd Ga m (.lst [.ref f])) := same_upd nm
    have hm : (upd Ga m (.lst [.ref f])) m = some (.lst ([f].map V.ref)) := upd_same
    generalize upd Ga m (.lst [.ref f]) = Gb at sm hm ⊢
    have gB := gn_p0 ((S7.next ea ta).same sm).bad
    refine cat_cons (ds := strD far ++ [.int 0, .int 1, .int 3, .int (3 + far)]) ?_ fun Gc a sc gl => ?_
    · refine DL.cat (by (repeat' (first | exact DT.varI rfl | exact DG.nil | exact DT.non | exact DT.bl _ | exact DT.int _ | exact DT.str _ | exact DT.dnew | refine DG.cons ?_ ?_ | refine DL.lst ?_ ?_ | refine DL.cat ?_ ?_ ?_ | refine DT.lst ?_ ?_ | refine DT.tup ?_ ?_ | refine DT.cat ?_ ?_ ?_ | refine DT.slFrom ?_ ?_ ?_ | refine DT.op0 ?_ ?_ | refine DT.un ?_ | refine DT.opC ?_ ?_ ?_ | (refine DT.var rfl ?_; assumption) | (show _ ≤ _; decide) | (simp only [List.length_cons, List.length_nil, List.length_append]; omega) | omega))) (by (repeat' (first | exact DT.varI rfl | exact DG.nil | exact DT.non | exact DT.bl _ | exact DT.int _ | exact DT.str _ | exact DT.dnew | refine DG.cons ?_ ?_ | refine DL.lst ?_ ?_ | refine DL.cat ?_ ?_ ?_ | refine DT.lst ?_ ?_ | refine DT.tup ?_ ?_ | refine DT.cat ?_ ?_ ?_ | refine DT.slFrom ?_ ?_ ?_ | refine DT.op0 ?_ ?_ | refine DT.un ?_ | refine DT.opC ?_ ?_ ?_ | (refine DT.var rfl ?_; assumption) | (show _ ≤ _; decide) | (simp only [List.length_cons, List.length_nil, List.length_append]; omega) | omega))) ?_
      show 9 + 4 ≤ 5000
      decide
    have T1 := ((S7.next ea ta).same sm).same sc
    obtain ⟨Fc, hDc⟩ := T1.desk
    have xs := ext_same (sm.trans sc)
    refine ⟨[.ref d], rfl, fun nn zs za zw znd => step13 (fs := [f]) (n := 9) nn za zw (sc _ _ hm) gl.gn (by show 9 + 4 ≤ 5000; decide) (by decide) ?_ ?_⟩
    · intro z ez1 ez2 nz f' hf' x e he g
      rw [List.mem_singleton.mp hf']
      exact rf_putO1 T (lmE xs hf) (coE xs hc) (by rw [ez1]; exact C) nz ez2 hDc g fr01 (by decide) (by decide) (by decide) (ov1_bad h0 he)
    refine fun Gz sh sz => ⟨sh, true, rfl, iteF ?_⟩
    generalize hidL (adrs zs) Gz = Gy at sz ⊢
    have S8 := T1.same sz
    clear hDc xs T1 C hf hc sz hm sm sc gl gB ea ta S7
    -- over, tongue 2 and the source
    refine ⟨S8.tab, fun f1 F1 G1 e1 t1 n1 hf1 hc1 C1 => ⟨t1, fun f2 F2 G2 e2 t2 n2 hf2 hc2 C2 => ⟨(by show 2 ≤ sizeLine; decide), fun m nm => ?_⟩⟩⟩
    have sm : Same G2 (upd G2 m (.lst [.ref f1, .ref f2])) := same_upd nm
    have hm : (upd G2 m (.lst [.ref f1, .ref f2])) m = some (.lst ([f1, f2].map V.ref)) := upd_same
    generalize upd G2 m (.lst [.ref f1, .ref f2]) = Gb at sm hm ⊢
    have S9 := ((S8.next e1 t1).next e2 t2).same sm
    have gB := gn_p0 S9.bad
    refine ⟨.ref m, rfl, ?_⟩
    refine cat_cons (ds := (strD far).drop (1 : Int).toNat ++ [.int 2, .int 7]) ?_ fun Gc a sc gl => ?_
    · refine DL.cat (by (repeat' (first | exact DT.varI rfl | exact DG.nil | exact DT.non | exact DT.bl _ | exact DT.int _ | exact DT.str _ | exact DT.dnew | refine DG.cons ?_ ?_ | refine DL.lst ?_ ?_ | refine DL.cat ?_ ?_ ?_ | refine DT.lst ?_ ?_ | refine DT.tup ?_ ?_ | refine DT.cat ?_ ?_ ?_ | refine DT.slFrom ?_ ?_ ?_ | refine DT.op0 ?_ ?_ | refine DT.un ?_ | refine DT.opC ?_ ?_ ?_ | (refine DT.var rfl ?_; assumption) | (show _ ≤ _; decide) | (simp only [List.length_cons, List.length_nil, List.length_append]; omega) | omega))) (by (repeat' (first | exact DT.varI rfl | exact DG.nil | exact DT.non | exact DT.bl _ | exact DT.int _ | exact DT.str _ | exact DT.dnew | refine DG.cons ?_ ?_ | refine DL.lst ?_ ?_ | refine DL.cat ?_ ?_ ?_ | refine DT.lst ?_ ?_ | refine DT.tup ?_ ?_ | refine DT.cat ?_ ?_ ?_ | refine DT.slFrom ?_ ?_ ?_ | refine DT.op0 ?_ ?_ | refine DT.un ?_ | refine DT.opC ?_ ?_ ?_ | (refine DT.var rfl ?_; assumption) | (show _ ≤ _; decide) | (simp only [List.length_cons, List.length_nil, List.length_append]; omega) | omega))) ?_
      show 8 + 2 ≤ 5000
      decide
    have T1 := S9.same sc
    obtain ⟨Fc, hDc⟩ := T1.desk
    have xs := ext_same (sm.trans sc)
    refine ⟨[.ref d], rfl, fun nn zs za zw znd => step13 (fs := [f1, f2]) (n := 9) nn za zw (sc _ _ hm) gl.gn (by show 8 + 2 ≤ 5000; decide) (by decide) ?_ ?_⟩
    · intro z ez1 ez2 nz f hf x e he g
      simp only [List.mem_cons, List.not_mem_nil, or_false] at hf
      obtain ⟨o2, o0⟩ := ov02_bad h0 he
      rcases hf with rfl | rfl
      · exact rf_putO2 T (lmE (e2.trans xs) hf1) (coE (e2.trans xs) hc1) (by rw [ez1]; exact C1) nz ez2 hDc g fr01 (by decide) (by decide) (by decide) o2
      · exact rf_putO0 T (lmE xs hf2) (coE xs hc2) (by rw [ez1]; exact C2) nz ez2 hDc g fr01 (by decide) (by decide) (by decide) o0
    refine fun Gz sh sz => ⟨sh, true, rfl, iteF ?_⟩
    generalize hidL (adrs zs) Gz = Gy at sz ⊢
    have S10 := T1.same sz
    clear hDc xs T1 C1 C2 hf1 hf2 hc1 hc2 sz hm sm sc gl gB e1 t1 e2 t2 S8 S9
    -- nothing to be taken back
    refine ⟨S10.tab, fun f F Ga ea ta na hf hc C => ⟨(by show 1 ≤ sizeLine; decide), fun m nm => ?_⟩⟩
    have sm : Same Ga (upd Ga m (.lst [.ref f])) := same_upd nm
    have hm : (upd Ga m (.lst [.ref f])) m = some (.lst ([f].map V.ref)) := upd_same
    generalize upd Ga m (.lst [.ref f]) = Gb at sm hm ⊢
    refine lst_cons (ds := [.int 0, .int 2]) ?_ fun Gc a sc gl => ?_
    · refine DL.lst (by (repeat' (first | exact DT.varI rfl | exact DG.nil | exact DT.non | exact DT.bl _ | exact DT.int _ | exact DT.str _ | exact DT.dnew | refine DG.cons ?_ ?_ | refine DL.lst ?_ ?_ | refine DL.cat ?_ ?_ ?_ | refine DT.lst ?_ ?_ | refine DT.tup ?_ ?_ | refine DT.cat ?_ ?_ ?_ | refine DT.slFrom ?_ ?_ ?_ | refine DT.op0 ?_ ?_ | refine DT.un ?_ | refine DT.opC ?_ ?_ ?_ | (refine DT.var rfl ?_; assumption) | (show _ ≤ _; decide) | (simp only [List.length_cons, List.length_nil, List.length_append]; omega) | omega))) ?_
      show 2 ≤ 5000
      decide
    have T1 := ((S10.next ea ta).same sm).same sc
    obtain ⟨Fc, hDc⟩ := T1.desk
    have xs := ext_same (sm.trans sc)
    refine ⟨[.ref d], rfl, fun nn zs za zw znd => step13 (fs := [f]) (n := 10) nn za zw (sc _ _ hm) gl.gn (by show 2 ≤ 5000; decide) (by decide) ?_ ?_⟩
    · intro z ez1 ez2 nz f' hf' x e he g
      rw [List.mem_singleton.mp hf']
      simp only [List.mem_cons, List.not_mem_nil, or_false] at he
      rcases he with rfl | rfl
      · exact rf_backN (t := 0) T (lmE xs hf) (coE xs hc) (by rw [ez1]; exact C) nz ez2 hDc g (by decide) (by decide) (by decide)
      · exact rf_backN (t := 2) T (lmE xs hf) (coE xs hc) (by rw [ez1]; exact C) nz ez2 hDc g (by decide) (by decide) (by decide)
    refine fun Gz sh sz => ⟨sh, ?_⟩
    have S11 := T1.same sz
    exact q _ S11.ext S11.tab

end PD

namespace PD
open PySem PySem.Spec PyProof.Rows L2

/-! Phrasedesk, law_k13: the law -/
open LamX NdefX
--# law
def spLaw (K : PySem.W.Frag) : Sp := fun vs H Q _ => ∃ (a : Addr) (ns : List Int), vs = [.ref a] ∧ (∀ p ∈ tfs.map (He.cT K), H p.2 = some (.tbl #[])) ∧ SqL K H a (ns.map V.int) ∧ ∀ H' : Hp, Q (.bl true) H'
theorem tabs_nil {K : PySem.W.Frag} {H : Hp} (h : ∀ p ∈ tfs.map (He.cT K), H p.2 = some (.tbl #[])) : Tabs (tbs K) H := by
  intro p hp
  simp only [List.mem_cons, List.not_mem_nil, or_false] at hp
  rcases hp with rfl | rfl | rfl | rfl
  · exact LamX.TabS.nil (h _ (List.mem_map.mpr ⟨("deepest_first", none), by simp [tfs], rfl⟩))
  · exact LamX.TabS.nil (h _ (List.mem_map.mpr ⟨("telling_depth", none), by simp [tfs], rfl⟩))
  · exact LamX.TabS.nil (h _ (List.mem_map.mpr ⟨("_law_puts_right", none), by simp [tfs], rfl⟩))
  · exact LamX.TabS.nil (h _ (List.mem_map.mpr ⟨("law", none), by simp [tfs], rfl⟩))
theorem cut2 (ns : List Int) : cutV (ns.map V.int) none (some 2) = (ns.take 2).map V.int := by
  rw [show (some (2 : Int)) = some ((2 : Nat) : Int) from rfl, cut_to, List.map_take]
--# plain13
/-- neither a tuple nor what tables tell of -/
structure Plain (o : HO) : Prop where
  t : ∀ xs, o ≠ .tup xs
  b : ∀ ps, o ≠ .tbl ps
  e : ∀ f, o ≠ .ext f
theorem footD_plain {H : Hp} {CD CP d : Addr} {fr : List Int} {S : De} {ls : List Line} {B : DA} (h : DeskAt H CD CP d fr S ls B) {x : Addr} (hx : footD d fr S.n B x) : ∃ o, H x = some o ∧ Plain o := by
  rcases hx with rfl | rfl | hx
  · exact ⟨_, h.obj, (fun _ z => nomatch z), (fun _ z => nomatch z), (fun _ z => nomatch z)⟩
  · obtain ⟨vs, hv, _⟩ := h.lines
    exact ⟨_, hv, (fun _ z => nomatch z), (fun _ z => nomatch z), (fun _ z => nomatch z)⟩
  · have r := h.past.raw
    rcases hx with rfl | rfl | rfl | rfl | rfl | rfl | ⟨p, t, d, rfl⟩ | ⟨p, t, d, rfl⟩
    · exact ⟨_, r.obj, (fun _ z => nomatch z), (fun _ z => nomatch z), (fun _ z => nomatch z)⟩
    · exact ⟨_, r.frm, (fun _ z => nomatch z), (fun _ z => nomatch z), (fun _ z => nomatch z)⟩
    · exact ⟨_, r.tx, (fun _ z => nomatch z), (fun _ z => nomatch z), (fun _ z => nomatch z)⟩
    · exact ⟨_, r.og, (fun _ z => nomatch z), (fun _ z => nomatch z), (fun _ z => nomatch z)⟩
    · exact ⟨_, r.ev, (fun _ z => nomatch z), (fun _ z => nomatch z), (fun _ z => nomatch z)⟩
    · exact ⟨_, r.pi, (fun _ z => nomatch z), (fun _ z => nomatch z), (fun _ z => nomatch z)⟩
    · exact ⟨_, (r.evs p t d).2, (fun _ z => nomatch z), (fun _ z => nomatch z), (fun _ z => nomatch z)⟩
    · exact ⟨_, (r.pis p t d).2, (fun _ z => nomatch z), (fun _ z => nomatch z), (fun _ z => nomatch z)⟩
theorem Desk.shrink {H : Hp} {CD CP d : Addr} {fr : List Int} {S : De} {ls : List Line} {F : Addr → Prop} (h : Desk H CD CP d fr S ls F) : ∃ F', Desk H CD CP d fr S ls F' ∧ (∀ x, F' x → F x) ∧ ∀ x, F' x → ∃ o, H x = some o ∧ Plain o := by
  obtain ⟨B, h1, h2, _⟩ := h
  exact ⟨_, desk_of h1, h2, fun x z => footD_plain h1 z⟩
theorem deed_tabs {T : List (Addr × Str)} {H H' : Hp} {F : Addr → Prop} (h : Tabs T H) (hp : ∀ x, F x → ∃ o, H x = some o ∧ Plain o) (on : Only F H H') : Tabs T H' := by
  have nt : ∀ {q : Addr} {o : HO}, H q = some o → ¬ Plain o → ¬ F q := fun {q o} eq np z => by
    obtain ⟨u, eu, pu⟩ := hp q z
    rw [eq] at eu
    cases (Option.some.inj eu)
    exact np pu
  intro p hp'
  obtain ⟨ps, a, b, c⟩ := h p hp'
  refine ⟨ps, on.out _ _ (nt a fun p => p.b _ rfl) a, b, fun pos cv hc => ?_⟩
  obtain ⟨c', e1, e2⟩ := c pos cv hc
  exact ⟨c', e1, on.out _ _ (nt e2 fun p => p.e _ rfl) e2⟩
structure Lone (K : PySem.W.Frag) (A H : Hp) (d : Addr) (fr : List Int) (S : De) (ls : List Line) (F : Addr → Prop) : Prop where
  same : Same A H
  desk : DeK K H d fr S ls F
  ok : S.Ok fr
  fo : FrOk fr
  new : ∀ x, F x → A x = none
section
variable {K : PySem.W.Frag} {A H H' : Hp} {d : Addr} {fr : List Int} {S S' : De} {ls ls' : List Line} {F F' P : Addr → Prop}
theorem Lone.next (h : Lone K A H d fr S ls F) (s : Same H H') : Lone K A H' d fr S ls F := ⟨h.same.trans s, h.desk.same s, h.ok, h.fo, h.new⟩
theorem Lone.went (h : Lone K A H d fr S ls F) (dk : DeK K H' d fr S' ls' F') (o : Only F H H') (f : ∀ x, F' x → F x ∨ H x = none) (ok : S'.Ok fr) : Lone K A H' d fr S' ls' F' := by
  refine ⟨fun x u ex => o.out x u (fun z => ?_) (h.same _ _ ex), dk, ok, h.fo, fun x z => ?_⟩
  · rw [h.new x z] at ex
    cases ex
  · exact (f x z).elim (h.new x) fun w => h.same.free w
theorem Lone.obj (h : Lone K A H d fr S ls F) : ∃ dx p L, H d = some (.ins (He.ga K "Desk") dx (deskF p L)) := let ⟨B, hB, _⟩ := h.desk; ⟨_, _, _, hB.obj⟩
/-- data that is not the desk's stays -/
theorem Lone.data (h : Lone K A H d fr S ls F) (o : Only F H H') (f : ∀ x, F' x → F x ∨ H x = none) {v : V} {e : PyData} (z : Dn F H v e) : Dn F' H' v e :=
  z.keep (fun a xs n ea => ⟨fun w => (f a w).elim n (fun y => by rw [ea] at y; cases y), o.out _ _ n ea⟩) fun a xs ea => h.desk.tup o ea
theorem Lone.datas (h : Lone K A H d fr S ls F) (o : Only F H H') (f : ∀ x, F' x → F x ∨ H x = none) {v : List V} {e : List PyData} (z : DnAll F H v e) : DnAll F' H' v e :=
  z.keep (fun a xs n ea => ⟨fun w => (f a w).elim n (fun y => by rw [ea] at y; cases y), o.out _ _ n ea⟩) fun a xs ea => h.desk.tup o ea
theorem Lone.no (h : Lone K A H d fr S ls F) {a : Addr} (n : H a = none) : ¬ F a := fun z => by
  obtain ⟨u, e⟩ := h.desk.there z
  rw [n] at e
  cases e
/-- a desk made -/
theorem Lone.begin {H0 H1 H2 : Hp} {dd : Addr} {u w : HO} (s1 : Same A H0) (nd : H0 d = none) (ndd : H0 dd = none) (fo : FrOk fr) (e : H1 = upd (upd H0 dd u) d w) (dk : DeK K H2 d fr De.none [] F) (k2 : ∀ x o, x ≠ d → H1 x = some o → H2 x = some o) (f2 : ∀ x, F x → x = d ∨ H1 x = none) : Lone K A H2 d fr De.none [] F ∧ Same H0 H2 ∧ ∀ x, F x → H0 x = none := by
  have k12 : Same H0 H2 := fun x o ex => k2 x o (ne_of_none ex nd) (by rw [e, upd_ne (ne_of_none ex nd), upd_ne (ne_of_none ex ndd)]; exact ex)
  have fn : ∀ x, F x → H0 x = none := by
    intro x fx
    rcases f2 x fx with z | z
    · rw [z]
      exact nd
    · cases ex : H0 x with
      | none => rfl
      | some u =>
        rw [e, upd_ne (ne_of_none ex nd), upd_ne (ne_of_none ex ndd), ex] at z
        cases z
  exact ⟨⟨s1.trans k12, dk, De.none_ok, fo, fun x fx => s1.free (fn x fx)⟩, k12, fn⟩
end
theorem fr00 : FrOk [0, 0] := ⟨by decide, by decide, fun i x e => by
  match i, e with
  | 0, e => cases (Option.some.inj e); exact ⟨by decide, by decide⟩
  | 1, e => cases (Option.some.inj e); exact ⟨by decide, by decide⟩⟩
theorem fr0 : FrOk [0] := ⟨by decide, by decide, fun i x e => by
  match i, e with
  | 0, e => cases (Option.some.inj e); exact ⟨by decide, by decide⟩⟩
def spYes : Sp := fun vs H Q _ => vs = [] ∧ ∀ H' : Hp, Same H H' → Q (.bl true) H'
theorem tx_b : TxOk "b" := ⟨by decide +kernel, by decide +kernel, by decide +kernel⟩
theorem tx_c : TxOk "c" := ⟨by decide +kernel, by decide +kernel, by decide +kernel⟩
theorem tx_d : TxOk "d" := ⟨by decide +kernel, by decide +kernel, by decide +kernel⟩
theorem tx_e : TxOk "e" := ⟨by decide +kernel, by decide +kernel, by decide +kernel⟩
theorem tx_y : TxOk "y" := ⟨by decide +kernel, by decide +kernel, by decide +kernel⟩
theorem tx_z : TxOk "z" := ⟨by decide +kernel, by decide +kernel, by decide +kernel⟩
/-- a translation, or the text itself, put by hand -/
theorem may_put {fr : List Int} {S : De} {p t k : Nat} {x : Str} {o : Option Int} {v : Pt} (hp : p < S.n) (ht : t ≤ fr.length) (t0 : 0 < t) (hx : TxOk x) (ho : o = S.now p t) (hk : S.puts[k]? = some v) (h1 : v.p = p) (h2 : v.t = up fr t) : S.May fr (.put p t x (some (k : Int)) o) :=
  ⟨hp, ht, hx, ho, fun z => absurd t0 (by omega), fun _ => ⟨k, rfl, v, hk, h1, h2⟩⟩
theorem may_put0 {fr : List Int} {S : De} {p : Nat} {x : Str} {o : Option Int} (hp : p < S.n) (hx : TxOk x) (ho : o = S.now p 0) : S.May fr (.put p 0 x Option.none o) :=
  ⟨hp, Nat.zero_le _, hx, ho, fun _ => rfl, fun z => absurd z (Nat.lt_irrefl _)⟩
--# _law_strange2
theorem dt_ret {P : Addr → Prop} {t : TE} {σ : L2.St} {H : Hp} {D : Ends} {d : PyData} (hp : ∀ b, P b → H b ≠ none) (h : DT P t σ H d) (k : ∀ H' v, Same H H' → Gn (off P H') v d → D.rt v H') : tRet t D σ H := h H _ hp (Same.refl _) k
def spStrange2 : Sp := fun vs H Q _ => ∃ (far : Int) (P : Addr → Prop), vs = [.int far] ∧ (∀ b, P b → H b ≠ none) ∧ ∀ (H' : Hp) (v : V), Same H H' → Gn (off P H') v (.list (strD far)) → Q v H'
theorem c_law_strange2 {P : Program} {w : World} {K : PySem.W.Frag} {mg : Str → Option Value} {base : Heap} (T : Tx K mg) : C8.Cal P w K mg base 2 "_law_strange" (spStrange2) [] := by
  refine calD T.F_law_strange T.g_law_strange (fun _ _ _ _ _ _ us hl => match us, hl with | [_], _ => rfl) sc_law_strange (fun vs H Q E h => ?_) (fun cdv A outer s H vs Q E hr h => ?_)
  · obtain ⟨far, P1, rfl, _⟩ := h
    rfl
  · obtain ⟨far, P1, rfl, hp, q⟩ := h
    refine ⟨_, (pss_one (ps_ret (pe_lst (pa_cons pe_non (pa_cons pe_str (pa_cons pe_bl (pa_cons pe_bl (pa_cons (pe_lst (L2.pa_cons pe_int L2.pa_nil)) (pa_cons (pe_tup (pa_cons pe_int pa_nil)) (pa_cons pe_dnewK (pa_cons (pe_un un_neg pe_int) (pa_cons (pe_op op_sub (pe_un un_neg pe_int) (pv 0)) pa_nil)))))))))))), ?_⟩
    have g : Gn (off P1 H) (V.int far) (.int far) := .int _
    refine dt_ret (d := .list (strD far)) hp ?_ fun H' v s g => q H' v s g
    unfold strD
    (repeat' (first | exact DG.nil | exact DT.non | exact DT.bl _ | exact DT.int _ | exact DT.str _ | exact DT.dnew | refine DG.cons ?_ ?_ | refine DL.lst ?_ ?_ | refine DL.cat ?_ ?_ ?_ | refine DT.lst ?_ ?_ | refine DT.tup ?_ ?_ | refine DT.cat ?_ ?_ ?_ | refine DT.rep ?_ ?_ ?_ ?_ ?_ | refine DT.op0 ?_ ?_ | refine DT.un ?_ | refine DT.opC ?_ ?_ ?_ | (refine DT.var rfl ?_; assumption) | (show _ ≤ _; decide) | (simp only [List.length_cons, List.length_nil, List.length_append]; omega) | omega))
--# law13
theorem off_only {F F' : Addr → Prop} {H H' : Hp} (on : Only F H H') (f : ∀ x, F' x → F x ∨ H x = none) : Same (off F H) (off F' H') := fun b o e => by
  obtain ⟨e1, n⟩ := off_some e
  have n' : ¬ F' b := fun z => (f b z).elim n fun w => by
    rw [w] at e1
    cases e1
  rw [off_ne n']
  exact on.out _ _ n e1
structure Lw13 (K : PySem.W.Frag) (H0 G : Hp) (d b r : Addr) (far : Int) : Prop where
  st : St13 K H0 G d b far
  kp : Dn NoP G (.ref r) (toldD [0, 1] dS3 dL3)
theorem Lw13.next {K : PySem.W.Frag} {H0 G G' : Hp} {d b r : Addr} {far : Int} (h : Lw13 K H0 G d b r far) (e : ExtN G G') (t : Tabs (tbs K) G') : Lw13 K H0 G' d b r far :=
  ⟨h.st.next e t, h.kp.keep (fun a xs n ea => ⟨n, e _ _ ea fun _ z => nomatch z⟩) fun a xs ea => e _ _ ea fun _ z => nomatch z⟩
theorem Lw13.same {K : PySem.W.Frag} {H0 G G' : Hp} {d b r : Addr} {far : Int} (h : Lw13 K H0 G d b r far) (s : Same G G') : Lw13 K H0 G' d b r far := h.next (ext_same s) (tabs_same s h.st.tab)
structure LamIn (P : Program) (w : World) (K : PySem.W.Frag) (mg : Str → Option Value) (base : Heap) (G : Hp) (f : Addr) (n1 n2 : Str) (c : Addr) (tb : XK → TE) : Prop where
  ex : ∃ F : LF, G f = some (LmO f F) ∧ G F.c = some (CodeO F.c F.qual) ∧ Calls P w K mg base 13 f (spLam f F [n1, n2] [c] tb)
theorem LamIn.ext {P : Program} {w : World} {K : PySem.W.Frag} {mg : Str → Option Value} {base : Heap} {G G' : Hp} {f : Addr} {n1 n2 : Str} {c : Addr} {tb : XK → TE} (h : LamIn P w K mg base G f n1 n2 c tb) (e : ExtN G G') : LamIn P w K mg base G' f n1 n2 c tb := by
  obtain ⟨F, a, b, C⟩ := h.ex
  exact ⟨F, lmE e a, coE e b, C⟩
def HasD (K : PySem.W.Frag) (G : Hp) (v : Option V) : Prop := ∃ (d : Addr) (F : Addr → Prop), v = some (.ref d) ∧ DeK K G d [0, 1] dS3 dL3 F
theorem sc_law : FnScope ["_law_script", "_law_cell", "_law_turn", "_law_far", "_law_desk", "_law_bad", "_law_kept", "_law_asks"] ["_law_script"] (defScope s_law) := ⟨rfl, rfl, rfl, by decide +kernel, rfl, by decide +kernel, by decide +kernel⟩
theorem lawG {P : Program} {w : World} {K : PySem.W.Frag} {mg : Str → Option Value} {base : Heap} {fd : FuncData} (T : Tx K mg) (B : Tb K mg base) (F : FunD K "law" "law" (defArgs s_law) (defBody s_law) (defScope s_law) [] [] (He.ga K "law") fd) : FnG P w K mg base 17 (He.ga K "law") fd ["_law_script"] (spLaw K) := by
  refine okGT F sc_law (fun vs H Q E h => ?_) (fun A outer s H vs Q E hgd hr h => ?_)
  · obtain ⟨a, ns, rfl, _⟩ := h
    rfl
  · obtain ⟨a, ns, rfl, tb0, hS, q⟩ := h
    refine ⟨_, (pss_cons (ps_for PassesOwn.never rfl (pi_list (pe_op op_cat (pe_lst (pa_cons pe_int pa_nil)) (pe_slice sl_list (pv 0) po_none (po_some pe_int)))) (pg_name (i := 1) sc_law.nd rfl (Or.inl rfl))
      (pss_cons (ps_set (i := 3) sc_law.nd rfl (Or.inl rfl) (pe_op op_modN (pe_callB call_abs (by rfl) T.f_abs (by decide +kernel) (pa_cons (pv 1) pa_nil)) (pe_op op_pow pe_int pe_int)))
      (pss_cons (ps_if (pt_not (pt_val (C8.pe_c (c_law_all (P := P) (w := w) (K := K) (mg := mg) (base := base) T) hr (by decide) rfl (pa_cons (pe_lst (pa_cons (pe_lamC (T := tbs K) (k := 12) (N := ["_law_one"]) (fr := []) (js := []) B.tb_law rfl (List.mem_cons_of_mem _ (List.mem_cons_of_mem _ (List.mem_cons_of_mem _ (List.mem_cons_self)))) T.u_law ⟨NdefX.nscope_by (by decide +kernel), NdefX.ndef_free (sc := defScope s_law) (fr := []) (by decide +kernel), NdefX.ndef_fr (sc := defScope s_law) (by decide +kernel), rfl, rfl, fun _ _ _ _ _ _ => rfl⟩ (fun _ _ _ _ _ _ _ hr => (pe_mkX (c_DeskX_init (P := P) (w := w) (K := K) (mg := mg) (base := base) T) hr (by decide) (takes_of rfl rfl rfl rfl) rfl (pa_cons (pv 0) pa_nil)))) pa_nil)) (pa_cons (C8.pe_c (c_law_no_froms T) hr (by decide) rfl (pa_cons (pv 3) pa_nil)) (pa_cons pe_int pa_nil))))))
        (pss_one (ps_ret pe_bl))
        pss_nil)
      (pss_cons (ps_asg (pe_tup (pa_cons (C8.pe_mk (c_Desk_init T) hr (by decide) rfl (pa_cons (pe_lst (pa_cons pe_int (pa_cons pe_int pa_nil))) pa_nil)) (pa_cons (C8.pe_c (c_law_strange2 T) hr (by decide) rfl (pa_cons (pv 3) pa_nil)) pa_nil))) (pg_tup rfl (pgs_cons (pg_name (i := 4) sc_law.nd rfl (Or.inr rfl)) (pgs_cons (pg_name (i := 5) sc_law.nd rfl (Or.inl rfl)) pgs_nil))))
      (pss_cons (ps_if (pt_cmpR (op_neD hr.units) (pe_lst (pa_cons (C8.pe_mt (c_Desk_phrase T) hr (by decide) (pv 4) (pa_cons pe_str pa_nil)) (pa_cons (C8.pe_mt (c_Desk_phrase T) hr (by decide) (pv 4) (pa_cons pe_str pa_nil)) (pa_cons (C8.pe_mt (c_Desk_put T) hr (by decide) (pv 4) (pa_cons pe_int (pa_cons pe_int (pa_cons pe_str (pa_cons pe_int (pa_cons pe_non pa_nil)))))) pa_nil)))) (pe_lst (pa_cons pe_int (pa_cons pe_int (pa_cons pe_int pa_nil)))) (nomark _))
        (pss_one (ps_ret pe_bl))
        pss_nil)
      (pss_cons (ps_set (i := 6) sc_law.nd rfl (Or.inl rfl) (C8.pe_c (c_law_told_of (P := P) (w := w) (K := K) (mg := mg) (base := base) T) hr (by decide) rfl (pa_cons (pv 4) pa_nil)))
      (pss_cons (ps_set (i := 7) sc_law.nd rfl (Or.inl rfl) (pe_lst (pa_cons (pe_lamC (T := tbs K) (k := 12) (N := ["_law_one", "_law_desk"]) (fr := ["_law_desk"]) (js := [4]) B.tb_law rfl (List.mem_cons_of_mem _ (List.mem_cons_of_mem _ (List.mem_cons_of_mem _ (List.mem_cons_self)))) T.u_law ⟨NdefX.nscope_by (by decide +kernel), NdefX.ndef_free (sc := defScope s_law) (fr := ["_law_desk"]) (by decide +kernel), NdefX.ndef_fr (sc := defScope s_law) (by decide +kernel), rfl, rfl, fun _ _ _ _ _ _ => rfl⟩ (fun _ _ _ _ _ _ _ hr => (pe_mtX (c_Desk_putP (P := P) (w := w) (K := K) (mg := mg) (base := base) T) hr (by decide) (takes_of rfl rfl rfl rfl) (pv 1) (pa_cons (pv 0) (pa_cons pe_non (pa_cons pe_non (pa_cons pe_non (pa_cons pe_non pa_nil)))))))) (pa_cons (pe_lamC (T := tbs K) (k := 12) (N := ["_law_two", "_law_desk"]) (fr := ["_law_desk"]) (js := [4]) B.tb_law rfl (List.mem_cons_of_mem _ (List.mem_cons_of_mem _ (List.mem_cons_of_mem _ (List.mem_cons_self)))) T.u_law ⟨NdefX.nscope_by (by decide +kernel), NdefX.ndef_free (sc := defScope s_law) (fr := ["_law_desk"]) (by decide +kernel), NdefX.ndef_fr (sc := defScope s_law) (by decide +kernel), rfl, rfl, fun _ _ _ _ _ _ => rfl⟩ (fun _ _ _ _ _ _ _ hr => (pe_mtX (c_Desk_backP (P := P) (w := w) (K := K) (mg := mg) (base := base) T) hr (by decide) (takes_of rfl rfl rfl rfl) (pv 1) (pa_cons (pv 0) (pa_cons pe_non pa_nil))))) pa_nil))))
      (pss_cons (ps_set (i := 7) sc_law.nd rfl (Or.inl rfl) (pe_op op_cat (pv 7) (pe_lst (pa_cons (pe_lamC (T := tbs K) (k := 12) (N := ["_law_this", "_law_desk"]) (fr := ["_law_desk"]) (js := [4]) B.tb_law rfl (List.mem_cons_of_mem _ (List.mem_cons_of_mem _ (List.mem_cons_of_mem _ (List.mem_cons_self)))) T.u_law ⟨NdefX.nscope_by (by decide +kernel), NdefX.ndef_free (sc := defScope s_law) (fr := ["_law_desk"]) (by decide +kernel), NdefX.ndef_fr (sc := defScope s_law) (by decide +kernel), rfl, rfl, fun _ _ _ _ _ _ => rfl⟩ (fun _ _ _ _ _ _ _ hr => (pe_mtX (c_Desk_nowP (P := P) (w := w) (K := K) (mg := mg) (base := base) T) hr (by decide) (takes_of rfl rfl rfl rfl) (pv 1) (pa_cons (pv 0) (pa_cons pe_non pa_nil))))) (pa_cons (pe_lamC (T := tbs K) (k := 12) (N := ["_law_that", "_law_desk"]) (fr := ["_law_desk"]) (js := [4]) B.tb_law rfl (List.mem_cons_of_mem _ (List.mem_cons_of_mem _ (List.mem_cons_of_mem _ (List.mem_cons_self)))) T.u_law ⟨NdefX.nscope_by (by decide +kernel), NdefX.ndef_free (sc := defScope s_law) (fr := ["_law_desk"]) (by decide +kernel), NdefX.ndef_fr (sc := defScope s_law) (by decide +kernel), rfl, rfl, fun _ _ _ _ _ _ => rfl⟩ (fun _ _ _ _ _ _ _ hr => (pe_mtX (c_Desk_all_putP (P := P) (w := w) (K := K) (mg := mg) (base := base) T) hr (by decide) (takes_of rfl rfl rfl rfl) (pv 1) (pa_cons (pv 0) (pa_cons pe_non pa_nil))))) pa_nil)))))
      (pss_cons (ps_set (i := 7) sc_law.nd rfl (Or.inl rfl) (pe_op op_cat (pv 7) (pe_lst (pa_cons (pe_lamC (T := tbs K) (k := 12) (N := ["_law_it", "_law_desk"]) (fr := ["_law_desk"]) (js := [4]) B.tb_law rfl (List.mem_cons_of_mem _ (List.mem_cons_of_mem _ (List.mem_cons_of_mem _ (List.mem_cons_self)))) T.u_law ⟨NdefX.nscope_by (by decide +kernel), NdefX.ndef_free (sc := defScope s_law) (fr := ["_law_desk"]) (by decide +kernel), NdefX.ndef_fr (sc := defScope s_law) (by decide +kernel), rfl, rfl, fun _ _ _ _ _ _ => rfl⟩ (fun _ _ _ _ _ _ _ hr => (pe_mtX (c_Desk_rowP (P := P) (w := w) (K := K) (mg := mg) (base := base) T) hr (by decide) (takes_of rfl rfl rfl rfl) (pv 1) (pa_cons (pv 0) pa_nil)))) (pa_cons (pe_lamC (T := tbs K) (k := 12) (N := ["_law_last", "_law_desk"]) (fr := ["_law_desk"]) (js := [4]) B.tb_law rfl (List.mem_cons_of_mem _ (List.mem_cons_of_mem _ (List.mem_cons_of_mem _ (List.mem_cons_self)))) T.u_law ⟨NdefX.nscope_by (by decide +kernel), NdefX.ndef_free (sc := defScope s_law) (fr := ["_law_desk"]) (by decide +kernel), NdefX.ndef_fr (sc := defScope s_law) (by decide +kernel), rfl, rfl, fun _ _ _ _ _ _ => rfl⟩ (fun _ _ _ _ _ _ _ hr => (pe_mtX (c_Desk_likesP (P := P) (w := w) (K := K) (mg := mg) (base := base) T) hr (by decide) (takes_of rfl rfl rfl rfl) (pv 1) (pa_cons (pv 0) (pa_cons pe_non pa_nil))))) pa_nil)))))
      (pss_cons (ps_if (pt_not (pt_val (pe_cC (js := [4]) (c_law_all (P := P) (w := w) (K := K) (mg := mg) (base := base) T) hr (by decide) rfl (cells_by (N := ["_law_script", "_law_cell", "_law_turn", "_law_far", "_law_desk", "_law_bad", "_law_kept", "_law_asks"]) (sc := defScope s_law) (by decide +kernel)) (by decide) sc_law.nd (fun _ => rfl) (pa_cons (pv 7) (pa_cons (pe_op op_cat (pv 5) (pe_lst (pa_cons pe_int (pa_cons (pe_op op_add pe_int (pv 3)) pa_nil)))) (pa_cons pe_int pa_nil))))))
        (pss_one (ps_ret pe_bl))
        pss_nil)
      (pss_cons (ps_set (i := 7) sc_law.nd rfl (Or.inl rfl) (pe_lst (pa_cons (pe_lamC (T := tbs K) (k := 12) (N := ["_law_one", "_law_desk"]) (fr := ["_law_desk"]) (js := [4]) B.tb_law rfl (List.mem_cons_of_mem _ (List.mem_cons_of_mem _ (List.mem_cons_of_mem _ (List.mem_cons_self)))) T.u_law ⟨NdefX.nscope_by (by decide +kernel), NdefX.ndef_free (sc := defScope s_law) (fr := ["_law_desk"]) (by decide +kernel), NdefX.ndef_fr (sc := defScope s_law) (by decide +kernel), rfl, rfl, fun _ _ _ _ _ _ => rfl⟩ (fun _ _ _ _ _ _ _ hr => (pe_mtX (c_Desk_putT (P := P) (w := w) (K := K) (mg := mg) (base := base) T) hr (by decide) (takes_of rfl rfl rfl rfl) (pv 1) (pa_cons pe_int (pa_cons (pv 0) (pa_cons pe_non (pa_cons pe_non (pa_cons pe_non pa_nil)))))))) (pa_cons (pe_lamC (T := tbs K) (k := 12) (N := ["_law_two", "_law_desk"]) (fr := ["_law_desk"]) (js := [4]) B.tb_law rfl (List.mem_cons_of_mem _ (List.mem_cons_of_mem _ (List.mem_cons_of_mem _ (List.mem_cons_self)))) T.u_law ⟨NdefX.nscope_by (by decide +kernel), NdefX.ndef_free (sc := defScope s_law) (fr := ["_law_desk"]) (by decide +kernel), NdefX.ndef_fr (sc := defScope s_law) (by decide +kernel), rfl, rfl, fun _ _ _ _ _ _ => rfl⟩ (fun _ _ _ _ _ _ _ hr => (pe_mtX (c_Desk_backT (P := P) (w := w) (K := K) (mg := mg) (base := base) T) hr (by decide) (takes_of rfl rfl rfl rfl) (pv 1) (pa_cons pe_int (pa_cons (pv 0) pa_nil))))) pa_nil))))
      (pss_cons (ps_set (i := 7) sc_law.nd rfl (Or.inl rfl) (pe_op op_cat (pv 7) (pe_lst (pa_cons (pe_lamC (T := tbs K) (k := 12) (N := ["_law_this", "_law_desk"]) (fr := ["_law_desk"]) (js := [4]) B.tb_law rfl (List.mem_cons_of_mem _ (List.mem_cons_of_mem _ (List.mem_cons_of_mem _ (List.mem_cons_self)))) T.u_law ⟨NdefX.nscope_by (by decide +kernel), NdefX.ndef_free (sc := defScope s_law) (fr := ["_law_desk"]) (by decide +kernel), NdefX.ndef_fr (sc := defScope s_law) (by decide +kernel), rfl, rfl, fun _ _ _ _ _ _ => rfl⟩ (fun _ _ _ _ _ _ _ hr => (pe_mtX (c_Desk_nowT (P := P) (w := w) (K := K) (mg := mg) (base := base) T) hr (by decide) (takes_of rfl rfl rfl rfl) (pv 1) (pa_cons pe_int (pa_cons (pv 0) pa_nil))))) (pa_cons (pe_lamC (T := tbs K) (k := 12) (N := ["_law_that", "_law_desk"]) (fr := ["_law_desk"]) (js := [4]) B.tb_law rfl (List.mem_cons_of_mem _ (List.mem_cons_of_mem _ (List.mem_cons_of_mem _ (List.mem_cons_self)))) T.u_law ⟨NdefX.nscope_by (by decide +kernel), NdefX.ndef_free (sc := defScope s_law) (fr := ["_law_desk"]) (by decide +kernel), NdefX.ndef_fr (sc := defScope s_law) (by decide +kernel), rfl, rfl, fun _ _ _ _ _ _ => rfl⟩ (fun _ _ _ _ _ _ _ hr => (pe_mtX (c_Desk_all_putT (P := P) (w := w) (K := K) (mg := mg) (base := base) T) hr (by decide) (takes_of rfl rfl rfl rfl) (pv 1) (pa_cons pe_int (pa_cons (pv 0) pa_nil))))) pa_nil)))))
      (pss_cons (ps_if (pt_not (pt_val (pe_cC (js := [4]) (c_law_all (P := P) (w := w) (K := K) (mg := mg) (base := base) T) hr (by decide) rfl (cells_by (N := ["_law_script", "_law_cell", "_law_turn", "_law_far", "_law_desk", "_law_bad", "_law_kept", "_law_asks"]) (sc := defScope s_law) (by decide +kernel)) (by decide) sc_law.nd (fun _ => rfl) (pa_cons (pv 7) (pa_cons (pe_op op_cat (pv 5) (pe_lst (pa_cons pe_int (pa_cons (pe_op op_add pe_int (pv 3)) pa_nil)))) (pa_cons pe_int pa_nil))))))
        (pss_one (ps_ret pe_bl))
        pss_nil)
      (pss_cons (ps_if (pt_not (pt_val (pe_cC (js := [4]) (c_law_all (P := P) (w := w) (K := K) (mg := mg) (base := base) T) hr (by decide) rfl (cells_by (N := ["_law_script", "_law_cell", "_law_turn", "_law_far", "_law_desk", "_law_bad", "_law_kept", "_law_asks"]) (sc := defScope s_law) (by decide +kernel)) (by decide) sc_law.nd (fun _ => rfl) (pa_cons (pe_lst (pa_cons (pe_lamC (T := tbs K) (k := 12) (N := ["_law_one", "_law_desk"]) (fr := ["_law_desk"]) (js := [4]) B.tb_law rfl (List.mem_cons_of_mem _ (List.mem_cons_of_mem _ (List.mem_cons_of_mem _ (List.mem_cons_self)))) T.u_law ⟨NdefX.nscope_by (by decide +kernel), NdefX.ndef_free (sc := defScope s_law) (fr := ["_law_desk"]) (by decide +kernel), NdefX.ndef_fr (sc := defScope s_law) (by decide +kernel), rfl, rfl, fun _ _ _ _ _ _ => rfl⟩ (fun _ _ _ _ _ _ _ hr => (pe_mtX (c_Desk_likesT (P := P) (w := w) (K := K) (mg := mg) (base := base) T) hr (by decide) (takes_of rfl rfl rfl rfl) (pv 1) (pa_cons pe_int (pa_cons (pv 0) pa_nil))))) (pa_cons (pe_lamC (T := tbs K) (k := 12) (N := ["_law_two", "_law_desk"]) (fr := ["_law_desk"]) (js := [4]) B.tb_law rfl (List.mem_cons_of_mem _ (List.mem_cons_of_mem _ (List.mem_cons_of_mem _ (List.mem_cons_self)))) T.u_law ⟨NdefX.nscope_by (by decide +kernel), NdefX.ndef_free (sc := defScope s_law) (fr := ["_law_desk"]) (by decide +kernel), NdefX.ndef_fr (sc := defScope s_law) (by decide +kernel), rfl, rfl, fun _ _ _ _ _ _ => rfl⟩ (fun _ _ _ _ _ _ _ hr => (pe_mtX (c_Desk_fillT (P := P) (w := w) (K := K) (mg := mg) (base := base) T) hr (by decide) (takes_of rfl rfl rfl rfl) (pv 1) (pa_cons (pv 0) pa_nil)))) pa_nil))) (pa_cons (pe_op op_cat (pv 5) (pe_lst (pa_cons pe_int (pa_cons pe_int (pa_cons (pe_op op_add pe_int (pv 3)) pa_nil))))) (pa_cons pe_int pa_nil))))))
        (pss_one (ps_ret pe_bl))
        pss_nil)
      (pss_cons (ps_if (pt_not (pt_val (pe_cC (js := [4]) (c_law_all (P := P) (w := w) (K := K) (mg := mg) (base := base) T) hr (by decide) rfl (cells_by (N := ["_law_script", "_law_cell", "_law_turn", "_law_far", "_law_desk", "_law_bad", "_law_kept", "_law_asks"]) (sc := defScope s_law) (by decide +kernel)) (by decide) sc_law.nd (fun _ => rfl) (pa_cons (pe_lst (pa_cons (pe_lamC (T := tbs K) (k := 12) (N := ["_law_one", "_law_desk"]) (fr := ["_law_desk"]) (js := [4]) B.tb_law rfl (List.mem_cons_of_mem _ (List.mem_cons_of_mem _ (List.mem_cons_of_mem _ (List.mem_cons_self)))) T.u_law ⟨NdefX.nscope_by (by decide +kernel), NdefX.ndef_free (sc := defScope s_law) (fr := ["_law_desk"]) (by decide +kernel), NdefX.ndef_fr (sc := defScope s_law) (by decide +kernel), rfl, rfl, fun _ _ _ _ _ _ => rfl⟩ (fun _ _ _ _ _ _ _ hr => (pe_mtX (c_Desk_roundsX (P := P) (w := w) (K := K) (mg := mg) (base := base) T B) hr (by decide) (takes_of rfl rfl rfl rfl) (pv 1) (pa_cons (pv 0) pa_nil)))) pa_nil)) (pa_cons (pe_op op_cat (pv 5) (pe_lst (pa_cons pe_int (pa_cons pe_int (pa_cons (pe_op op_add pe_int (pv 3)) pa_nil))))) (pa_cons pe_int pa_nil))))))
        (pss_one (ps_ret pe_bl))
        pss_nil)
      (pss_one (ps_if (PW.pt (pw_or (pt_not (pt_val (C8.pe_c (c_law_puts_right (P := P) (w := w) (K := K) (mg := mg) (base := base) T B) hr (by decide) rfl (pa_cons (pv 4) (pa_cons (pv 3) pa_nil))))) (pw_or1 (pt_cmpR (op_neD hr.units) (C8.pe_c (c_law_told_of (P := P) (w := w) (K := K) (mg := mg) (base := base) T) hr (by decide) rfl (pa_cons (pv 4) pa_nil)) (pv 6) (nomark _)))))
        (pss_one (ps_ret pe_bl))
        pss_nil)))))))))))))))))
    (pss_cons (ps_for PassesOwn.never rfl (pi_range1 (by rfl) T.f_range (pa_cons pe_int pa_nil)) (pg_name (i := 2) sc_law.nd rfl (Or.inl rfl))
      (pss_one (ps_expr (C8.pe_mt (c_Desk_phrase T) hr (by decide) (pv 4) (pa_cons pe_str pa_nil)))))
    (pss_cons (ps_if (pt_not (pt_val (pe_cC (js := [4]) (c_law_all (P := P) (w := w) (K := K) (mg := mg) (base := base) T) hr (by decide) rfl (cells_by (N := ["_law_script", "_law_cell", "_law_turn", "_law_far", "_law_desk", "_law_bad", "_law_kept", "_law_asks"]) (sc := defScope s_law) (by decide +kernel)) (by decide) sc_law.nd (fun _ => rfl) (pa_cons (pe_lst (pa_cons (pe_lamC (T := tbs K) (k := 12) (N := ["_law_one", "_law_desk"]) (fr := ["_law_desk"]) (js := [4]) B.tb_law rfl (List.mem_cons_of_mem _ (List.mem_cons_of_mem _ (List.mem_cons_of_mem _ (List.mem_cons_self)))) T.u_law ⟨NdefX.nscope_by (by decide +kernel), NdefX.ndef_free (sc := defScope s_law) (fr := ["_law_desk"]) (by decide +kernel), NdefX.ndef_fr (sc := defScope s_law) (by decide +kernel), rfl, rfl, fun _ _ _ _ _ _ => rfl⟩ (fun _ _ _ _ _ _ _ hr => (pe_mtX (c_Desk_phraseX (P := P) (w := w) (K := K) (mg := mg) (base := base) T) hr (by decide) (takes_of rfl rfl rfl rfl) (pv 1) (pa_cons (pv 0) pa_nil)))) pa_nil)) (pa_cons (pe_lst (pa_cons pe_str (pa_cons pe_non (pa_cons pe_str pa_nil)))) (pa_cons pe_int pa_nil))))))
      (pss_one (ps_ret pe_bl))
      pss_nil)
    (pss_one (ps_ret (pe_and (pe_cC (js := [4]) (c_law_all (P := P) (w := w) (K := K) (mg := mg) (base := base) T) hr (by decide) rfl (cells_by (N := ["_law_script", "_law_cell", "_law_turn", "_law_far", "_law_desk", "_law_bad", "_law_kept", "_law_asks"]) (sc := defScope s_law) (by decide +kernel)) (by decide) sc_law.nd (fun _ => rfl) (pa_cons (pe_lst (pa_cons (pe_lamC (T := tbs K) (k := 12) (N := ["_law_one", "_law_desk"]) (fr := ["_law_desk"]) (js := [4]) B.tb_law rfl (List.mem_cons_of_mem _ (List.mem_cons_of_mem _ (List.mem_cons_of_mem _ (List.mem_cons_self)))) T.u_law ⟨NdefX.nscope_by (by decide +kernel), NdefX.ndef_free (sc := defScope s_law) (fr := ["_law_desk"]) (by decide +kernel), NdefX.ndef_fr (sc := defScope s_law) (by decide +kernel), rfl, rfl, fun _ _ _ _ _ _ => rfl⟩ (fun _ _ _ _ _ _ _ hr => (pe_mtX (c_Desk_phraseX (P := P) (w := w) (K := K) (mg := mg) (base := base) T) hr (by decide) (takes_of rfl rfl rfl rfl) (pv 1) (pa_cons (pv 0) pa_nil)))) pa_nil)) (pa_cons (pe_lst (pa_cons pe_str pa_nil)) (pa_cons pe_int pa_nil)))) (pe_one (pe_cmpR (op_eqD hr.units) (C8.pe_mt0 (c_Desk_old T) hr (by decide) (C8.pe_mk (c_Desk_init T) hr (by decide) rfl (pa_cons (pe_lst (pa_cons pe_int (pa_cons pe_int (pa_cons pe_int (pa_cons pe_int (pa_cons pe_int (pa_cons pe_int (pa_cons pe_int pa_nil)))))))) pa_nil))) (pe_lst pa_nil) (nomark _))))))))), ?_⟩
    have tb := tabs_nil tb0
    refine ⟨(by show 1 ≤ sizeLine; decide), fun l0 nl0 => ⟨_, rfl, 2, rfl, a, ns.map V.int, rfl, ext_sql (ext_same (same_upd nl0)) hS, ?_⟩⟩
    rw [cut2]
    refine fun p1 np1 => ⟨l0, p1, [.int 0], (ns.take 2).map V.int, rfl, rfl, same_upd np1 _ _ upd_same, upd_same, ?_, fun c0 nc0 => ?_⟩
    · rw [List.length_map, List.length_take]
      exact Nat.le_of_lt (small5000 (by show 1 + _ ≤ 5000; omega))
    have sH := ((same_upd nl0 (o := .lst [.int 0])).trans (same_upd np1 (o := .lst ((ns.take 2).map V.int)))).trans (same_upd nc0 (o := .lst ([.int 0] ++ (ns.take 2).map V.int)))
    have hc0 : (upd (upd (upd H l0 (.lst [.int 0])) p1 (.lst ((ns.take 2).map V.int))) c0 (.lst ([.int 0] ++ (ns.take 2).map V.int))) c0 = some (.lst ((0 :: ns.take 2).map V.int)) := upd_same
    have tb' := tabs_same sH tb
    generalize upd (upd (upd H l0 (.lst [.int 0])) p1 (.lst ((ns.take 2).map V.int))) c0 (.lst ([.int 0] ++ (ns.take 2).map V.int)) = H0 at sH hc0 tb' ⊢
    refine ⟨c0, rfl, ⟨_, SqL.of hc0⟩, ?_⟩
    refine for_list (K := K) (a := c0) (xs := (0 :: ns.take 2).map V.int) (fun i σ G => ∃ v1 v2 v3 v4 v5 v6 v7, σ = [some (.ref a), v1, v2, v3, v4, v5, v6, v7] ∧ ExtN H0 G ∧ Tabs (tbs K) G ∧ (0 < i → HasD K G v4)) ⟨none, none, none, none, none, none, none, rfl, ExtN.refl _, tb', fun z => absurd z (Nat.lt_irrefl _)⟩ (fun i σ G _ p => let ⟨_, _, _, _, _, _, _, _, e, _⟩ := p; ext_sql e (SqL.of hc0)) ?_ ?_
    · rintro i x σ G ex ⟨v1, v2, v3, v4, v5, v6, v7, rfl, e0, t0, _⟩
      obtain ⟨cell, rfl, _⟩ := ivs_of ex
      refine ⟨.int cell, rfl, cell, rfl, 10, 20, rfl, rfl, ⟨by decide, by decide, by decide⟩, _, _, rfl, rfl, (by show (10 : Int) ^ 20 ≠ 0; decide), ?_⟩
      dsimp only
      have h0 : 0 ≤ (if cell < 0 then -cell else cell).fmod ((10 : Int) ^ (20 : Int).toNat) := Int.fmod_nonneg_of_pos _ (by decide)
      generalize (if cell < 0 then -cell else cell).fmod ((10 : Int) ^ (20 : Int).toNat) = far at h0 ⊢
      refine ⟨t0, fun f F G1 e1 t1 n1 hf1 hc1 C1 => ⟨(by show 1 ≤ sizeLine; decide), fun l nl => ?_⟩⟩
      have s4 : Same G1 (upd G1 l (.lst [.ref f])) := same_upd nl
      have hl : (upd G1 l (.lst [.ref f])) l = some (.lst ([f].map V.ref)) := upd_same
      generalize upd G1 l (.lst [.ref f]) = G4 at s4 hl ⊢
      -- no froms
      refine ⟨.int far, rfl, far, rfl, h0, fun G5 v s5 ⟨ds, gl, ln, bad⟩ => ?_⟩
      have x35 : ExtN G1 G5 := ext_same (s4.trans s5)
      refine all_use (n := 0) (fs := [f]) (s5 _ _ hl) gl.gn (by omega) (by decide) ?_ ?_
      · intro f' hf x d hd g
        rw [List.mem_singleton.mp hf]
        exact ref_desk T (lmE x35 hf1) (coE x35 hc1) C1 g (bad d hd)
      refine fun G6 s6 => ⟨true, rfl, iteF ?_⟩
      have e6 : ExtN H0 G6 := e0.trans (e1.trans (x35.trans (ext_same s6)))
      have t6 := tabs_same s6 (tabs_same (s4.trans s5) t1)
      clear C1 hf1 hc1 e1 x35 s4 s5 s6 bad ln e0 t0
      -- the desk
      refine ⟨(by show 2 ≤ sizeLine; decide), fun h nh => fun d dd nd ndd dne => ⟨d, dd, h, [0, 1], rfl, upd_same, ?_, fr01, fun H2 F dk k2 f2 => ⟨rfl, ?_⟩⟩⟩
      · unfold LsAt
        rw [upd_ne (ne_of_none upd_same nd), upd_ne (ne_of_none upd_same ndd)]
        exact upd_same
      have L2 := (Lone.begin (same_upd nh) nd ndd fr01 rfl dk k2 f2).1
      clear dk k2 f2
      refine ⟨.int far, rfl, far, F, rfl, fun x fx z => ?_, fun G7 v s7 gb => ?_⟩
      · obtain ⟨o, eo⟩ := L2.desk.there fx
        rw [z] at eo
        cases eo
      have L3 := L2.next s7
      obtain ⟨b, rfl⟩ : ∃ b, v = .ref b := by
        cases gb with
        | lst _ _ => exact ⟨_, rfl⟩
      refine ⟨(by show 2 ≤ sizeLine; decide), fun t nt => ⟨t, _, rfl, .inl (.inl upd_same), rfl, _, _, rfl, _, _, rfl, rfl, ?_⟩⟩
      have st : Same G7 (upd G7 t (.tup [.ref d, .ref b])) := same_upd nt
      have L4 := L3.next st
      have gb4 := gb.same (offs_same st)
      generalize upd G7 t (.tup [.ref d, .ref b]) = G8 at L4 gb4 ⊢
      clear L2 L3 st gb s7 nh nd ndd dne
      -- the first deeds
      obtain ⟨x2, y2, w2, o2⟩ := L4.obj
      refine ⟨_, rfl, d, _, _, rfl, o2, rfl, d, [0, 1], _, _, F, "ab", rfl, L4.desk, fr01, L4.ok, m_d1, by decide, by decide, fun H3 F3 d3 on3 f3 => ?_⟩
      have L5 : Lone K G6 H3 d [0, 1] dS1 dL1 F3 := L4.went d3 on3 f3 (L4.ok.come fr01 m_d1).1
      have gb5 := gb4.same (off_only on3 f3)
      clear d3 on3 f3 gb4 L4 o2
      obtain ⟨x3, y3, w3, o3⟩ := L5.obj
      refine ⟨_, rfl, d, _, _, rfl, o3, rfl, d, [0, 1], dS1, dL1, F3, "cd", rfl, L5.desk, fr01, L5.ok, m_d2, by decide, by decide, fun H4 F4 d4 on4 f4 => ?_⟩
      have L6 : Lone K G6 H4 d [0, 1] dS2 dL2 F4 := L5.went d4 on4 f4 (L5.ok.come fr01 m_d2).1
      have gb6 := gb5.same (off_only on4 f4)
      clear d4 on4 f4 gb5 L5 o3
      obtain ⟨x4, y4, w4, o4⟩ := L6.obj
      refine ⟨_, rfl, d, _, _, rfl, o4, rfl, d, [0, 1], dS2, dL2, F4, 0, 1, "x", some ((0 : Nat) : Int), Option.none, rfl, L6.desk, fr01, m_d3, by decide, by decide, fun H5 F5 d5 on5 f5 => ?_⟩
      have L7 : Lone K G6 H5 d [0, 1] dS3 dL3 F5 := L6.went d5 on5 f5 (L6.ok.come fr01 m_d3).1
      have gb7 := gb6.same (off_only on5 f5)
      clear d5 on5 f5 gb6 L6 o4
      refine ⟨(by show 3 ≤ sizeLine; decide), fun u nu => ⟨(by show 3 ≤ sizeLine; decide), fun c nc => ?_⟩⟩
      refine ⟨.list [.int 0, .int 1, .int 2], .list [.int 0, .int 1, .int 2], .lst (SqL.of (same_upd nc _ _ upd_same)) (.cons (.int 0) (.cons (.int 1) (.cons (.int 2) .nil))), .lst (SqL.of upd_same) (.cons (.int 0) (.cons (.int 1) (.cons (.int 2) .nil))), rfl, rfl, false, ?_, iteF ?_⟩
      · rw [SeqAt.eqv_refl _ rfl]
        rfl
      have sE : Same H5 (upd (upd H5 u (.lst [V.int (De.none.n : Int), V.int (dS1.n : Int), V.int (dS2.puts.length : Int)])) c (.lst [V.int 0, V.int 1, V.int 2])) := (same_upd nu).trans (same_upd nc)
      have L8 := L7.next sE
      have gb8 := gb7.same (offs_same sE)
      generalize upd (upd H5 u (.lst [V.int (De.none.n : Int), V.int (dS1.n : Int), V.int (dS2.puts.length : Int)])) c (.lst [V.int 0, V.int 1, V.int 2]) = H6 at L8 gb8 ⊢
      clear sE L7 gb7 nu nc
      -- kept
      refine ⟨.ref d, rfl, d, [0, 1], dS3, dL3, F5, rfl, L8.desk, L8.ok, fr01, by decide, fun G9 r s9 kp => ?_⟩
      have W0 : Lw13 K H0 G9 d b r far := ⟨⟨e6.trans (ext_same (L8.same.trans s9)), tabs_same (L8.same.trans s9) t6, ⟨F5, L8.desk.same s9⟩, (gb8.same (offs_same s9)).same off_in⟩, kp⟩
      clear L8 gb8 s9 kp e6 t6
      -- no phrases
      refine ⟨W0.st.tab, fun f1 F1' G1 e1 t1 n1 hf1 hc1 C1 => ⟨t1, fun f2 F2' G2 e2 t2 n2 hf2 hc2 C2 => ⟨(by show 2 ≤ sizeLine; decide), fun m1 nm1 => ?_⟩⟩⟩
      have sm1 : Same G2 (upd G2 m1 (.lst [.ref f1, .ref f2])) := same_upd nm1
      have hm1 : (upd G2 m1 (.lst [.ref f1, .ref f2])) m1 = some (.lst ([f1, f2].map V.ref)) := upd_same
      generalize upd G2 m1 (.lst [.ref f1, .ref f2]) = Gm1 at sm1 hm1 ⊢
      have l1 := (⟨F1', hf1, hc1, C1⟩ : LamIn P w K mg base G1 f1 "_law_one" "_law_desk" _ _).ext (e2.trans (ext_same sm1))
      have l2 := (⟨F2', hf2, hc2, C2⟩ : LamIn P w K mg base G2 f2 "_law_two" "_law_desk" _ _).ext (ext_same sm1)
      have W1 := ((W0.next e1 t1).next e2 t2).same sm1
      clear W0 hf1 hc1 C1 hf2 hc2 C2 t1 t2 sm1 e1 e2
      refine ⟨.ref m1, rfl, W1.st.tab, fun f3 F3' G3 e3 t3 n3 hf3 hc3 C3 => ⟨t3, fun f4 F4' G4 e4 t4 n4 hf4 hc4 C4 => ⟨(by show 2 ≤ sizeLine; decide), fun m3 nm3 => ⟨m1, m3, [.ref f1, .ref f2], [.ref f3, .ref f4], rfl, rfl, same_upd nm3 _ _ ((e3.trans e4) _ _ hm1 fun _ z => nomatch z), upd_same, (by show 2 + 2 ≤ sizeLine; decide), fun k3 nk3 => ?_⟩⟩⟩⟩
      have sm3 : Same G4 (upd (upd G4 m3 (.lst [.ref f3, .ref f4])) k3 (.lst ([.ref f1, .ref f2] ++ [.ref f3, .ref f4]))) := (same_upd nm3).trans (same_upd nk3)
      have hm3 : (upd (upd G4 m3 (.lst [.ref f3, .ref f4])) k3 (.lst ([.ref f1, .ref f2] ++ [.ref f3, .ref f4]))) k3 = some (.lst ([f1, f2, f3, f4].map V.ref)) := upd_same
      generalize upd (upd G4 m3 (.lst [.ref f3, .ref f4])) k3 (.lst ([.ref f1, .ref f2] ++ [.ref f3, .ref f4])) = Gm3 at sm3 hm3 ⊢
      have l3 := (⟨F3', hf3, hc3, C3⟩ : LamIn P w K mg base G3 f3 "_law_this" "_law_desk" _ _).ext (e4.trans (ext_same sm3))
      have l4 := (⟨F4', hf4, hc4, C4⟩ : LamIn P w K mg base G4 f4 "_law_that" "_law_desk" _ _).ext (ext_same sm3)
      have l1 := l1.ext (e3.trans (e4.trans (ext_same sm3)))
      have l2 := l2.ext (e3.trans (e4.trans (ext_same sm3)))
      have W2 := ((W1.next e3 t3).next e4 t4).same sm3
      clear W1 hf3 hc3 C3 hf4 hc4 C4 t3 t4 sm3 e3 e4 hm1
      refine ⟨.ref k3, rfl, W2.st.tab, fun f5 F5' G5 e5 t5 n5 hf5 hc5 C5 => ⟨t5, fun f6 F6' G6 e6 t6 n6 hf6 hc6 C6 => ⟨(by show 2 ≤ sizeLine; decide), fun m5 nm5 => ⟨k3, m5, [.ref f1, .ref f2, .ref f3, .ref f4], [.ref f5, .ref f6], rfl, rfl, same_upd nm5 _ _ ((e5.trans e6) _ _ hm3 fun _ z => nomatch z), upd_same, (by show 4 + 2 ≤ sizeLine; decide), fun k5 nk5 => ?_⟩⟩⟩⟩
      have sm5 : Same G6 (upd (upd G6 m5 (.lst [.ref f5, .ref f6])) k5 (.lst ([.ref f1, .ref f2, .ref f3, .ref f4] ++ [.ref f5, .ref f6]))) := (same_upd nm5).trans (same_upd nk5)
      have hm5 : (upd (upd G6 m5 (.lst [.ref f5, .ref f6])) k5 (.lst ([.ref f1, .ref f2, .ref f3, .ref f4] ++ [.ref f5, .ref f6]))) k5 = some (.lst ([f1, f2, f3, f4, f5, f6].map V.ref)) := upd_same
      generalize upd (upd G6 m5 (.lst [.ref f5, .ref f6])) k5 (.lst ([.ref f1, .ref f2, .ref f3, .ref f4] ++ [.ref f5, .ref f6])) = Gm5 at sm5 hm5 ⊢
      have l5 := (⟨F5', hf5, hc5, C5⟩ : LamIn P w K mg base G5 f5 "_law_it" "_law_desk" _ _).ext (e6.trans (ext_same sm5))
      have l6 := (⟨F6', hf6, hc6, C6⟩ : LamIn P w K mg base G6 f6 "_law_last" "_law_desk" _ _).ext (ext_same sm5)
      have l1 := l1.ext (e5.trans (e6.trans (ext_same sm5)))
      have l2 := l2.ext (e5.trans (e6.trans (ext_same sm5)))
      have l3 := l3.ext (e5.trans (e6.trans (ext_same sm5)))
      have l4 := l4.ext (e5.trans (e6.trans (ext_same sm5)))
      have W3 := ((W2.next e5 t5).next e6 t6).same sm5
      clear W2 hf5 hc5 C5 hf6 hc6 C6 t5 t6 sm5 e5 e6 hm3
      have gB := gn_p0 W3.st.bad
      refine ⟨.ref k5, rfl, ?_⟩
      refine cat_cons (ds := strD far ++ [.int 2, .int (2 + far)]) ?_ fun Gc a1 sc gl => ?_
      · refine DL.cat (by (repeat' (first | exact DT.varI rfl | exact DG.nil | exact DT.non | exact DT.bl _ | exact DT.int _ | exact DT.str _ | exact DT.dnew | refine DG.cons ?_ ?_ | refine DL.lst ?_ ?_ | refine DL.cat ?_ ?_ ?_ | refine DT.lst ?_ ?_ | refine DT.tup ?_ ?_ | refine DT.cat ?_ ?_ ?_ | refine DT.slFrom ?_ ?_ ?_ | refine DT.op0 ?_ ?_ | refine DT.un ?_ | refine DT.opC ?_ ?_ ?_ | (refine DT.var rfl ?_; assumption) | (show _ ≤ _; decide) | (simp only [List.length_cons, List.length_nil, List.length_append]; omega) | omega))) (by (repeat' (first | exact DT.varI rfl | exact DG.nil | exact DT.non | exact DT.bl _ | exact DT.int _ | exact DT.str _ | exact DT.dnew | refine DG.cons ?_ ?_ | refine DL.lst ?_ ?_ | refine DL.cat ?_ ?_ ?_ | refine DT.lst ?_ ?_ | refine DT.tup ?_ ?_ | refine DT.cat ?_ ?_ ?_ | refine DT.slFrom ?_ ?_ ?_ | refine DT.op0 ?_ ?_ | refine DT.un ?_ | refine DT.opC ?_ ?_ ?_ | (refine DT.var rfl ?_; assumption) | (show _ ≤ _; decide) | (simp only [List.length_cons, List.length_nil, List.length_append]; omega) | omega))) ?_
        show 9 + 2 ≤ 5000
        decide
      have W4 := W3.same sc
      obtain ⟨Fc, hDc⟩ := W4.st.desk
      refine ⟨[.ref d], rfl, fun nn zs za zw znd => step13 (fs := [f1, f2, f3, f4, f5, f6]) (n := 1) nn za zw (sc _ _ hm5) gl.gn (by show 9 + 2 ≤ 5000; decide) (by decide) ?_ ?_⟩
      · intro z ez1 ez2 nz f' hf' x e he g
        simp only [List.mem_cons, List.not_mem_nil, or_false] at hf'
        have hb := phn_bad h0 he
        rcases hf' with rfl | rfl | rfl | rfl | rfl | rfl
        · obtain ⟨F', hf, hc, C⟩ := (l1.ext (ext_same sc)).ex
          exact rf_putP T hf hc (by rw [ez1]; exact C) nz ez2 hDc g hb
        · obtain ⟨F', hf, hc, C⟩ := (l2.ext (ext_same sc)).ex
          exact rf_backP T hf hc (by rw [ez1]; exact C) nz ez2 hDc g hb
        · obtain ⟨F', hf, hc, C⟩ := (l3.ext (ext_same sc)).ex
          exact rf_nowP T hf hc (by rw [ez1]; exact C) nz ez2 hDc g hb
        · obtain ⟨F', hf, hc, C⟩ := (l4.ext (ext_same sc)).ex
          exact rf_allP T hf hc (by rw [ez1]; exact C) nz ez2 hDc g hb
        · obtain ⟨F', hf, hc, C⟩ := (l5.ext (ext_same sc)).ex
          exact rf_rowP T hf hc (by rw [ez1]; exact C) nz ez2 hDc g hb
        · obtain ⟨F', hf, hc, C⟩ := (l6.ext (ext_same sc)).ex
          exact rf_likP T hf hc (by rw [ez1]; exact C) nz ez2 hDc g hb
      refine fun Gz sh sz => ⟨sh, true, rfl, iteF ?_⟩
      generalize hidL (adrs zs) Gz = Gy at sz ⊢
      have W5 := W4.same sz
      clear hDc W3 W4 sz sc gl gB hm5 l1 l2 l3 l4 l5 l6
      -- no tongues
      refine ⟨W5.st.tab, fun f1 F1' G1 e1 t1 n1 hf1 hc1 C1 => ⟨t1, fun f2 F2' G2 e2 t2 n2 hf2 hc2 C2 => ⟨(by show 2 ≤ sizeLine; decide), fun m1 nm1 => ?_⟩⟩⟩
      have sm1 : Same G2 (upd G2 m1 (.lst [.ref f1, .ref f2])) := same_upd nm1
      have hm1 : (upd G2 m1 (.lst [.ref f1, .ref f2])) m1 = some (.lst ([f1, f2].map V.ref)) := upd_same
      generalize upd G2 m1 (.lst [.ref f1, .ref f2]) = Gm1 at sm1 hm1 ⊢
      have l1 := (⟨F1', hf1, hc1, C1⟩ : LamIn P w K mg base G1 f1 "_law_one" "_law_desk" _ _).ext (e2.trans (ext_same sm1))
      have l2 := (⟨F2', hf2, hc2, C2⟩ : LamIn P w K mg base G2 f2 "_law_two" "_law_desk" _ _).ext (ext_same sm1)
      have W6 := ((W5.next e1 t1).next e2 t2).same sm1
      clear W5 hf1 hc1 C1 hf2 hc2 C2 t1 t2 sm1 e1 e2
      refine ⟨.ref m1, rfl, W6.st.tab, fun f3 F3' G3 e3 t3 n3 hf3 hc3 C3 => ⟨t3, fun f4 F4' G4 e4 t4 n4 hf4 hc4 C4 => ⟨(by show 2 ≤ sizeLine; decide), fun m3 nm3 => ⟨m1, m3, [.ref f1, .ref f2], [.ref f3, .ref f4], rfl, rfl, same_upd nm3 _ _ ((e3.trans e4) _ _ hm1 fun _ z => nomatch z), upd_same, (by show 2 + 2 ≤ sizeLine; decide), fun k3 nk3 => ?_⟩⟩⟩⟩
      have sm3 : Same G4 (upd (upd G4 m3 (.lst [.ref f3, .ref f4])) k3 (.lst ([.ref f1, .ref f2] ++ [.ref f3, .ref f4]))) := (same_upd nm3).trans (same_upd nk3)
      have hm3 : (upd (upd G4 m3 (.lst [.ref f3, .ref f4])) k3 (.lst ([.ref f1, .ref f2] ++ [.ref f3, .ref f4]))) k3 = some (.lst ([f1, f2, f3, f4].map V.ref)) := upd_same
      generalize upd (upd G4 m3 (.lst [.ref f3, .ref f4])) k3 (.lst ([.ref f1, .ref f2] ++ [.ref f3, .ref f4])) = Gm3 at sm3 hm3 ⊢
      have l3 := (⟨F3', hf3, hc3, C3⟩ : LamIn P w K mg base G3 f3 "_law_this" "_law_desk" _ _).ext (e4.trans (ext_same sm3))
      have l4 := (⟨F4', hf4, hc4, C4⟩ : LamIn P w K mg base G4 f4 "_law_that" "_law_desk" _ _).ext (ext_same sm3)
      have l1 := l1.ext (e3.trans (e4.trans (ext_same sm3)))
      have l2 := l2.ext (e3.trans (e4.trans (ext_same sm3)))
      have W7 := ((W6.next e3 t3).next e4 t4).same sm3
      clear W6 hf3 hc3 C3 hf4 hc4 C4 t3 t4 sm3 e3 e4 hm1
      have gB := gn_p0 W7.st.bad
      refine ⟨.ref k3, rfl, ?_⟩
      refine cat_cons (ds := strD far ++ [.int 3, .int (3 + far)]) ?_ fun Gc a1 sc gl => ?_
      · refine DL.cat (by (repeat' (first | exact DT.varI rfl | exact DG.nil | exact DT.non | exact DT.bl _ | exact DT.int _ | exact DT.str _ | exact DT.dnew | refine DG.cons ?_ ?_ | refine DL.lst ?_ ?_ | refine DL.cat ?_ ?_ ?_ | refine DT.lst ?_ ?_ | refine DT.tup ?_ ?_ | refine DT.cat ?_ ?_ ?_ | refine DT.slFrom ?_ ?_ ?_ | refine DT.op0 ?_ ?_ | refine DT.un ?_ | refine DT.opC ?_ ?_ ?_ | (refine DT.var rfl ?_; assumption) | (show _ ≤ _; decide) | (simp only [List.length_cons, List.length_nil, List.length_append]; omega) | omega))) (by (repeat' (first | exact DT.varI rfl | exact DG.nil | exact DT.non | exact DT.bl _ | exact DT.int _ | exact DT.str _ | exact DT.dnew | refine DG.cons ?_ ?_ | refine DL.lst ?_ ?_ | refine DL.cat ?_ ?_ ?_ | refine DT.lst ?_ ?_ | refine DT.tup ?_ ?_ | refine DT.cat ?_ ?_ ?_ | refine DT.slFrom ?_ ?_ ?_ | refine DT.op0 ?_ ?_ | refine DT.un ?_ | refine DT.opC ?_ ?_ ?_ | (refine DT.var rfl ?_; assumption) | (show _ ≤ _; decide) | (simp only [List.length_cons, List.length_nil, List.length_append]; omega) | omega))) ?_
        show 9 + 2 ≤ 5000
        decide
      have W8 := W7.same sc
      obtain ⟨Fc, hDc⟩ := W8.st.desk
      refine ⟨[.ref d], rfl, fun nn zs za zw znd => step13 (fs := [f1, f2, f3, f4]) (n := 2) nn za zw (sc _ _ hm3) gl.gn (by show 9 + 2 ≤ 5000; decide) (by decide) ?_ ?_⟩
      · intro z ez1 ez2 nz f' hf' x e he g
        simp only [List.mem_cons, List.not_mem_nil, or_false] at hf'
        have hb := ton_bad h0 he
        rcases hf' with rfl | rfl | rfl | rfl
        · obtain ⟨F', hf, hc, C⟩ := (l1.ext (ext_same sc)).ex
          exact rf_putT T hf hc (by rw [ez1]; exact C) nz ez2 hDc g (by decide) hb
        · obtain ⟨F', hf, hc, C⟩ := (l2.ext (ext_same sc)).ex
          exact rf_backT T hf hc (by rw [ez1]; exact C) nz ez2 hDc g (by decide) hb
        · obtain ⟨F', hf, hc, C⟩ := (l3.ext (ext_same sc)).ex
          exact rf_nowT T hf hc (by rw [ez1]; exact C) nz ez2 hDc g (by decide) hb
        · obtain ⟨F', hf, hc, C⟩ := (l4.ext (ext_same sc)).ex
          exact rf_allT T hf hc (by rw [ez1]; exact C) nz ez2 hDc g (by decide) hb
      refine fun Gz sh sz => ⟨sh, true, rfl, iteF ?_⟩
      generalize hidL (adrs zs) Gz = Gy at sz ⊢
      have W9 := W8.same sz
      clear hDc W7 W8 sz sc gl gB hm3 l1 l2 l3 l4
      -- no other tongues
      refine ⟨W9.st.tab, fun f1 F1' G1 e1 t1 n1 hf1 hc1 C1 => ⟨t1, fun f2 F2' G2 e2 t2 n2 hf2 hc2 C2 => ⟨(by show 2 ≤ sizeLine; decide), fun m nm => ?_⟩⟩⟩
      have sm : Same G2 (upd G2 m (.lst [.ref f1, .ref f2])) := same_upd nm
      have hm : (upd G2 m (.lst [.ref f1, .ref f2])) m = some (.lst ([f1, f2].map V.ref)) := upd_same
      generalize upd G2 m (.lst [.ref f1, .ref f2]) = Gm at sm hm ⊢
      have l1 := (⟨F1', hf1, hc1, C1⟩ : LamIn P w K mg base G1 f1 "_law_one" "_law_desk" _ _).ext (e2.trans (ext_same sm))
      have l2 := (⟨F2', hf2, hc2, C2⟩ : LamIn P w K mg base G2 f2 "_law_two" "_law_desk" _ _).ext (ext_same sm)
      have W10 := ((W9.next e1 t1).next e2 t2).same sm
      clear W9 sm hf1 hc1 C1 t1 e1 hf2 hc2 C2 t2 e2
      have gB := gn_p0 W10.st.bad
      refine cat_cons (ds := strD far ++ [.int 0, .int 3, .int (3 + far)]) ?_ fun Gc a1 sc gl => ?_
      · refine DL.cat (by (repeat' (first | exact DT.varI rfl | exact DG.nil | exact DT.non | exact DT.bl _ | exact DT.int _ | exact DT.str _ | exact DT.dnew | refine DG.cons ?_ ?_ | refine DL.lst ?_ ?_ | refine DL.cat ?_ ?_ ?_ | refine DT.lst ?_ ?_ | refine DT.tup ?_ ?_ | refine DT.cat ?_ ?_ ?_ | refine DT.slFrom ?_ ?_ ?_ | refine DT.op0 ?_ ?_ | refine DT.un ?_ | refine DT.opC ?_ ?_ ?_ | (refine DT.var rfl ?_; assumption) | (show _ ≤ _; decide) | (simp only [List.length_cons, List.length_nil, List.length_append]; omega) | omega))) (by (repeat' (first | exact DT.varI rfl | exact DG.nil | exact DT.non | exact DT.bl _ | exact DT.int _ | exact DT.str _ | exact DT.dnew | refine DG.cons ?_ ?_ | refine DL.lst ?_ ?_ | refine DL.cat ?_ ?_ ?_ | refine DT.lst ?_ ?_ | refine DT.tup ?_ ?_ | refine DT.cat ?_ ?_ ?_ | refine DT.slFrom ?_ ?_ ?_ | refine DT.op0 ?_ ?_ | refine DT.un ?_ | refine DT.opC ?_ ?_ ?_ | (refine DT.var rfl ?_; assumption) | (show _ ≤ _; decide) | (simp only [List.length_cons, List.length_nil, List.length_append]; omega) | omega))) ?_
        show 9 + 3 ≤ 5000
        decide
      have W11 := W10.same sc
      obtain ⟨Fc, hDc⟩ := W11.st.desk
      refine ⟨[.ref d], rfl, fun nn zs za zw znd => step13 (fs := [f1, f2]) (n := 2) nn za zw (sc _ _ hm) gl.gn (by show 9 + 3 ≤ 5000; decide) (by decide) ?_ ?_⟩
      · intro z ez1 ez2 nz f' hf' x e he g
        simp only [List.mem_cons, List.not_mem_nil, or_false] at hf'
        have hb := oth_bad h0 he
        rcases hf' with rfl | rfl
        · obtain ⟨F', hf, hc, C⟩ := (l1.ext (ext_same sc)).ex
          exact rf_likT T hf hc (by rw [ez1]; exact C) nz ez2 hDc g (by decide) hb
        · obtain ⟨F', hf, hc, C⟩ := (l2.ext (ext_same sc)).ex
          exact rf_filT T hf hc (by rw [ez1]; exact C) nz ez2 hDc g hb
      refine fun Gz sh sz => ⟨sh, true, rfl, iteF ?_⟩
      generalize hidL (adrs zs) Gz = Gy at sz ⊢
      have W12 := W11.same sz
      clear hDc W10 W11 sz sc gl gB hm l1 l2
      -- no hands
      refine ⟨W12.st.tab, fun f1 F1' G1 e1 t1 n1 hf1 hc1 C1 => ⟨(by show 1 ≤ sizeLine; decide), fun m nm => ?_⟩⟩
      have sm : Same G1 (upd G1 m (.lst [.ref f1])) := same_upd nm
      have hm : (upd G1 m (.lst [.ref f1])) m = some (.lst ([f1].map V.ref)) := upd_same
      generalize upd G1 m (.lst [.ref f1]) = Gm at sm hm ⊢
      have l1 := (⟨F1', hf1, hc1, C1⟩ : LamIn P w K mg base G1 f1 "_law_one" "_law_desk" _ _).ext (ext_same sm)
      have W13 := (W12.next e1 t1).same sm
      clear W12 sm hf1 hc1 C1 t1 e1
      have gB := gn_p0 W13.st.bad
      refine cat_cons (ds := strD far ++ [.int 0, .int 5, .int (5 + far)]) ?_ fun Gc a1 sc gl => ?_
      · refine DL.cat (by (repeat' (first | exact DT.varI rfl | exact DG.nil | exact DT.non | exact DT.bl _ | exact DT.int _ | exact DT.str _ | exact DT.dnew | refine DG.cons ?_ ?_ | refine DL.lst ?_ ?_ | refine DL.cat ?_ ?_ ?_ | refine DT.lst ?_ ?_ | refine DT.tup ?_ ?_ | refine DT.cat ?_ ?_ ?_ | refine DT.slFrom ?_ ?_ ?_ | refine DT.op0 ?_ ?_ | refine DT.un ?_ | refine DT.opC ?_ ?_ ?_ | (refine DT.var rfl ?_; assumption) | (show _ ≤ _; decide) | (simp only [List.length_cons, List.length_nil, List.length_append]; omega) | omega))) (by (repeat' (first | exact DT.varI rfl | exact DG.nil | exact DT.non | exact DT.bl _ | exact DT.int _ | exact DT.str _ | exact DT.dnew | refine DG.cons ?_ ?_ | refine DL.lst ?_ ?_ | refine DL.cat ?_ ?_ ?_ | refine DT.lst ?_ ?_ | refine DT.tup ?_ ?_ | refine DT.cat ?_ ?_ ?_ | refine DT.slFrom ?_ ?_ ?_ | refine DT.op0 ?_ ?_ | refine DT.un ?_ | refine DT.opC ?_ ?_ ?_ | (refine DT.var rfl ?_; assumption) | (show _ ≤ _; decide) | (simp only [List.length_cons, List.length_nil, List.length_append]; omega) | omega))) ?_
        show 9 + 3 ≤ 5000
        decide
      have W14 := W13.same sc
      obtain ⟨Fc, hDc⟩ := W14.st.desk
      refine ⟨[.ref d], rfl, fun nn zs za zw znd => step13 (fs := [f1]) (n := 7) nn za zw (sc _ _ hm) gl.gn (by show 9 + 3 ≤ 5000; decide) (by decide) ?_ ?_⟩
      · intro z ez1 ez2 nz f' hf' x e he g
        simp only [List.mem_cons, List.not_mem_nil, or_false] at hf'
        have hb := han_bad h0 he
        rcases hf' with rfl
        · obtain ⟨F', hf, hc, C⟩ := (l1.ext (ext_same sc)).ex
          exact rf_rndH T hf hc (by rw [ez1]; exact C) nz ez2 hDc g dS_ok fr01 hb
      refine fun Gz sh sz => ⟨sh, true, rfl, iteF ?_⟩
      generalize hidL (adrs zs) Gz = Gy at sz ⊢
      have W15 := W14.same sz
      clear hDc W13 W14 sz sc gl gB hm l1
      -- puts; nothing has changed
      obtain ⟨Fd, hDd⟩ := W15.st.desk
      refine ⟨_, rfl, .int far, rfl, d, far, Fd, rfl, h0, hDd, W15.st.tab, fun Ga ea ta => ⟨true, rfl, iteF ?_⟩⟩
      have WA := W15.next ea ta
      obtain ⟨Fe, hDe⟩ := WA.st.desk
      refine ⟨.ref d, rfl, d, [0, 1], dS3, dL3, Fe, rfl, hDe, dS_ok, fr01, by decide, fun Gb r2 sb kp2 => ?_⟩
      have WB := WA.same sb
      refine ⟨.ref r, rfl, toldD [0, 1] dS3 dL3, toldD [0, 1] dS3 dL3, kp2.dp, WB.kp.dp, by decide +kernel, by decide +kernel, false, ?_, iteF ?_⟩
      · rw [show PyData.eqv (toldD [0, 1] dS3 dL3) (toldD [0, 1] dS3 dL3) = true by decide +kernel]
        rfl
      obtain ⟨Ff, hDf⟩ := WB.st.desk
      exact ⟨_, _, _, _, _, _, _, rfl, WB.st.ext, WB.st.tab, fun _ => ⟨d, Ff, rfl, hDf⟩⟩
    · rintro σ G ⟨v1, v2, v3, v4, v5, v6, v7, rfl, e0, t0, hd⟩
      obtain ⟨d, F, rfl, hD⟩ := hd (by rw [List.length_map, List.length_cons]; omega)
      refine ⟨4, rfl, by decide, by decide, ?_⟩
      refine for_range (lo := 0) (n := (4 : Int).toNat) (fun i σ H4 => ∃ (v2 : Option V) (F4 : Addr → Prop) (S : De) (ls : List Line), σ = [some (.ref a), v1, v2, v3, some (.ref d), v5, v6, v7] ∧ DeK K H4 d [0, 1] S ls F4 ∧ S.Ok [0, 1] ∧ S.n = 2 + i ∧ S.puts.length = 3 + i ∧ ls.length = 3 + i ∧ Tabs (tbs K) H4) ⟨v2, F, dS3, dL3, rfl, hD, dS_ok, rfl, rfl, rfl, t0⟩ ?_ ?_
      · rintro i σ H4 hi ⟨v2', F4, S, ls, rfl, dk, ok, hn, hp, hl, tb4⟩
        have hi : i < 4 := hi
        obtain ⟨F5, dk5, _, pl⟩ := dk.shrink
        obtain ⟨B5, hB, _⟩ := id dk5
        have may : S.May [0, 1] (.phrase "zz") := ⟨by omega, tx_zz⟩
        refine ⟨.ref d, rfl, d, _, _, rfl, hB.obj, rfl, d, [0, 1], S, ls, F5, "zz", rfl, dk5, fr01, ok, may, by omega, by omega, fun H5 F6 d6 on6 f6 => ?_⟩
        refine ⟨_, F6, S.more.lay S.n 0 "zz" Option.none, _, rfl, d6, (ok.come fr01 may).1, ?_, ?_, ?_, deed_tabs tb4 pl on6⟩
        · show S.n + 1 = 2 + (i + 1)
          omega
        · show (S.puts ++ [_]).length = 3 + (i + 1)
          rw [List.length_append, List.length_singleton]
          omega
        · rw [List.length_append, List.length_singleton]
          omega
      rintro σ H4 ⟨v2', F4, S, ls, rfl, dk, ok, hn, hp, hl, tb4⟩
      have hn : S.n = 6 := hn
      clear hD hd
      -- bad texts at a full desk
      refine ⟨tb4, fun f F1' G1 e1 t1 n1 hf1 hc1 C1 => ⟨(by show 1 ≤ sizeLine; decide), fun m nm => ?_⟩⟩
      have sm : Same G1 (upd G1 m (.lst [.ref f])) := same_upd nm
      have hm : (upd G1 m (.lst [.ref f])) m = some (.lst ([f].map V.ref)) := upd_same
      generalize upd G1 m (.lst [.ref f]) = Gb at sm hm ⊢
      refine lst_cons (ds := [.str "", .none, .str "A"]) ?_ fun Gc a1 sc gl => ?_
      · refine DL.lst (by (repeat' (first | exact DT.varI rfl | exact DG.nil | exact DT.non | exact DT.bl _ | exact DT.int _ | exact DT.str _ | exact DT.dnew | refine DG.cons ?_ ?_ | refine DL.lst ?_ ?_ | refine DL.cat ?_ ?_ ?_ | refine DT.lst ?_ ?_ | refine DT.tup ?_ ?_ | refine DT.cat ?_ ?_ ?_ | refine DT.slFrom ?_ ?_ ?_ | refine DT.op0 ?_ ?_ | refine DT.un ?_ | refine DT.opC ?_ ?_ ?_ | (refine DT.var rfl ?_; assumption) | (show _ ≤ _; decide) | (simp only [List.length_cons, List.length_nil, List.length_append]; omega) | omega))) ?_
        show 3 ≤ 5000
        decide
      have xs := ext_same (sm.trans sc)
      obtain ⟨F7, hDc, _⟩ := dk.ext (e1.trans xs)
      refine ⟨[.ref d], rfl, fun nn zs za zw znd => step13 (fs := [f]) (n := 3) nn za zw (sc _ _ hm) gl.gn (by show 3 ≤ 5000; decide) (by decide) ?_ ?_⟩
      · intro z ez1 ez2 nz f' hf' x e he g
        rw [List.mem_singleton.mp hf']
        obtain ⟨hs, hb⟩ : Short e ∧ txD e = false := by
          simp only [List.mem_cons, List.not_mem_nil, or_false] at he
          rcases he with rfl | rfl | rfl <;> exact badT_of (by decide +kernel)
        exact rf_phrX T (lmE xs hf1) (coE xs hc1) (by rw [ez1]; exact C1) nz ez2 hDc g hs hb
      refine fun Gz sh sz => ⟨sh, true, rfl, iteF ?_⟩
      generalize hidL (adrs zs) Gz = Gy at sz ⊢
      have dk2 := hDc.same sz
      have tb5 := tabs_same sz (tabs_same (sm.trans sc) t1)
      clear hDc dk tb4 xs e1 t1 hf1 hc1 C1 sm hm sc gl sz
      -- one phrase more
      refine ⟨tb5, fun f F1' G1 e1 t1 n1 hf1 hc1 C1 => ⟨(by show 1 ≤ sizeLine; decide), fun m nm => ?_⟩⟩
      have sm : Same G1 (upd G1 m (.lst [.ref f])) := same_upd nm
      have hm : (upd G1 m (.lst [.ref f])) m = some (.lst ([f].map V.ref)) := upd_same
      generalize upd G1 m (.lst [.ref f]) = Gb at sm hm ⊢
      refine lst_cons (ds := [.str "a"]) ?_ fun Gc a1 sc gl => ?_
      · refine DL.lst (by (repeat' (first | exact DT.varI rfl | exact DG.nil | exact DT.non | exact DT.bl _ | exact DT.int _ | exact DT.str _ | exact DT.dnew | refine DG.cons ?_ ?_ | refine DL.lst ?_ ?_ | refine DL.cat ?_ ?_ ?_ | refine DT.lst ?_ ?_ | refine DT.tup ?_ ?_ | refine DT.cat ?_ ?_ ?_ | refine DT.slFrom ?_ ?_ ?_ | refine DT.op0 ?_ ?_ | refine DT.un ?_ | refine DT.opC ?_ ?_ ?_ | (refine DT.var rfl ?_; assumption) | (show _ ≤ _; decide) | (simp only [List.length_cons, List.length_nil, List.length_append]; omega) | omega))) ?_
        show 1 ≤ 5000
        decide
      have xs := ext_same (sm.trans sc)
      obtain ⟨F8, hDc, _⟩ := dk2.ext (e1.trans xs)
      refine ⟨[.ref d], rfl, fun nn zs za zw znd => step13 (fs := [f]) (n := 11) nn za zw (sc _ _ hm) gl.gn (by show 1 ≤ 5000; decide) (by decide) ?_ ?_⟩
      · intro z ez1 ez2 nz f' hf' x e he g
        rw [List.mem_singleton.mp hf']
        have ee := List.mem_singleton.mp he
        subst ee
        have hs : Short (.str "a") := show (Str.ofString "a").length ≤ 5000 by decide +kernel
        exact rf_phrM T (lmE xs hf1) (coE xs hc1) (by rw [ez1]; exact C1) nz ez2 hDc g hs (by decide +kernel) hn
      refine fun Gz sh sz => ⟨sh, true, rfl, iteT ?_⟩
      generalize hidL (adrs zs) Gz = Gy2 at sz ⊢
      refine ⟨(by show 7 ≤ sizeLine; decide), fun h nh => fun y dd ny ndd dne => ⟨y, dd, h, [0, 1, 2, 3, 4, 5, 6], rfl, upd_same, ?_, fr7, fun H2 F2 dk2 k2 f2 => ⟨rfl, ?_⟩⟩⟩
      · unfold LsAt
        rw [upd_ne (ne_of_none upd_same ny), upd_ne (ne_of_none upd_same ndd)]
        exact upd_same
      obtain ⟨B2, hB2, _⟩ := id dk2
      refine ⟨y, _, _, rfl, hB2.obj, rfl, y, [0, 1, 2, 3, 4, 5, 6], De.none, [], F2, rfl, dk2, De.none_ok, fr7, fun H3 r s3 nr hr3 => ?_⟩
      have h3 : PrsAt H3 r [] := hr3
      refine ⟨Nat.zero_le _, fun e ne => ⟨.list [], .list [], dp_prs (ps := []) (h3.same (same_upd ne)), .lst (SqL.of upd_same) .nil, rfl, rfl, ?_⟩⟩
      rw [SeqAt.eqv_refl _ rfl]
      exact q _

end PD

namespace PD
open PySem PySem.Spec PyProof.Rows L2
theorem facts {P : Program} {w : World} {K : PySem.W.Frag} {h : Heap} {mg : Str → Option Value} {f : Addr} (X : K.In h) (G : h.Ns mainGlobals mg) (hfa : mg ("law" : Str) = some (.ref f)) (c : He.SaysX fa fn [] tfs ex w h K) :
    ∃ fd : FuncData, (∀ (t : Shared) (v : Value), BindsTo t fd ⟨[v], []⟩ [("_law_script", v)]) ∧ ∀ base : Heap, K.In base → base.Ns mainGlobals mg → (∀ p ∈ tfs.map (He.cT K), LamX.TabB base mg p.1 p.2) → FnG P w K mg base 17 f fd ["_law_script"] (spLaw K) := by
  have T : Tx K mg := tx_mk X G c
  obtain ⟨fd, F⟩ := T.F_law
  have e := hfa.symm.trans T.g_law
  cases e
  have b := FunD.bindsA (ps := ["_law_script"]) F fun _ _ _ _ _ _ us hl => match us, hl with | [_], _ => rfl
  refine ⟨fd, fun t v => b t [v] rfl, fun base _ _ hB => lawG T (tb_mk hB) F⟩
end PD
open PySem PySem.W PySem.Calls PyProof.Rows
set_option maxRecDepth 100000 in
set_option maxHeartbeats 0 in
theorem PySem.Challenge.cw_phrasedesk_k13_refused_desks_holds : PySem.Challenge.rw_phrasedesk_k13_refused_desks.Holds := by
  w_on; o_law
  refine HandSHeadRun.head_any (r := OpenLaw.row PySem.Challenge.rw_phrasedesk_k13_refused_desks) (q := view (OpenLaw.row PySem.Challenge.rw_phrasedesk_k13_refused_desks).prog [62]) (H := PD.hk) (ob := PD.ob) (M := 6000) (loose := PD.loose) (d := HandSHeadRun.topDef (OpenLaw.row PySem.Challenge.rw_phrasedesk_k13_refused_desks).prog 62) (kwd := []) PD.ob_eq
    (by kernel_rfl) (fun s => by kernel_rfl) PD.run (by kernel_rfl) (by kernel_rfl) (by kernel_rfl) (by rfl) (by first | assumption | decide +kernel) (by decide +kernel) ⟨rfl, rfl, rfl, rfl, rfl, by decide +kernel⟩ ?hw ?hc
  case hw => w_witness2
  case hc =>
    refine PD.walkT (l := PySem.Challenge.rw_phrasedesk_k13_refused_desks) (n := 63) (lv := 17) (x := "_law_script") rfl (by decide) (by kernel_rfl) ⟨rfl, by decide, by decide⟩ ?F
    intro w mg fa h Y G hmg0
    obtain ⟨K, KX, c⟩ := Y
    have hmg : mg ("law" : PySem.Str) = some (.ref fa) := by
      have e : (HandSHeadRun.topDef (OpenLaw.row PySem.Challenge.rw_phrasedesk_k13_refused_desks).prog 62).name = ("law" : PySem.Str) := by kernel_rfl
      rw [← e]
      exact hmg0
    obtain ⟨fd, hb, hF⟩ := PD.facts (P := (PySem.Challenge.rw_phrasedesk_k13_refused_desks).prog) (w := w) KX G hmg c
    refine ⟨K, fd, PD.spLaw K, PD.tfs.map (He.cT K), KX, ?_, ?_, ?_, hb, fun G' a ns _ ht hS => ⟨a, ns, rfl, ht, hS, fun _ => rfl⟩, hF⟩
    · intro p hp
      obtain ⟨d, hd, rfl⟩ := List.mem_map.mp hp
      exact c.empty d hd
    · intro p hp
      obtain ⟨d, hd, rfl⟩ := List.mem_map.mp hp
      exact c.out d hd
    · intro p hp
      obtain ⟨d, hd, rfl⟩ := List.mem_map.mp hp
      exact PySem.W.codeHd_of_K KX (c.hd d hd)
